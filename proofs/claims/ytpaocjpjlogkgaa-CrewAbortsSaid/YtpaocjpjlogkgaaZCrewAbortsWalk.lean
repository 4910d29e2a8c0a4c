/-
  CrewAborts, walked: true of whatever comes, in whatever memory.
-/
import Derived.Test.YtpaocjpjlogkgaaZCrwAw
import Derived.Test.YtpaocjpjlogkgaaZCrwWk
import Derived.Test.YtpaocjpjlogkgaaZCrwLw
import Derived.Test.YtpaocjpjlogkgaaQCrwF
import Derived.Test.YtpaocjpjlogkgaaQPooV
import Derived.Test.YtpaocjpjlogkgaaQCelK
import Derived.Test.YtpaocjpjlogkgaaQRely
import Derived.Test.YtpaocjpjlogkgaaQMchK
namespace Go.Proofs.Ytpaocjpjlogkgaa
open Go Go.RowKit
set_option maxRecDepth 100000
attribute [local go_sem] look findAt
attribute [local simp] depsOf isV Region.binds

theorem st_rslB {ops : Array Oper} {rest : List Oper} {o : Oper} {a : Act} {w : World} {Q : Exit → Act → World → Prop} (g : Nat) {cs : Array Value} (hk : Bk w g 44 cs) (hs : cs.size = 3) (y : RsL) (x v : Operand) (hgd : o.guard = none) (ho : o.op = .store 44 x v) (hx : a.eval x = .pointer (some ⟨g, 0, none⟩)) (hy : a.eval v = .agg (rslA y))
    (h : wpList Try.prog ops Q rest (a.put o.dst undef) (w.setRow g (rslA y))) : wpList Try.prog ops Q (o :: rest) a w :=
  wpList_store_row hgd _ x v ho g _ hx hy _ _ hk infoRs hs (by simp [Value.oneCell']) h
abbrev rsZB : Array Value := #[.int .i64 0, .int .i64 0, .slice none 0 0]
theorem fresh_resB (w : World) (cs : Array Value) : Below w.heap.size w ((w.alloc (.cells rsZB 44)).setRow w.heap.size cs) := below_row (below_alloc1 w _) (Nat.le_refl _) _
theorem take_memB {α : Type} {l : List α} {j : Nat} {x r : α} (hx : l[j]? = some x) : r ∈ l.take (j + 1) ↔ r ∈ l.take j ∨ r = x := by
  rw [List.take_add_one, hx, Option.toList_some, List.mem_append, List.mem_singleton]
theorem resT_injB {cs : List Cmd} {b0 : List Ent} {i k : Nat} (h : resT cs b0 i = resT cs b0 k) : i = k := by
  have : (resT cs b0 i).seq = (resT cs b0 k).seq := congrArg Rst.seq h
  have : (i : Int) + 1 = (k : Int) + 1 := this
  omega
/-- it is none, or the number of one that wrote. -/
def oneB (cs : List Cmd) (b0 : List Ent) (n b : Nat) (v : Int) : Prop := v = 0 ∨ ∃ k, k < n ∧ wroteT cs b0 b k ∧ v = (k : Int) + 1
theorem oneB_last {cs : List Cmd} {b0 : List Ent} {n b : Nat} {v : Int} (h : oneB cs b0 n b v) (hm : ∀ k, k < n → wroteT cs b0 b k → (k : Int) + 1 ≤ v) : v = lastT cs b0 b n := by
  have h0 := last_le cs b0 b n
  rcases last_is cs b0 b n with e | ⟨k, hk, hw, e⟩
  · rcases h with rfl | ⟨j, hj, hw, rfl⟩
    · exact e.symm
    · have := last_ge hj hw
      omega
  · have h1 := hm k hk hw
    rcases h with rfl | ⟨j, hj, hw2, rfl⟩
    · omega
    · have := last_ge hj hw2
      omega
theorem oneB_bounds {cs : List Cmd} {b0 : List Ent} {n b : Nat} {v : Int} (h : oneB cs b0 n b v) : 0 ≤ v ∧ v ≤ n := by
  rcases h with rfl | ⟨k, hk, -, rfl⟩ <;> omega

section
variable (l : List CmL) (A : Option Addr) (n c : Nat) (ts : List Int) (tA : Option Addr) (tn tc : Nat)

set_option maxHeartbeats 4000000 in
theorem crewAborts_no (hz : n ≤ 9223372036854775807) (w : World) (h : Cmds w A c l) (hN : l.length = n) (hr : ¬ R17 l) :
    Calls Try.prog 4 #[.slice A n c, .slice tA tn tc] w fun e w' => e = .returned (.bool true) ∧ Below w.heap.size w w' := by
  have aw := Lib.hid (fun W => awake17 W)
  have hri := Lib.hid (right17_no h hN hz hr)
  clear h hN hr
  go_enter Try.func4, Try.ntmps4
  go_wp2_with (first
    | (go_at_call 6; go_must ((with_reducible refine hri.out.mono ?_); rintro e w1 ⟨rfl, hb1⟩; have B1 := Lib.hid hb1; clear hb1))
    | (go_at_call 7; go_must ((with_reducible refine (aw.out _).mono ?_); rintro e w2 ⟨rfl, hb2⟩; have B2 := Lib.hid (bnext B1.out hb2); clear hb2)))
  go_ret
  exact ⟨rfl, B2.out⟩

set_option maxHeartbeats 4000000 in
theorem crewAborts_many (w : World) (h : Cmds w A c l) (hN : l.length = n) (hr : R17 l) (hm : 300 < tn) :
    Calls Try.prog 4 #[.slice A n c, .slice tA tn tc] w fun e w' => e = .returned (.bool true) ∧ Below w.heap.size w w' := by
  have aw := Lib.hid (fun W => awake17 W)
  have hri := Lib.hid (right17_yes h hN hr)
  have d1 : decide ((300 : Int) < (tn : Int)) = true := decide_eq_true (by omega)
  clear h hN hr
  go_enter Try.func4, Try.ntmps4
  go_wp2_with (first
    | (go_at_call 6; go_must ((with_reducible refine hri.out.mono ?_); rintro e w1 ⟨rfl, hb1⟩; have B1 := Lib.hid hb1; clear hb1))
    | (go_at_call 7; go_must ((with_reducible refine (aw.out _).mono ?_); rintro e w2 ⟨rfl, hb2⟩; have B2 := Lib.hid (bnext B1.out hb2); clear hb2)))
  go_ret
  exact ⟨rfl, B2.out⟩

set_option maxHeartbeats 32000000 in
theorem crewAborts_main (w : World) (h : Cmds w A c l) (hN : l.length = n) (hr : R17 l) (hm : tn ≤ 300) (hts : U8s w tA tc ts) (htn : ts.length = tn) (htr : ∀ x ∈ ts, 0 ≤ x ∧ x ≤ 255) :
    Calls Try.prog 4 #[.slice A n c, .slice tA tn tc] w fun e w' => e = .returned (.bool true) ∧ Below w.heap.size w w' := by
  have aw := Lib.hid (fun W => awake17 W)
  have hri := Lib.hid (right17_yes h hN hr)
  have hre : Hid (∀ W, Calls Try.prog 9 #[.int .i64 6] W (AddPost 6 0 hd0 (restX 6) W)) := Lib.hid (fun W => rest_any 6 (by decide) (by decide) W)
  have hst := Lib.hid (fun W (hW : Below w.heap.size w W) z (hz : CwIs 6 0 (restX 6) W z) => start_any (h.below hW) hN hr hz)
  have d1 : decide ((300 : Int) < (tn : Int)) = false := decide_eq_false (by omega)
  have hn20 : n ≤ 20 := by rw [← hN]; exact hr.2
  have H := Lib.hid h
  have HN := Lib.hid hN
  have HR := Lib.hid hr
  have HTS := Lib.hid hts
  have HTN := Lib.hid htn
  have HTR := Lib.hid htr
  obtain ⟨gt, gi, g0, -⟩ := hr.goes5000 (tsN ts)
  obtain ⟨R, hR⟩ : ∃ R, R = goP (tsN ts) 5000 0 (startX 6 (csOf l)) := ⟨_, rfl⟩
  rw [← hR] at gt gi g0
  obtain ⟨t, hRt⟩ : ∃ t : Nat, R.2 = (t : Int) := ⟨R.2.toNat, by omega⟩
  have hwk : Hid (∀ W z, Below w.heap.size w W → CwIs 6 0 (startX 6 (csOf l)) W z → Calls Try.prog 11 #[.agg (cwA 6 0 hd0 z), .slice tA tn tc, .int .i64 5000] W (CwErr 6 0 hd0 R.1 z (t : Int) W)) := Lib.hid (fun W z hW hz => by
    have := worked_any 6 0 hd0 (csOf l) b06 (startX 6 (csOf l)) z ts tA tn tc 5000 W hz hr.inv hr.cmds' goodT6 List.length_replicate (by have := hr.few; omega) (by decide) (by decide) (hts.below hW) htn htr (by decide)
    rwa [← hR, hRt] at this)
  have hcl : (csOf l).length = n := by rw [List.length_map]; exact hN
  obtain ⟨f1, f2, f3, f4⟩ := gi.fin gt
  rw [hcl] at f1 f2 f3 f4
  have SEQ : Hid (∀ b, b < 6 → (R.1.blocks[b]?.getD entZ).seq = lastT (csOf l) b06 b n) := Lib.hid (fun b hb => by
    rw [f1]
    refine ser_seq hr.cmds' (by rw [List.length_replicate]; exact hb) ?_ n (by rw [hcl]; exact Nat.le_refl _)
    have h6 : b = 0 ∨ b = 1 ∨ b = 2 ∨ b = 3 ∨ b = 4 ∨ b = 5 := by omega
    rcases h6 with rfl | rfl | rfl | rfl | rfl | rfl <;> rfl)
  have F2 := Lib.hid f2
  have F3 := Lib.hid f3
  have F4 := Lib.hid f4
  have HCM : Hid (∀ k x, l[k]? = some x → cmAt (csOf l) k = x.c) := Lib.hid (fun k x hx => by
    unfold cmAt
    rw [List.getElem?_map, hx]
    rfl)
  clear gt gi g0 hR hRt f1 f2 f3 f4 hcl
  clear h hN hr hts htn htr
  go_enter Try.func4, Try.ntmps4
  have d2 : decide ((t : Int) < 0) = false := decide_eq_false (by omega)
  go_wp2_with (first
    | (go_at_call 6; go_must ((with_reducible refine hri.out.mono ?_); rintro e w1 ⟨rfl, hb1⟩; have B1 := Lib.hid hb1; clear hb1))
    | (go_at_call 9; go_must ((with_reducible refine (hre.out _).mono ?_); rintro e w2 ⟨z2, rfl, hI2, hb2⟩; have I2 := Lib.hid hI2; have B2 := Lib.hid (bnext B1.out hb2); clear hI2 hb2))
    | (go_at_call 8; go_must ((with_reducible refine (hst.out _ B2.out z2 I2.out).mono ?_); rintro e w3 ⟨z3, rfl, hI3, hb3⟩; have I3 := Lib.hid hI3; have B3 := Lib.hid (bnext B2.out hb3); clear hI3 hb3))
    | (go_at_call 11; go_must ((with_reducible refine (hwk.out _ z3 B3.out I3.out).mono ?_); rintro e w5 ⟨z5, rfl, hI5, hb5, -⟩; have N5 := Lib.hid (Bk.new w5 34 cwZ); have m5 : z5.rn = n := (by rw [← hI5.rs.lenR]; exact F2.out); obtain ⟨w5', hw5⟩ : ∃ W, W = (w5.alloc (.cells cwZ 34)).setRow w5.heap.size (cwA 6 0 hd0 z5) := ⟨_, rfl⟩; have HW5 := Lib.hid hw5.symm; have f5 : Below w5.heap.size w5 w5' := (by rw [hw5]; exact fresh_crew w5 _); have I5 := Lib.hid (hI5.below f5); have K5 : Hid (Bk w5' w5.heap.size 34 (cwA 6 0 hd0 z5)) := Lib.hid (by rw [hw5]; exact N5.out.setRow _); have B5 := Lib.hid (bnext (bnext B3.out hb5) f5); clear hI5 hw5 f5 hb5; obtain ⟨p0, -, -, -, pl, -⟩ := K5.out.crew))
    | (with_reducible refine st_cw w5.heap.size N5.out rfl 6 0 hd0 z5 _ _ rfl rfl rfl rfl ?_; rw [HW5.out]))
  obtain ⟨g, hg⟩ : ∃ g, g = w5.heap.size := ⟨_, rfl⟩
  rw [← hg] at K5 ⊢
  clear hg HW5 N5 I3 I2 hwk hst hre hri B1 B2 B3 p0 pl
  have M5 := Lib.hid m5
  clear m5
  go_loopw [7] (fun cc wr => ∃ b : Nat, b ≤ 6 ∧ cc = .int .i64 b ∧ Hid (Below w5'.heap.size w5' wr)) (fun cc _ => 6 - (intOf cc).toNat)
  case atStart => exact ⟨0, by omega, rfl, Lib.hid (Below.refl _ _)⟩
  case round =>
    obtain ⟨b, hb, rfl, HB⟩ := hrel
    by_cases hb6 : b < 6
    · have d3 : (b : Int) < 6 := by omega
      go_wp2
      go_loopw [8, 9] (fun ss cc wq => ∃ (i : Nat) (v : Int), i ≤ n ∧ ss = .int .i64 v ∧ cc = .int .i64 i ∧ Hid (oneB (csOf l) b06 n b v) ∧ Hid (∀ k, resT (csOf l) b06 k ∈ R.1.results.take i → wroteT (csOf l) b06 b k → (k : Int) + 1 ≤ v) ∧ Hid (Below w5'.heap.size w5' wq)) (fun _ cc _ => n - (intOf cc).toNat)
      case atStart => exact ⟨0, 0, Nat.zero_le _, rfl, rfl, Lib.hid (.inl rfl), Lib.hid (fun k hk => by rw [List.take_zero] at hk; cases hk), HB⟩
      case round =>
        clear HB
        obtain ⟨i, v, hi, rfl, rfl, HO, HM, HB⟩ := hrel
        obtain ⟨-, -, -, p3, pl, -⟩ := (K5.out.below HB.out).crew
        rw [M5.out] at p3
        have hbd := oneB_bounds HO.out
        by_cases hin : i < n
        · have d4 : (i : Int) < (n : Int) := by omega
          obtain ⟨x', hx'⟩ := rsl_at (l := z5.rl) (i := i) (by rw [I5.out.rs.len, M5.out]; exact hin)
          obtain ⟨rb, ro, hrA, hat⟩ := I5.out.rs.sl.lies hx'
          have hrc := I5.out.rs.sl.cap
          rw [I5.out.rs.len, M5.out] at hrc
          have hrj := I5.out.rs.at hx'
          obtain ⟨k, hk, hrk⟩ := F4.out x'.r (List.mem_of_getElem? hrj)
          obtain ⟨rc, hrcc⟩ : ∃ rc, rc = z5.rc := ⟨_, rfl⟩
          rw [← hrcc] at hrc p3
          rw [hrA] at p3
          have d5 : (i : Int) < (rc : Int) := by omega
          have HTM : Hid (∀ q, resT (csOf l) b06 q ∈ R.1.results.take (i + 1) ↔ resT (csOf l) b06 q ∈ R.1.results.take i ∨ resT (csOf l) b06 q = x'.r) := Lib.hid (fun q => take_memB hrj)
          have HRK := Lib.hid hrk
          obtain ⟨a0, a1, a2, -, al⟩ := hat wr HB.out
          have N6 := Lib.hid (Bk.new wr 44 rsZB)
          obtain ⟨w6, hw6⟩ : ∃ W, W = (wr.alloc (.cells rsZB 44)).setRow wr.heap.size (rslA x') := ⟨_, rfl⟩
          have HW6 := Lib.hid hw6.symm
          have f6 : Below wr.heap.size wr w6 := by rw [hw6]; exact fresh_resB wr _
          have B6 := Lib.hid (bnext HB.out f6)
          obtain ⟨G, hG⟩ : ∃ G, G = wr.heap.size := ⟨_, rfl⟩
          have HG := Lib.hid hG
          have G6 : Hid (Bk w6 G 44 (rslA x')) := Lib.hid (by rw [hw6, hG]; exact N6.out.setRow _)
          have hsq : x'.r.seq = (k : Int) + 1 := by rw [hrk]; rfl
          obtain ⟨tl, htl⟩ : ∃ tl : Nat, tl = x'.r.told := ⟨_, rfl⟩
          have HCELL : Hid (∀ W, Below w6.heap.size w6 W → W.cell? ⟨G, 0, none⟩ = some (.int .i64 ((k : Int) + 1)) ∧ W.cell? ⟨G, 1, none⟩ = some (.int .i64 (tl : Int)) ∧ G < W.heap.size) := Lib.hid (fun W hW => by
            have kk := G6.out.below hW
            have y0 := kk.cell 0
            have y1 := kk.cell 1
            simp only [List.getElem?_toArray, List.getElem?_cons_zero, List.getElem?_cons_succ, hsq, ← htl] at y0 y1
            exact ⟨y0, y1, kk.lt⟩)
          have HTL : Hid (tl = 0 ↔ (resT (csOf l) b06 k).told = 0) := Lib.hid (by rw [htl, hrk])
          obtain ⟨xc, hxc⟩ := cml_at (l := l) (i := k) (by rw [HN.out]; exact hk)
          have hcm := HCM.out k xc hxc
          have hxi := H.out.2 xc (List.mem_of_getElem? hxc)
          have hwl : xc.c.writes.length = xc.nw := hxi.lw
          have hwr : Ints w xc.wa xc.wc xc.c.writes := hxi.writes
          have hwcap : xc.nw ≤ xc.wc := by have := hwr.2.1; omega
          have hfew : xc.nw ≤ 8 := by have := (HR.out.1 xc (List.mem_of_getElem? hxc)).1.few.1; omega
          obtain ⟨lb, lo, rfl, hA⟩ := H.out.lies hxc
          have hcap : n ≤ c := by have := H.out.cap; rw [HN.out] at this; exact this
          have HCA := Lib.hid hA
          have HWR := Lib.hid hwr
          have HWL := Lib.hid hwl
          have HCMK := Lib.hid hcm
          have e1 : ¬ (k : Int) + 1 < 1 := by omega
          have e2 : ¬ (n : Int) < (k : Int) + 1 := by omega
          obtain ⟨q0, q1, ql⟩ := HCELL.out w6 (Below.refl _ _)
          have HRA := Lib.hid hrA
          clear hx' hrj hrk hsq htl hxc hcm hxi hwl hwr hA hat hrA hw6 hG f6
          go_wp2_with (with_reducible refine st_rslB wr.heap.size N6.out rfl x' _ _ rfl rfl rfl rfl ?_; rw [HW6.out, ← HG.out])
          clear a0 a1 a2 al p3 pl q0 q1 ql
          go_loopw [8, 11] (fun ss cc wq => ∃ (q : Nat) (u : Int), q ≤ xc.nw ∧ ss = .int .i64 u ∧ cc = .int .i64 q ∧ v ≤ u ∧ Hid (oneB (csOf l) b06 n b u) ∧ Hid (∀ p : Nat, p < q → xc.c.writes[p]? = some (b : Int) → tl = 0 → (k : Int) + 1 ≤ u) ∧ Hid (Below w6.heap.size w6 wq)) (fun _ cc _ => xc.nw - (intOf cc).toNat)
          case atStart => exact ⟨0, v, Nat.zero_le _, rfl, rfl, Int.le_refl _, HO, Lib.hid (fun p hp => absurd hp (by omega)), Lib.hid (Below.refl _ _)⟩
          case round =>
            obtain ⟨q, u, hq, rfl, rfl, hvu, HU, HP, HQ⟩ := hrel
            have HBQ := Lib.hid (bnext B5.out (bnext B6.out HQ.out))
            obtain ⟨q0, q1, ql⟩ := HCELL.out wr HQ.out
            obtain ⟨c0, c1, c2, c3, c4, cl⟩ := HCA.out wr HBQ.out
            have hub := oneB_bounds HU.out
            have dk : (k : Int) < (n : Int) := by omega
            have dkc : (k : Int) < (c : Int) := by omega
            by_cases hqn : q < xc.nw
            · have d6 : (q : Int) < (xc.nw : Int) := by omega
              have d7 : (q : Int) < (xc.wc : Int) := by omega
              obtain ⟨wb, wo, hwa, hwbl, y0⟩ := (HWR.out.below HBQ.out).cellAt (j := q) (by rw [HWL.out]; exact hqn)
              obtain ⟨wv, hwv⟩ : ∃ wv, wv = xc.c.writes[q]?.getD 0 := ⟨_, rfl⟩
              have hwq : xc.c.writes[q]? = some wv := by rw [hwv, List.getElem?_eq_getElem (by rw [HWL.out]; exact hqn)]; rfl
              rw [← hwv] at y0
              rw [hwa] at c1
              have HWQ := Lib.hid hwq
              clear hwv hwq
              by_cases hbw : wv = (b : Int)
              · subst hbw
                by_cases ht0 : tl = 0
                · subst ht0
                  have HWT : Hid (wroteT (csOf l) b06 b k) := Lib.hid ⟨HTL.out.1 rfl, by rw [HCMK.out]; exact List.mem_of_getElem? HWQ.out⟩
                  go_wp2
                  go_roundw
                  case rel => exact ⟨q + 1, _, by omega, rfl, by go_num, by split <;> omega, Lib.hid (by
                    by_cases hlt2 : u < (k : Int) + 1
                    · rw [if_pos hlt2]
                      exact .inr ⟨k, hk, HWT.out, rfl⟩
                    · rw [if_neg hlt2]
                      exact HU.out), Lib.hid (fun p hp hw h0 => by split <;> omega), HQ⟩
                  case measure => simp [intOf]; omega
                · have HT0 := Lib.hid ht0
                  go_wp2
                  go_roundw
                  case rel => exact ⟨q + 1, u, by omega, rfl, by go_num, hvu, HU, Lib.hid (by first | exact fun p hp hw h0 => absurd h0 HT0.out | trivial | simp), HQ⟩
                  case measure => simp [intOf]; omega
              · have HBW := Lib.hid hbw
                go_wp2
                go_roundw
                case rel => exact ⟨q + 1, u, by omega, rfl, by go_num, hvu, HU, Lib.hid (fun p hp hw h0 => by
                  by_cases hpq : p = q
                  · subst hpq
                    rw [HWQ.out] at hw
                    injection hw with hw
                    exact absurd hw HBW.out
                  · exact HP.out p (by omega) hw h0), HQ⟩
                case measure => simp [intOf]; omega
            · have d6 : ¬ (q : Int) < (xc.nw : Int) := by omega
              have HMN : Hid (∀ k', resT (csOf l) b06 k' ∈ R.1.results.take (i + 1) → wroteT (csOf l) b06 b k' → (k' : Int) + 1 ≤ u) := Lib.hid (fun k' hk' hw => by
                rcases (HTM.out k').1 hk' with h1 | h1
                · have := HM.out k' h1 hw
                  omega
                · rw [HRK.out] at h1
                  obtain rfl := resT_injB h1
                  obtain ⟨h2, h3⟩ := hw
                  rw [HCMK.out] at h3
                  obtain ⟨p, hp⟩ := List.getElem?_of_mem h3
                  have hpl : p < xc.c.writes.length := by
                    rcases Nat.lt_or_ge p xc.c.writes.length with q1 | q1
                    · exact q1
                    · rw [List.getElem?_eq_none q1] at hp; cases hp
                  rw [HWL.out] at hpl
                  exact HP.out p (by omega) hp (HTL.out.2 h2))
              have BF := Lib.hid (bnext B6.out HQ.out)
              go_wp2
              go_roundw
              case rel => exact ⟨i + 1, u, by omega, rfl, by go_num, HU, HMN, BF⟩
              case measure => simp [intOf]; omega
        · obtain rfl : i = n := by omega
          have d4 : ¬ (i : Int) < (i : Int) := by omega
          have hv : v = lastT (csOf l) b06 b i := oneB_last HO.out (fun q hq hw => HM.out q (by rw [← F2.out, List.take_length]; exact F3.out q hq) hw)
          obtain ⟨eb, eo, heA, hel, hec⟩ := I5.out.bl.range I5.out.e8 (i := b) (by rw [I5.out.len]; exact hb6)
          obtain ⟨-, -, e8⟩ := hec wr HB.out
          rw [SEQ.out b hb6, ← hv] at e8
          have hbc : 6 ≤ z5.bc := by have := I5.out.bl.2.1; rw [I5.out.len] at this; exact this
          obtain ⟨bc, hbcc⟩ : ∃ bc, bc = z5.bc := ⟨_, rfl⟩
          obtain ⟨p0, -, -, -, pl2, -⟩ := (K5.out.below HB.out).crew
          rw [heA, ← hbcc] at p0
          rw [← hbcc] at hbc
          have d7 : (b : Int) < (bc : Int) := by omega
          have ell : eb < wr.heap.size := Nat.lt_of_lt_of_le hel HB.out.size
          clear hv heA hec hbcc
          go_wp2
          go_roundw
          case rel => exact ⟨b + 1, by omega, by go_num, HB⟩
          case measure => simp [intOf]; omega
    · obtain rfl : b = 6 := by omega
      have d3 : ¬ ((6 : Nat) : Int) < 6 := by decide
      go_wp2_with (go_at_call 7; go_must ((with_reducible refine (aw.out _).mono ?_); rintro e w9 ⟨rfl, hb9⟩; have B9 := Lib.hid (bnext (bnext B5.out HB.out) hb9); clear hb9))
      go_ret
      exact ⟨rfl, B9.out⟩

theorem crewAborts_walk (hz : n ≤ 9223372036854775807) (w : World) (h : Cmds w A c l) (hN : l.length = n) (hts : U8s w tA tc ts) (htn : ts.length = tn) (htr : ∀ x ∈ ts, 0 ≤ x ∧ x ≤ 255) :
    Calls Try.prog 4 #[.slice A n c, .slice tA tn tc] w fun e w' => e = .returned (.bool true) ∧ Below w.heap.size w w' := by
  by_cases hr : R17 l
  · by_cases hm : 300 < tn
    · exact crewAborts_many l A n c tA tn tc w h hN hr hm
    · exact crewAborts_main l A n c ts tA tn tc w h hN hr (by omega) hts htn htr
  · exact crewAborts_no l A n c tA tn tc hz w h hN hr

end
end Go.Proofs.Ytpaocjpjlogkgaa
