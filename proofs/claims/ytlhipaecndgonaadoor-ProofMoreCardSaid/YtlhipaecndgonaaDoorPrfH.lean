/-
  What proof.Check answers, in whatever memory that has the kinds' table, of a command whose lists have at most 1,000 numbers each. No conditions but those that stand there.
-/
import Derived.Test.YtlhipaecndgonaaDoorPrfD
import Derived.Test.YtlhipaecndgonaaDoorPrfF
import Derived.Test.YtlhipaecndgonaaDoorPrfG
namespace Go.Proofs.YtlhipaecndgonaaDoor
open Go.RowKit

/-- a command in memory: its four slices. -/
structure CmIn (w : World) (c : Cmd) (ra : Option Addr) (nr rc : Nat) (wa : Option Addr) (nw wc : Nat) (aa : Option Addr) (na ac : Nat) (ca : Option Addr) (nc cc : Nat) : Prop where
  lr : c.reads.length = nr
  lw : c.writes.length = nw
  la : c.args.length = na
  lc : c.code.length = nc
  reads : Ints w ra rc c.reads
  writes : Ints w wa wc c.writes
  args : Ints w aa ac c.args
  code : Inss w ca cc c.code
  br : nr ≤ 1000
  bw : nw ≤ 1000
  ba : na ≤ 1000
  bc : nc ≤ 1000

theorem CmIn.below {w w' : World} {c : Cmd} {ra : Option Addr} {nr rc : Nat} {wa : Option Addr} {nw wc : Nat} {aa : Option Addr} {na ac : Nat} {ca : Option Addr} {nc cc : Nat} (h : CmIn w c ra nr rc wa nw wc aa na ac ca nc cc) (hb : Below w.heap.size w w') : CmIn w' c ra nr rc wa nw wc aa na ac ca nc cc :=
  ⟨h.lr, h.lw, h.la, h.lc, h.reads.below hb, h.writes.below hb, h.args.below hb, h.code.below hb, h.br, h.bw, h.ba, h.bc⟩

abbrev CmObj (ra : Option Addr) (nr rc : Nat) (wa : Option Addr) (nw wc : Nat) (aa : Option Addr) (na ac : Nat) (fuel : Int) (ca : Option Addr) (nc cc : Nat) : Obj :=
  .cells #[.slice ra nr rc, .slice wa nw wc, .slice aa na ac, .int .i64 fuel, .slice ca nc cc] 25

section
variable (c : Cmd) (ra : Option Addr) (nr rc : Nat) (wa : Option Addr) (nw wc : Nat) (aa : Option Addr) (na ac : Nat) (ca : Option Addr) (nc cc : Nat)

theorem few_dec (w : World) (h : CmIn w c ra nr rc wa nw wc aa na ac ca nc cc) : fewN c ↔ (nr + nw ≤ 8 ∧ na ≤ 8 ∧ 1 ≤ nc ∧ nc ≤ 64 ∧ 1 ≤ c.fuel ∧ c.fuel ≤ 200) := by
  obtain ⟨rfl, rfl, rfl, rfl, -⟩ := h
  exact Iff.rfl

/-- the command in its box, behind fits. -/
theorem chk_few (w : World) (h : CmIn w c ra nr rc wa nw wc aa na ac ca nc cc) (b : Bool) (hb : decide (fewN c) = b) (W : World) : Calls Tryd.prog 11 #[cmV ra nr rc wa nw wc aa na ac c.fuel ca nc cc] W fun e w' => e = .returned (.bool b) ∧ Below W.heap.size W w' :=
  fits_any ra nr rc wa nw wc aa na ac c.fuel ca nc cc W (by have := h.br; omega) (by have := h.bw; omega) (by have := h.ba; omega) (by have := h.bc; omega) b (by rw [← hb]; exact decide_eq_decide.2 (few_dec c ra nr rc wa nw wc aa na ac ca nc cc w h).symm)

theorem check_few (w : World) (h : CmIn w c ra nr rc wa nw wc aa na ac ca nc cc) (hf : ¬ fewN c) :
    Calls Tryd.prog 8 #[cmV ra nr rc wa nw wc aa na ac c.fuel ca nc cc] w fun e w' => e = .returned (.int .i64 4) ∧ Below w.heap.size w w' := by
  have h1 := Lib.hid (chk_few c ra nr rc wa nw wc aa na ac ca nc cc w h false (decide_eq_false hf))
  have hb0 : Below w.heap.size w (w.alloc (CmObj ra nr rc wa nw wc aa na ac c.fuel ca nc cc)) := (Below.refl _ _).alloc (Nat.le_refl _) _
  have B0 := Lib.hid hb0
  clear h hf hb0
  generalize c.fuel = fuel at *
  go_enter Tryd.func8, Tryd.ntmps8
  go_wp2_with (go_at_call 11; go_must ((with_reducible refine (h1.out _).mono ?_); rintro e w1 ⟨rfl, hb1⟩; have B1 := Lib.hid (bnext B0.out hb1)))
  go_ret
  exact ⟨rfl, B1.out⟩

theorem check_sets (w : World) (h : CmIn w c ra nr rc wa nw wc aa na ac ca nc cc) (hf : fewN c) (hs : ¬ setsN c) :
    Calls Tryd.prog 8 #[cmV ra nr rc wa nw wc aa na ac c.fuel ca nc cc] w fun e w' => e = .returned (.int .i64 8) ∧ Below w.heap.size w w' := by
  have h1 := Lib.hid (chk_few c ra nr rc wa nw wc aa na ac ca nc cc w h true (decide_eq_true hf))
  have hb0 : Below w.heap.size w (w.alloc (CmObj ra nr rc wa nw wc aa na ac c.fuel ca nc cc)) := (Below.refl _ _).alloc (Nat.le_refl _) _
  have B0 := Lib.hid hb0
  have C0 : Hid (Bk (w.alloc (CmObj ra nr rc wa nw wc aa na ac c.fuel ca nc cc)) w.heap.size 25 #[.slice ra nr rc, .slice wa nw wc, .slice aa na ac, .int .i64 c.fuel, .slice ca nc cc]) := Lib.hid (Bk.new w _ _)
  have hr1 := Lib.hid (fun W hW b hb => rises_any c.reads ra nr rc W (h.reads.below hW) h.lr (by have := h.br; omega) b hb)
  have hr2 := Lib.hid (fun W hW b hb => rises_any c.writes wa nw wc W (h.writes.below hW) h.lw (by have := h.bw; omega) b hb)
  have hsh := Lib.hid (fun W hW b hb => share_any c.reads c.writes ra nr rc wa nw wc W (h.reads.below hW) h.lr (by have := h.br; omega) (h.writes.below hW) h.lw (by have := h.bw; omega) b hb)
  clear h hf hb0
  by_cases q1 : risesN c.reads 0
  · by_cases q2 : risesN c.writes 0
    · have q3 : ¬ ∀ x ∈ c.reads, x ∉ c.writes := fun q => hs ⟨q1, q2, q⟩
      have p1 := Lib.hid (fun W hW => hr1.out W hW true (decide_eq_true q1))
      have p2 := Lib.hid (fun W hW => hr2.out W hW true (decide_eq_true q2))
      have p3 := Lib.hid (fun W hW => hsh.out W hW true (decide_eq_false q3))
      clear hr1 hr2 hsh q1 q2 q3 hs
      generalize c.fuel = fuel at *
      go_enter Tryd.func8, Tryd.ntmps8
      go_wp2_with (first
        | (go_at_call 11; go_must ((with_reducible refine (h1.out _).mono ?_); rintro e w1 ⟨rfl, hb1⟩; have B1 := Lib.hid (bnext B0.out hb1); obtain ⟨c0, c1, c2, c3, c4, cf⟩ := (C0.out.below hb1).cmd; have cl := (C0.out.below hb1).lt; clear hb1))
        | (go_at_call 12; with_reducible refine (p1.out _ B1.out).mono ?_; rintro e w2 ⟨rfl, rfl⟩)
        | (go_at_call 12; with_reducible refine (p2.out _ B1.out).mono ?_; rintro e w2 ⟨rfl, rfl⟩)
        | (go_at_call 13; go_must ((with_reducible refine (p3.out _ B1.out).mono ?_); rintro e w3 ⟨rfl, hb3⟩; have B3 := Lib.hid (bnext B1.out hb3))))
      go_ret
      exact ⟨rfl, B3.out⟩
    · have p1 := Lib.hid (fun W hW => hr1.out W hW true (decide_eq_true q1))
      have p2 := Lib.hid (fun W hW => hr2.out W hW false (decide_eq_false q2))
      clear hr1 hr2 hsh q1 q2 hs
      generalize c.fuel = fuel at *
      go_enter Tryd.func8, Tryd.ntmps8
      go_wp2_with (first
        | (go_at_call 11; go_must ((with_reducible refine (h1.out _).mono ?_); rintro e w1 ⟨rfl, hb1⟩; have B1 := Lib.hid (bnext B0.out hb1); obtain ⟨c0, c1, c2, c3, c4, cf⟩ := (C0.out.below hb1).cmd; have cl := (C0.out.below hb1).lt; clear hb1))
        | (go_at_call 12; with_reducible refine (p1.out _ B1.out).mono ?_; rintro e w2 ⟨rfl, rfl⟩)
        | (go_at_call 12; with_reducible refine (p2.out _ B1.out).mono ?_; rintro e w2 ⟨rfl, rfl⟩))
      go_ret
      exact ⟨rfl, B1.out⟩
  · have p1 := Lib.hid (fun W hW => hr1.out W hW false (decide_eq_false q1))
    clear hr1 hr2 hsh q1 hs
    generalize c.fuel = fuel at *
    go_enter Tryd.func8, Tryd.ntmps8
    go_wp2_with (first
      | (go_at_call 11; go_must ((with_reducible refine (h1.out _).mono ?_); rintro e w1 ⟨rfl, hb1⟩; have B1 := Lib.hid (bnext B0.out hb1); obtain ⟨c0, c1, c2, c3, c4, cf⟩ := (C0.out.below hb1).cmd; have cl := (C0.out.below hb1).lt; clear hb1))
      | (go_at_call 12; with_reducible refine (p1.out _ B1.out).mono ?_; rintro e w2 ⟨rfl, rfl⟩))
    go_ret
    exact ⟨rfl, B1.out⟩

theorem ops_all (h : ∀ j, j < c.code.length → rightN (insAt c.code j) ∧ boundsL c.reads.length c.writes.length c.args.length (insAt c.code j)) : opsN c := by
  intro x hx
  obtain ⟨j, hj, rfl⟩ := List.mem_iff_getElem.1 hx
  have := h j hj
  rw [insAt, List.getElem?_eq_getElem hj] at this
  exact this

theorem ops_not {j : Nat} (hj : j < c.code.length) (h : ¬ (rightN (insAt c.code j) ∧ boundsL c.reads.length c.writes.length c.args.length (insAt c.code j))) : ¬ opsN c := by
  intro ho
  refine h ?_
  rw [insAt, List.getElem?_eq_getElem hj]
  exact ho _ (List.getElem_mem hj)

/-- what Check answers behind its sets. -/
def checkR : Nat := if ¬ opsN c then 5 else if 8 < emitsN c.code then 4 else match depthsN c.code with
  | .ok _ => 0
  | .error e => e

set_option maxHeartbeats 8000000 in
theorem check_rest (w : World) (h : CmIn w c ra nr rc wa nw wc aa na ac ca nc cc) (hT : HasKinds w) (hf : fewN c) (hs : setsN c) :
    Calls Tryd.prog 8 #[cmV ra nr rc wa nw wc aa na ac c.fuel ca nc cc] w fun e w' => e = .returned (.int .i64 (checkR c : Nat)) ∧ Below w.heap.size w w' := by
  have h1 := Lib.hid (chk_few c ra nr rc wa nw wc aa na ac ca nc cc w h true (decide_eq_true hf))
  have hb0 : Below w.heap.size w (w.alloc (CmObj ra nr rc wa nw wc aa na ac c.fuel ca nc cc)) := (Below.refl _ _).alloc (Nat.le_refl _) _
  have B0 := Lib.hid hb0
  have C0 : Hid (Bk (w.alloc (CmObj ra nr rc wa nw wc aa na ac c.fuel ca nc cc)) w.heap.size 25 #[.slice ra nr rc, .slice wa nw wc, .slice aa na ac, .int .i64 c.fuel, .slice ca nc cc]) := Lib.hid (Bk.new w _ _)
  have p1 := Lib.hid (fun W hW => rises_any c.reads ra nr rc W (h.reads.below hW) h.lr (by have := h.br; omega) true (decide_eq_true hs.1))
  have p2 := Lib.hid (fun W hW => rises_any c.writes wa nw wc W (h.writes.below hW) h.lw (by have := h.bw; omega) true (decide_eq_true hs.2.1))
  have p3 := Lib.hid (fun W hW => share_any c.reads c.writes ra nr rc wa nw wc W (h.reads.below hW) h.lr (by have := h.br; omega) (h.writes.below hW) h.lw (by have := h.bw; omega) false (decide_eq_true hs.2.2))
  have pm := Lib.hid (fun x W hW r hr => mayHave_any ra nr rc wa nw wc aa na ac c.fuel ca nc cc x W (hT.belowS hW) (by have := h.br; omega) (by have := h.bw; omega) (by have := h.ba; omega) r hr)
  have pe := Lib.hid (fun W hW => emits_any c.code ca nc cc W (h.code.below hW) h.lc (by have := h.bc; omega))
  have hn1 : 1 ≤ nc := by have := hf.2.2.1; have := h.lc; omega
  have pd := Lib.hid (fun W hW => depths_any c.code ca cc nc W (h.code.below hW) h.lc hn1 h.bc)
  have hcode := Lib.hid (fun W hW => h.code.below (w' := W) hW)
  have hlc := Lib.hid h.lc
  have hall : Hid ((∀ j, j < nc → rightN (insAt c.code j) ∧ boundsL nr nw na (insAt c.code j)) → opsN c) := Lib.hid (by
    obtain ⟨rfl, rfl, rfl, rfl, -⟩ := h
    exact ops_all c)
  have hnot : Hid (∀ j, j < nc → ¬ (rightN (insAt c.code j) ∧ boundsL nr nw na (insAt c.code j)) → ¬ opsN c) := Lib.hid (by
    obtain ⟨rfl, rfl, rfl, rfl, -⟩ := h
    exact fun j => ops_not c)
  have hcc := h.code.2.1
  rw [h.lc] at hcc
  have hbc := h.bc
  obtain ⟨z, hz⟩ : ∃ z, z = checkR c := ⟨_, rfl⟩
  have hz' := Lib.hid hz
  rw [← hz]
  have hel := emitsN_take_le c.code nc
  rw [← h.lc, List.take_length, h.lc] at hel
  clear h hb0 hz hs hf hT
  generalize c.fuel = fuel at *
  go_enter Tryd.func8, Tryd.ntmps8
  go_wp2_with (first
    | (go_at_call 11; go_must ((with_reducible refine (h1.out _).mono ?_); rintro e w1 ⟨rfl, hb1⟩; have B1 := Lib.hid (bnext B0.out hb1); obtain ⟨c0, c1, c2, c3, c4, cf⟩ := (C0.out.below hb1).cmd; have cl := (C0.out.below hb1).lt; have C1 := Lib.hid (C0.out.below hb1); clear hb1))
    | (go_at_call 12; with_reducible refine (p1.out _ B1.out).mono ?_; rintro e w2 ⟨rfl, rfl⟩)
    | (go_at_call 12; with_reducible refine (p2.out _ B1.out).mono ?_; rintro e w2 ⟨rfl, rfl⟩)
    | (go_at_call 13; go_must ((with_reducible refine (p3.out _ B1.out).mono ?_); rintro e w3 ⟨rfl, hb3⟩; have B3 := Lib.hid (bnext B1.out hb3); obtain ⟨d0, d1, d2, d3, d4, df⟩ := (C1.out.below hb3).cmd; have dl := (C1.out.below hb3).lt; have C3 := Lib.hid (C1.out.below hb3); clear hb3)))
  go_loopw [30] (fun kk wr => ∃ i : Nat, i ≤ nc ∧ kk = .int .i64 i ∧ Hid (Below w.heap.size w wr) ∧ Hid (Bk wr w.heap.size 25 #[.slice ra nr rc, .slice wa nw wc, .slice aa na ac, .int .i64 fuel, .slice ca nc cc]) ∧ Hid (∀ j, j < i → rightN (insAt c.code j) ∧ boundsL nr nw na (insAt c.code j))) (fun kk _ => nc - (intOf kk).toNat)
  case atStart => exact ⟨0, Nat.zero_le _, rfl, B3, C3, Lib.hid (fun j h => by omega)⟩
  case round =>
    obtain ⟨i, hi, rfl, HB, HC, HO⟩ := hrel
    obtain ⟨e0, e1, e2, e3, e4, ef⟩ := HC.out.cmd
    have el := HC.out.lt
    by_cases hlt : i < nc
    · have q1 : (i : Int) < (nc : Int) := by omega
      have q2 : (i : Int) < (cc : Int) := by omega
      obtain ⟨b, off, rfl, hbl, x0, x1, x2⟩ := (hcode.out wr HB.out).cellAt (j := i) (by rw [hlc.out]; exact hlt)
      have HA := Lib.hid (bnext HB.out ((Below.refl _ _).alloc (Nat.le_refl _) (IObj (insAt c.code i))))
      obtain ⟨g0, g1, g2, g3, g4, -⟩ := (HC.out.alloc (IObj (insAt c.code i))).cmd
      have HD := Lib.hid (HC.out.alloc (IObj (insAt c.code i)))
      by_cases hr : rightN (insAt c.code i) ∧ boundsL nr nw na (insAt c.code i)
      · have hm := Lib.hid (pm.out (insAt c.code i) _ HA.out true (decide_eq_true hr))
        have HO2 : Hid (∀ j, j < i + 1 → rightN (insAt c.code j) ∧ boundsL nr nw na (insAt c.code j)) := Lib.hid (fun j hj => by
          rcases Nat.lt_or_eq_of_le (Nat.le_of_lt_succ hj) with q | q
          · exact HO.out j q
          · subst q; exact hr)
        clear hr
        generalize insAt c.code i = x at *
        go_wp2_with (go_at_call 14; go_must ((with_reducible refine hm.out.mono ?_); rintro e w4 ⟨rfl, hb4⟩; have B4 := Lib.hid (bnext HA.out hb4); have C4 := Lib.hid (HD.out.below hb4); clear hb4))
        go_roundw
        case rel => exact ⟨i + 1, by omega, by go_num, B4, C4, HO2⟩
        case measure => simp [intOf]; omega
      · have hm := Lib.hid (pm.out (insAt c.code i) _ HA.out false (decide_eq_false hr))
        obtain rfl : z = 5 := by rw [hz'.out, checkR, if_pos (hnot.out i hlt hr)]
        clear hr
        generalize insAt c.code i = x at *
        go_wp2_with (go_at_call 14; go_must ((with_reducible refine hm.out.mono ?_); rintro e w4 ⟨rfl, hb4⟩; have B4 := Lib.hid (bnext HA.out hb4); clear hb4))
        go_ret
        exact ⟨rfl, B4.out⟩
    · obtain rfl : i = nc := by omega
      have hops := hall.out HO.out
      have hz2 : z = if 8 < emitsN c.code then 4 else match depthsN c.code with | .ok _ => 0 | .error e => e := by rw [hz'.out, checkR, if_neg (by simpa using hops)]
      have he := Lib.hid (pe.out wr HB.out)
      obtain ⟨E, hE⟩ : ∃ E, E = emitsN c.code := ⟨_, rfl⟩
      rw [← hE] at hz2 hel he
      clear hE hops hlt
      by_cases h8 : 8 < E
      · rw [if_pos h8] at hz2
        have h8' : (8 : Int) < (E : Int) := by omega
        subst hz2
        go_wp2_with (go_at_call 15; go_must ((with_reducible refine he.out.mono ?_); rintro e w4 ⟨rfl, hb4⟩; have B4 := Lib.hid (bnext HB.out hb4); clear hb4))
        go_ret
        exact ⟨rfl, B4.out⟩
      · rw [if_neg h8] at hz2
        have h8' : ¬ (8 : Int) < (E : Int) := by omega
        cases hd : depthsN c.code with
        | ok d =>
          rw [hd] at hz2 pd
          have pd' : Hid (∀ W, Below w.heap.size w W → Calls Tryd.prog 10 #[.slice ca i cc] W fun e w' => ∃ g, W.heap.size ≤ g ∧ e = .returned (.tuple #[.slice (some ⟨g, 0, none⟩) i i, .int .i64 0]) ∧ Bk w' g 3 (dV d) ∧ Below W.heap.size W w') := pd
          subst hz2
          clear pd hd
          go_wp2_with (first
            | (go_at_call 15; go_must ((with_reducible refine he.out.mono ?_); rintro e w4 ⟨rfl, hb4⟩; have B4 := Lib.hid (bnext HB.out hb4); obtain ⟨f0, f1, f2, f3, f4, -⟩ := (HC.out.below hb4).cmd; have fl := (HC.out.below hb4).lt; clear hb4))
            | (go_at_call 10; go_must ((with_reducible refine (pd'.out _ B4.out).mono ?_); rintro e w5 ⟨g, -, rfl, -, hb5⟩; have B5 := Lib.hid (bnext B4.out hb5); clear hb5)))
          go_ret
          exact ⟨rfl, B5.out⟩
        | error er =>
          rw [hd] at hz2 pd
          have pd' : Hid (∀ W, Below w.heap.size w W → Calls Tryd.prog 10 #[.slice ca i cc] W fun e w' => e = .returned (.tuple #[.slice none 0 0, .int .i64 (er : Nat)]) ∧ Below W.heap.size W w') := pd
          simp only at hz2
          subst hz2
          clear pd hd
          go_wp2_with (first
            | (go_at_call 15; go_must ((with_reducible refine he.out.mono ?_); rintro e w4 ⟨rfl, hb4⟩; have B4 := Lib.hid (bnext HB.out hb4); obtain ⟨f0, f1, f2, f3, f4, -⟩ := (HC.out.below hb4).cmd; have fl := (HC.out.below hb4).lt; clear hb4))
            | (go_at_call 10; go_must ((with_reducible refine (pd'.out _ B4.out).mono ?_); rintro e w5 ⟨rfl, hb5⟩; have B5 := Lib.hid (bnext B4.out hb5); clear hb5)))
          go_ret
          exact ⟨rfl, B5.out⟩

theorem check_any (w : World) (h : CmIn w c ra nr rc wa nw wc aa na ac ca nc cc) (hT : HasKinds w) :
    Calls Tryd.prog 8 #[cmV ra nr rc wa nw wc aa na ac c.fuel ca nc cc] w fun e w' => e = .returned (.int .i64 (checkN c : Nat)) ∧ Below w.heap.size w w' := by
  rw [checkN]
  by_cases hf : fewN c
  · rw [if_neg (by simpa using hf)]
    by_cases hs : setsN c
    · rw [if_neg (by simpa using hs)]
      exact check_rest c ra nr rc wa nw wc aa na ac ca nc cc w h hT hf hs
    · rw [if_pos hs]
      exact check_sets c ra nr rc wa nw wc aa na ac ca nc cc w h hf hs
  · rw [if_pos hf]
    exact check_few c ra nr rc wa nw wc aa na ac ca nc cc w h hf

end

end Go.Proofs.YtlhipaecndgonaaDoor
