/-
  What the reference's Check of layer 7 answers, in whatever memory, of a command whose lists have at most 1,000 numbers each. No conditions but those that stand there.
-/
import Derived.Test.YtldljohholgmoaaZRckB
import Derived.Test.YtldljohholgmoaaZRckD
import Derived.Test.YtldljohholgmoaaZInsAr
import Derived.Test.YtldljohholgmoaaQRely
namespace Go.Proofs.Ytldljohholgmoaa
open Go.RowKit
attribute [local go_sem] look findAt
attribute [local simp] depsOf isV Region.binds

section
variable (c : Cmd) (ra : Option Addr) (nr rc : Nat) (wa : Option Addr) (nw wc : Nat) (aa : Option Addr) (na ac : Nat) (ca : Option Addr) (nc cc : Nat)

theorem rfew_dec (w : World) (h : CmIn w c ra nr rc wa nw wc aa na ac ca nc cc) : fewN c ↔ (nr + nw ≤ 8 ∧ na ≤ 8 ∧ 1 ≤ nc ∧ nc ≤ 64 ∧ 1 ≤ c.fuel ∧ c.fuel ≤ 200) := by
  obtain ⟨rfl, rfl, rfl, rfl, -⟩ := h
  exact Iff.rfl

theorem rops_all (h : ∀ j, j < c.code.length → rightN (insAt c.code j) ∧ boundsL c.reads.length c.writes.length c.args.length (insAt c.code j)) : opsN c := by
  intro x hx
  obtain ⟨j, hj, rfl⟩ := List.mem_iff_getElem.1 hx
  have := h j hj
  rw [insAt, List.getElem?_eq_getElem hj] at this
  exact this

theorem rops_not {j : Nat} (hj : j < c.code.length) (h : ¬ (rightN (insAt c.code j) ∧ boundsL c.reads.length c.writes.length c.args.length (insAt c.code j))) : ¬ opsN c := by
  intro ho
  refine h ?_
  rw [insAt, List.getElem?_eq_getElem hj]
  exact ho _ (List.getElem_mem hj)

/-- what Check answers behind its sets. -/
def checkZ : Nat := if ¬ opsN c then 5 else if 8 < emitsN c.code then 4 else match depthsN c.code with
  | .ok _ => 0
  | .error e => e

theorem sets_all (h1 : risesN c.reads 0) (h2 : risesN c.writes 0) (h : ∀ i, i < c.reads.length → ∀ j, j < c.writes.length → c.reads[i]?.getD 0 ≠ c.writes[j]?.getD 0) : setsN c := by
  refine ⟨h1, h2, fun x hx hy => ?_⟩
  obtain ⟨i, hi, rfl⟩ := List.mem_iff_getElem.1 hx
  obtain ⟨j, hj, hxy⟩ := List.mem_iff_getElem.1 hy
  have := h i hi j hj
  rw [List.getElem?_eq_getElem hi, List.getElem?_eq_getElem hj] at this
  exact this hxy.symm
theorem sets_not {i j : Nat} (hi : i < c.reads.length) (hj : j < c.writes.length) (h : c.reads[i]?.getD 0 = c.writes[j]?.getD 0) : ¬ setsN c := by
  rintro ⟨-, -, h3⟩
  rw [List.getElem?_eq_getElem hi, List.getElem?_eq_getElem hj] at h
  simp only [Option.getD_some] at h
  exact h3 _ (List.getElem_mem hi) (by rw [h]; exact List.getElem_mem hj)

theorem rcheck_few (w : World) (h : CmIn w c ra nr rc wa nw wc aa na ac ca nc cc) (hf : ¬ fewN c) :
    Calls Try.prog 28 #[cmV ra nr rc wa nw wc aa na ac c.fuel ca nc cc] w fun e w' => e = .returned (.int .i64 (4)) ∧ Below w.heap.size w w' := by
  have B0 := Lib.hid (below_alloc1 w (CmObj ra nr rc wa nw wc aa na ac c.fuel ca nc cc))
  rw [rfew_dec c ra nr rc wa nw wc aa na ac ca nc cc w h] at hf
  have hbr := h.br
  have hbw := h.bw
  have hba := h.ba
  have hbc := h.bc
  clear h
  generalize c.fuel = fuel at *
  by_cases g0 : nr + nw ≤ 8
  rotate_left
  · have e0 : decide (8 < (nr : Int) + (nw : Int)) = true := decide_eq_true (by omega)
    clear hf
    go_enter Try.func28, Try.ntmps28
    go_wp2
    go_ret
    exact ⟨rfl, B0.out⟩
  have e0 : decide (8 < (nr : Int) + (nw : Int)) = false := decide_eq_false (by omega)
  by_cases g1 : na ≤ 8
  rotate_left
  · have e1 : decide (8 < (na : Int)) = true := decide_eq_true (by omega)
    clear hf
    go_enter Try.func28, Try.ntmps28
    go_wp2
    go_ret
    exact ⟨rfl, B0.out⟩
  have e1 : decide (8 < (na : Int)) = false := decide_eq_false (by omega)
  by_cases g2 : 1 ≤ nc
  rotate_left
  · have e2 : decide ((nc : Int) < 1) = true := decide_eq_true (by omega)
    clear hf
    go_enter Try.func28, Try.ntmps28
    go_wp2
    go_ret
    exact ⟨rfl, B0.out⟩
  have e2 : decide ((nc : Int) < 1) = false := decide_eq_false (by omega)
  by_cases g3 : nc ≤ 64
  rotate_left
  · have e3 : decide (64 < (nc : Int)) = true := decide_eq_true (by omega)
    clear hf
    go_enter Try.func28, Try.ntmps28
    go_wp2
    go_ret
    exact ⟨rfl, B0.out⟩
  have e3 : decide (64 < (nc : Int)) = false := decide_eq_false (by omega)
  by_cases g4 : 1 ≤ fuel
  rotate_left
  · have e4 : decide (fuel < 1) = true := decide_eq_true (by omega)
    clear hf
    go_enter Try.func28, Try.ntmps28
    go_wp2
    go_ret
    exact ⟨rfl, B0.out⟩
  have e4 : decide (fuel < 1) = false := decide_eq_false (by omega)
  have e5 : decide (200 < fuel) = true := decide_eq_true (by omega)
  clear hf
  go_enter Try.func28, Try.ntmps28
  go_wp2
  go_ret
  exact ⟨rfl, B0.out⟩

theorem rcheck_rises (w : World) (h : CmIn w c ra nr rc wa nw wc aa na ac ca nc cc) (hf : fewN c) (hs : ¬ (risesN c.reads 0 ∧ risesN c.writes 0)) :
    Calls Try.prog 28 #[cmV ra nr rc wa nw wc aa na ac c.fuel ca nc cc] w fun e w' => e = .returned (.int .i64 (8)) ∧ Below w.heap.size w w' := by
  obtain ⟨f1, f2, f3, f4, f5, f6⟩ := (rfew_dec c ra nr rc wa nw wc aa na ac ca nc cc w h).1 hf
  have B0 := Lib.hid (below_alloc1 w (CmObj ra nr rc wa nw wc aa na ac c.fuel ca nc cc))
  have C0 : Hid (Bk (w.alloc (CmObj ra nr rc wa nw wc aa na ac c.fuel ca nc cc)) w.heap.size 33 #[.slice ra nr rc, .slice wa nw wc, .slice aa na ac, .int .i64 c.fuel, .slice ca nc cc]) := Lib.hid (Bk.new w _ _)
  by_cases q1 : risesN c.reads 0
  · have p1 := Lib.hid (fun W (hW : Below w.heap.size w W) => rrising_any c.reads ra nr rc W (h.reads.below hW) h.lr (by omega) true (decide_eq_true q1))
    have p2 := Lib.hid (fun W (hW : Below w.heap.size w W) => rrising_any c.writes wa nw wc W (h.writes.below hW) h.lw (by omega) false (decide_eq_false (fun q => hs ⟨q1, q⟩)))
    clear h hf hs q1
    generalize c.fuel = fuel at *
    have e0 : decide (8 < (nr : Int) + (nw : Int)) = false := decide_eq_false (by omega)
    have e1 : decide (8 < (na : Int)) = false := decide_eq_false (by omega)
    have e2 : decide ((nc : Int) < 1) = false := decide_eq_false (by omega)
    have e3 : decide (64 < (nc : Int)) = false := decide_eq_false (by omega)
    have e4 : decide (fuel < 1) = false := decide_eq_false (by omega)
    have e5 : decide (200 < fuel) = false := decide_eq_false (by omega)
    go_enter Try.func28, Try.ntmps28
    go_wp2_with (first
      | (go_at_call 46; with_reducible refine (p1.out _ B0.out).mono ?_; rintro e w1 ⟨rfl, hb1⟩; have B1 := Lib.hid (bnext B0.out hb1); obtain ⟨c0, c1, c2, c3, c4, cf⟩ := (C0.out.below hb1).cmd; have cl := (C0.out.below hb1).lt; have C1 := Lib.hid (C0.out.below hb1); clear hb1)
      | (go_at_call 46; go_must ((with_reducible refine (p2.out _ B1.out).mono ?_); rintro e w2 ⟨rfl, hb2⟩; have B2 := Lib.hid (bnext B1.out hb2); have C2 := Lib.hid (C1.out.below hb2); clear hb2)))
    go_ret
    exact ⟨rfl, B2.out⟩
  · have p1 := Lib.hid (fun W (hW : Below w.heap.size w W) => rrising_any c.reads ra nr rc W (h.reads.below hW) h.lr (by omega) false (decide_eq_false q1))
    clear h hf hs q1
    generalize c.fuel = fuel at *
    have e0 : decide (8 < (nr : Int) + (nw : Int)) = false := decide_eq_false (by omega)
    have e1 : decide (8 < (na : Int)) = false := decide_eq_false (by omega)
    have e2 : decide ((nc : Int) < 1) = false := decide_eq_false (by omega)
    have e3 : decide (64 < (nc : Int)) = false := decide_eq_false (by omega)
    have e4 : decide (fuel < 1) = false := decide_eq_false (by omega)
    have e5 : decide (200 < fuel) = false := decide_eq_false (by omega)
    go_enter Try.func28, Try.ntmps28
    go_wp2_with ((go_at_call 46; with_reducible refine (p1.out _ B0.out).mono ?_; rintro e w1 ⟨rfl, hb1⟩; have B1 := Lib.hid (bnext B0.out hb1); obtain ⟨c0, c1, c2, c3, c4, cf⟩ := (C0.out.below hb1).cmd; have cl := (C0.out.below hb1).lt; have C1 := Lib.hid (C0.out.below hb1); clear hb1))
    go_ret
    exact ⟨rfl, B1.out⟩

set_option maxHeartbeats 16000000 in
set_option maxRecDepth 100000 in
theorem rcheck_main (w : World) (h : CmIn w c ra nr rc wa nw wc aa na ac ca nc cc) (hf : fewN c) (hs1 : risesN c.reads 0) (hs2 : risesN c.writes 0) :
    Calls Try.prog 28 #[cmV ra nr rc wa nw wc aa na ac c.fuel ca nc cc] w fun e w' => e = .returned (.int .i64 ((checkN c : Nat))) ∧ Below w.heap.size w w' := by
  obtain ⟨f1, f2, f3, f4, f5, f6⟩ := (rfew_dec c ra nr rc wa nw wc aa na ac ca nc cc w h).1 hf
  have B0 := Lib.hid (below_alloc1 w (CmObj ra nr rc wa nw wc aa na ac c.fuel ca nc cc))
  have C0 : Hid (Bk (w.alloc (CmObj ra nr rc wa nw wc aa na ac c.fuel ca nc cc)) w.heap.size 33 #[.slice ra nr rc, .slice wa nw wc, .slice aa na ac, .int .i64 c.fuel, .slice ca nc cc]) := Lib.hid (Bk.new w _ _)
  have p1 := Lib.hid (fun W (hW : Below w.heap.size w W) => rrising_any c.reads ra nr rc W (h.reads.below hW) h.lr (by omega) true (decide_eq_true hs1))
  have p2 := Lib.hid (fun W (hW : Below w.heap.size w W) => rrising_any c.writes wa nw wc W (h.writes.below hW) h.lw (by omega) true (decide_eq_true hs2))
  have hrd := Lib.hid (fun W (hW : Below w.heap.size w W) => Ints.below h.reads hW)
  have hwr := Lib.hid (fun W (hW : Below w.heap.size w W) => Ints.below h.writes hW)
  have hcode := Lib.hid (fun W (hW : Below w.heap.size w W) => h.code.below (w' := W) hW)
  have pd := Lib.hid (fun W (hW : Below w.heap.size w W) => rdepths_any c.code ca cc nc W (h.code.below hW) h.lc f3 h.bc)
  have hlr := Lib.hid h.lr
  have hlw := Lib.hid h.lw
  have hlc := Lib.hid h.lc
  have hcr := h.reads.2.1
  have hcw := h.writes.2.1
  have hcc := h.code.2.1
  rw [h.lr] at hcr
  rw [h.lw] at hcw
  rw [h.lc] at hcc
  obtain ⟨z, hz⟩ : ∃ z, z = checkN c := ⟨_, rfl⟩
  rw [← hz]
  have hz8 : Hid (∀ i, i < nr → ∀ j, j < nw → c.reads[i]?.getD 0 = c.writes[j]?.getD 0 → z = 8) := Lib.hid (fun i hi j hj e => by
    rw [hz, checkN, if_neg (by simpa using hf), if_pos (sets_not c (by rw [h.lr]; exact hi) (by rw [h.lw]; exact hj) e)])
  have hzr : Hid ((∀ i, i < nr → ∀ j, j < nw → c.reads[i]?.getD 0 ≠ c.writes[j]?.getD 0) → z = checkZ c) := Lib.hid (fun hne => by
    rw [hz, checkN, if_neg (by simpa using hf), if_neg (by
      have := sets_all c hs1 hs2 (by rw [h.lr, h.lw]; exact hne)
      simpa using this)]
    rfl)
  have hall : Hid ((∀ j, j < nc → rightN (insAt c.code j) ∧ boundsL nr nw na (insAt c.code j)) → opsN c) := Lib.hid (by
    obtain ⟨rfl, rfl, rfl, rfl, -⟩ := h
    exact rops_all c)
  have hnot : Hid (∀ j, j < nc → ¬ (rightN (insAt c.code j) ∧ boundsL nr nw na (insAt c.code j)) → ¬ opsN c) := Lib.hid (by
    obtain ⟨rfl, rfl, rfl, rfl, -⟩ := h
    exact fun j => rops_not c)
  have hem : Hid (∀ i, emitsN (c.code.take i) ≤ nc) := Lib.hid (fun i => by rw [← h.lc]; exact emitsN_take_le c.code i)
  have hes : Hid (∀ i, i < nc → emitsN (c.code.take (i + 1)) = emitsN (c.code.take i) + if (insAt c.code i).op = 15 then 1 else 0) := Lib.hid (fun i hi => emitsN_step c.code i (by rw [h.lc]; exact hi))
  have het : Hid (emitsN (c.code.take nc) = emitsN c.code) := Lib.hid (by rw [← h.lc, List.take_length])
  clear h hf hs1 hs2 hz
  generalize c.fuel = fuel at *
  have e0 : decide (8 < (nr : Int) + (nw : Int)) = false := decide_eq_false (by omega)
  have e1 : decide (8 < (na : Int)) = false := decide_eq_false (by omega)
  have e2 : decide ((nc : Int) < 1) = false := decide_eq_false (by omega)
  have e3 : decide (64 < (nc : Int)) = false := decide_eq_false (by omega)
  have e4 : decide (fuel < 1) = false := decide_eq_false (by omega)
  have e5 : decide (200 < fuel) = false := decide_eq_false (by omega)
  go_enter Try.func28, Try.ntmps28
  go_wp2_with (first
    | (go_at_call 46; with_reducible refine (p1.out _ B0.out).mono ?_; rintro e w1 ⟨rfl, hb1⟩; have B1 := Lib.hid (bnext B0.out hb1); obtain ⟨c0, c1, c2, c3, c4, cf⟩ := (C0.out.below hb1).cmd; have cl := (C0.out.below hb1).lt; have C1 := Lib.hid (C0.out.below hb1); clear hb1)
    | (go_at_call 46; go_must ((with_reducible refine (p2.out _ B1.out).mono ?_); rintro e w2 ⟨rfl, hb2⟩; have B2 := Lib.hid (bnext B1.out hb2); have C2 := Lib.hid (C1.out.below hb2); clear hb2)))
  clear p1 p2
  go_loopw [3] (fun kk wr => ∃ i : Nat, i ≤ nr ∧ kk = .int .i64 i ∧ Hid (Below w.heap.size w wr) ∧ Hid (Bk wr w.heap.size 33 #[.slice ra nr rc, .slice wa nw wc, .slice aa na ac, .int .i64 fuel, .slice ca nc cc]) ∧ Hid (∀ a, a < i → ∀ b, b < nw → c.reads[a]?.getD 0 ≠ c.writes[b]?.getD 0)) (fun kk _ => nr - (intOf kk).toNat)
  case atStart => exact ⟨0, Nat.zero_le _, rfl, B2, C2, Lib.hid (fun a h => by omega)⟩
  case round =>
    clear B0 C0 B1 C1 B2 C2 c0 c1 c2 c3 c4 cf cl
    obtain ⟨i, hi, rfl, HB, HC, HN⟩ := hrel
    obtain ⟨k0, k1, k2, k3, k4, -⟩ := HC.out.cmd
    have kl := HC.out.lt
    by_cases hlt : i < nr
    · have d1 : (i : Int) < (nr : Int) := by omega
      have d2 : (i : Int) < (rc : Int) := by omega
      go_wp2
      go_loopw [4] (fun kk wi => ∃ j : Nat, j ≤ nw ∧ kk = .int .i64 j ∧ Hid (Below w.heap.size w wi) ∧ Hid (Bk wi w.heap.size 33 #[.slice ra nr rc, .slice wa nw wc, .slice aa na ac, .int .i64 fuel, .slice ca nc cc]) ∧ Hid (∀ b, b < j → c.reads[i]?.getD 0 ≠ c.writes[b]?.getD 0)) (fun kk _ => nw - (intOf kk).toNat)
      case atStart => exact ⟨0, Nat.zero_le _, rfl, HB, HC, Lib.hid (fun b h => by omega)⟩
      case round =>
        clear HB HC k0 k1 k2 k3 k4 kl
        obtain ⟨j, hj, rfl, HB, HC, HJ⟩ := hrel
        obtain ⟨k0, k1, k2, k3, k4, -⟩ := HC.out.cmd
        have kl := HC.out.lt
        by_cases hjt : j < nw
        · have d3 : (j : Int) < (nw : Int) := by omega
          have d4 : (j : Int) < (wc : Int) := by omega
          obtain ⟨b1, o1, rfl, hb1, x1⟩ := (hrd.out _ HB.out).cellAt (j := i) (by rw [hlr.out]; exact hlt)
          obtain ⟨b2, o2, rfl, hb2, x2⟩ := (hwr.out _ HB.out).cellAt (j := j) (by rw [hlw.out]; exact hjt)
          by_cases heq : c.reads[i]?.getD 0 = c.writes[j]?.getD 0
          · obtain rfl : z = 8 := hz8.out i hlt j hjt heq
            rw [← heq] at x2
            generalize c.reads[i]?.getD 0 = x at *
            have q1 : (x == x) = true := by simp
            clear heq
            go_wp2
            go_quiet (fail)
            go_wp2
            go_ret
            exact ⟨rfl, bnext HB.out (drewR _ _)⟩
          · have HJ2 : Hid (∀ b, b < j + 1 → c.reads[i]?.getD 0 ≠ c.writes[b]?.getD 0) := Lib.hid (fun b hb => by
              rcases Nat.lt_or_eq_of_le (Nat.le_of_lt_succ hb) with q | q
              · exact HJ.out b q
              · subst q; exact heq)
            have q1 : (c.reads[i]?.getD 0 == c.writes[j]?.getD 0) = false := by simpa using heq
            clear heq
            obtain ⟨x, hgx⟩ : ∃ x, x = c.reads[i]?.getD 0 := ⟨_, rfl⟩
            obtain ⟨y, hgy⟩ : ∃ y, y = c.writes[j]?.getD 0 := ⟨_, rfl⟩
            rw [← hgx] at x1 q1
            rw [← hgy] at x2 q1
            clear hgx hgy
            go_wp2
            go_quiet (fail)
            go_wp2
            go_roundw
            case rel => exact ⟨j + 1, by omega, by go_num, Lib.hid (bnext HB.out (drewR _ _)), Lib.hid (HC.out.below (drewR _ _)), HJ2⟩
            case measure => simp [intOf]; omega
        · obtain rfl : j = nw := by omega
          have HN2 : Hid (∀ a, a < i + 1 → ∀ b, b < j → c.reads[a]?.getD 0 ≠ c.writes[b]?.getD 0) := Lib.hid (fun a ha b hb => by
            rcases Nat.lt_or_eq_of_le (Nat.le_of_lt_succ ha) with q | q
            · exact HN.out a q b hb
            · subst q; exact HJ.out b hb)
          clear hjt
          go_wp2
          go_roundw
          case rel => exact ⟨i + 1, by omega, by go_num, HB, HC, HN2⟩
          case measure => simp [intOf]; omega
    · obtain rfl : i = nr := by omega
      have hzc := Lib.hid (hzr.out HN.out)
      clear hlt hz8 hzr HN
      go_wp2
      go_loopw [5, 6] (fun em kk wr => ∃ k : Nat, k ≤ nc ∧ kk = .int .i64 k ∧ em = .int .i64 (emitsN (c.code.take k) : Nat) ∧ Hid (Below w.heap.size w wr) ∧ Hid (Bk wr w.heap.size 33 #[.slice ra i rc, .slice wa nw wc, .slice aa na ac, .int .i64 fuel, .slice ca nc cc]) ∧ Hid (∀ j, j < k → rightN (insAt c.code j) ∧ boundsL i nw na (insAt c.code j))) (fun _ kk _ => nc - (intOf kk).toNat)
      case atStart => exact ⟨0, Nat.zero_le _, rfl, rfl, HB, HC, Lib.hid (fun j h => by omega)⟩
      case round =>
        clear HB HC k0 k1 k2 k3 k4 kl
        obtain ⟨k, hk, rfl, rfl, HB, HC, HO⟩ := hrel
        obtain ⟨k0, k1, k2, k3, k4, -⟩ := HC.out.cmd
        have kl := HC.out.lt
        by_cases hlt : k < nc
        · have d1 : (k : Int) < (nc : Int) := by omega
          have d2 : (k : Int) < (cc : Int) := by omega
          obtain ⟨b, off, rfl, hbl, x0, x1, x2⟩ := (hcode.out wr HB.out).cellAt (j := k) (by rw [hlc.out]; exact hlt)
          have hcl := Lib.hid (fun X (hX : Below wr.heap.size wr X) => (show X.cell? ⟨b, off + k * 3, none⟩ = some (.int .i64 (insAt c.code k).op) ∧ X.cell? ⟨b, off + k * 3 + 1, none⟩ = some (.int .i64 (insAt c.code k).a) ∧ X.cell? ⟨b, off + k * 3 + 2, none⟩ = some (.int .i64 (insAt c.code k).b) ∧ b < X.heap.size from ⟨(hX.cell (p := ⟨b, off + k * 3, none⟩) hbl).trans x0, (hX.cell (p := ⟨b, off + k * 3 + 1, none⟩) hbl).trans x1, (hX.cell (p := ⟨b, off + k * 3 + 2, none⟩) hbl).trans x2, Nat.lt_of_lt_of_le hbl hX.size⟩))
          have hst := hes.out k hlt
          have hle := hem.out k
          by_cases hr : rightN (insAt c.code k)
          · have hrt := Lib.hid (fun X => insRright_any (insAt c.code k) true (decide_eq_true hr) X)
            by_cases hb : boundsL i nw na (insAt c.code k)
            · have hbd := Lib.hid (fun X => rbounds_any ra i rc wa nw wc aa na ac fuel (some ⟨b, off, none⟩) nc cc (insAt c.code k) X (by omega) (by omega) true (decide_eq_true hb))
              have HO2 : Hid (∀ j, j < k + 1 → rightN (insAt c.code j) ∧ boundsL i nw na (insAt c.code j)) := Lib.hid (fun j hj => by
                rcases Nat.lt_or_eq_of_le (Nat.le_of_lt_succ hj) with q | q
                · exact HO.out j q
                · subst q; exact ⟨hr, hb⟩)
              obtain ⟨E, hE⟩ : ∃ E, E = emitsN (c.code.take k) := ⟨_, rfl⟩
              rw [← hE] at hst hle ⊢
              have hst' := Lib.hid hst
              clear hr hb hE hst
              generalize insAt c.code k = x at *
              obtain ⟨op, xa, xb⟩ := x
              simp only at x0 x1 x2
              go_wp2
              refine wp_region_saysK 16 (fun x y => Below x.heap.size x y) (fun _ _ _ h k => bnext h k) wr (below_drew1 wr) (by kernel_rfl) (by kernel_rfl) (by kernel_rfl) (by kernel_rfl) (by rfl) ?_
              simp only [List.take_succ_cons, List.take_zero, List.drop_succ_cons, List.drop_zero]
              refine walkK_is ?_ (by first | exact gs0 rfl | exact gs1 rfl rfl rfl) (fun _ => Below.refl _ _) (fun u X hX hd => ?_) ?_
              rotate_left
              · obtain ⟨k0, k1, k2, k3, k4, -⟩ := (HC.out.below hX).cmd
                have kl := (HC.out.below hX).lt
                obtain ⟨y0, y1, y2, yl⟩ := hcl.out X hX
                try simp at hd
                go_simp
                try rfl
              apply walkK_norm
              · first | (simp only [List.nil_append]; rfl) | simp only [List.nil_append]
              refine walkK_is ?_ (by first | exact gs0 rfl | exact gs1 rfl rfl rfl) (fun _ => Below.refl _ _) (fun u X hX hd => ?_) ?_
              rotate_left
              · obtain ⟨k0, k1, k2, k3, k4, -⟩ := (HC.out.below hX).cmd
                have kl := (HC.out.below hX).lt
                obtain ⟨y0, y1, y2, yl⟩ := hcl.out X hX
                try simp at hd
                go_simp
                try rfl
              apply walkK_norm
              · first | (simp only [List.nil_append, List.cons_append]; rfl) | simp only [List.nil_append, List.cons_append]
              refine walkK_is ?_ (by first | exact gs0 rfl | exact gs1 rfl rfl rfl) (fun _ => Below.refl _ _) (fun u X hX hd => ?_) ?_
              rotate_left
              · obtain ⟨k0, k1, k2, k3, k4, -⟩ := (HC.out.below hX).cmd
                have kl := (HC.out.below hX).lt
                obtain ⟨y0, y1, y2, yl⟩ := hcl.out X hX
                try simp at hd
                go_simp
                try rfl
              apply walkK_norm
              · first | (simp only [List.nil_append, List.cons_append]; rfl) | simp only [List.nil_append, List.cons_append]
              refine walkK_is ?_ (by first | exact gs0 rfl | exact gs1 rfl rfl rfl) (fun _ => Below.refl _ _) (fun u X hX hd => ?_) ?_
              rotate_left
              · obtain ⟨k0, k1, k2, k3, k4, -⟩ := (HC.out.below hX).cmd
                have kl := (HC.out.below hX).lt
                obtain ⟨y0, y1, y2, yl⟩ := hcl.out X hX
                try simp at hd
                go_simp
                try rfl
              apply walkK_norm
              · first | (simp only [List.nil_append, List.cons_append]; rfl) | simp only [List.nil_append, List.cons_append]
              refine walkK_is ?_ (by first | exact gs0 rfl | exact gs1 rfl rfl rfl) (fun _ => Below.refl _ _) (fun u X hX hd => ?_) ?_
              rotate_left
              · obtain ⟨k0, k1, k2, k3, k4, -⟩ := (HC.out.below hX).cmd
                have kl := (HC.out.below hX).lt
                obtain ⟨y0, y1, y2, yl⟩ := hcl.out X hX
                try simp at hd
                go_simp
                try rfl
              apply walkK_norm
              · first | (simp only [List.nil_append, List.cons_append]; rfl) | simp only [List.nil_append, List.cons_append]
              refine walkK_call (isV (.bool true)) 47 ?_ (by first | exact gs0 rfl | exact gs1 rfl rfl rfl) (fun _ _ _ _ h => h) (fun u X hX hd => ?_) (fun X hX => ?_) ?_
              rotate_left
              · obtain ⟨k0, k1, k2, k3, k4, -⟩ := (HC.out.below hX).cmd
                have kl := (HC.out.below hX).lt
                obtain ⟨y0, y1, y2, yl⟩ := hcl.out X hX
                try simp at hd
                go_simp
                try rfl
              · exact (hrt.out X).mono fun e X' ⟨he, hb⟩ => ⟨_, he, hb, rfl⟩
              apply walkK_norm
              · first | (simp only [List.nil_append, List.cons_append]; rfl) | simp only [List.nil_append, List.cons_append]
              refine walkK_is ?_ (by first | exact gs0 rfl | exact gs1 rfl rfl rfl) (fun _ => Below.refl _ _) (fun u X hX hd => ?_) ?_
              rotate_left
              · obtain ⟨k0, k1, k2, k3, k4, -⟩ := (HC.out.below hX).cmd
                have kl := (HC.out.below hX).lt
                obtain ⟨y0, y1, y2, yl⟩ := hcl.out X hX
                try simp at hd
                go_simp
                try rfl
              apply walkK_norm
              · first | (simp only [List.nil_append, List.cons_append]; rfl) | simp only [List.nil_append, List.cons_append]
              refine walkK_is (.bool false) (by first | exact gs0 rfl | exact gs1 rfl rfl rfl) (fun _ => Below.refl _ _) (fun u X hX hd => ?_) ?_
              · obtain ⟨k0, k1, k2, k3, k4, -⟩ := (HC.out.below hX).cmd
                have kl := (HC.out.below hX).lt
                obtain ⟨y0, y1, y2, yl⟩ := hcl.out X hX
                try simp at hd
                go_simp
              apply walkK_norm
              · first | (simp only [List.nil_append, List.cons_append]; rfl) | simp only [List.nil_append, List.cons_append]
              refine walkK_is ?_ (by first | exact gs0 rfl | exact gs1 rfl rfl rfl) (fun _ => Below.refl _ _) (fun u X hX hd => ?_) ?_
              rotate_left
              · obtain ⟨k0, k1, k2, k3, k4, -⟩ := (HC.out.below hX).cmd
                have kl := (HC.out.below hX).lt
                obtain ⟨y0, y1, y2, yl⟩ := hcl.out X hX
                try simp at hd
                go_simp
                try rfl
              apply walkK_norm
              · first | (simp only [List.nil_append, List.cons_append]; rfl) | simp only [List.nil_append, List.cons_append]
              refine walkK_is ?_ (by first | exact gs0 rfl | exact gs1 rfl rfl rfl) (fun _ => Below.refl _ _) (fun u X hX hd => ?_) ?_
              rotate_left
              · obtain ⟨k0, k1, k2, k3, k4, -⟩ := (HC.out.below hX).cmd
                have kl := (HC.out.below hX).lt
                obtain ⟨y0, y1, y2, yl⟩ := hcl.out X hX
                try simp at hd
                go_simp
                try rfl
              apply walkK_norm
              · first | (simp only [List.nil_append, List.cons_append]; rfl) | simp only [List.nil_append, List.cons_append]
              refine walkK_is ?_ (by first | exact gs0 rfl | exact gs1 rfl rfl rfl) (fun _ => Below.refl _ _) (fun u X hX hd => ?_) ?_
              rotate_left
              · obtain ⟨k0, k1, k2, k3, k4, -⟩ := (HC.out.below hX).cmd
                have kl := (HC.out.below hX).lt
                obtain ⟨y0, y1, y2, yl⟩ := hcl.out X hX
                try simp at hd
                go_simp
                try rfl
              apply walkK_norm
              · first | (simp only [List.nil_append, List.cons_append]; rfl) | simp only [List.nil_append, List.cons_append]
              refine walkK_is ?_ (by first | exact gs0 rfl | exact gs1 rfl rfl rfl) (fun _ => Below.refl _ _) (fun u X hX hd => ?_) ?_
              rotate_left
              · obtain ⟨k0, k1, k2, k3, k4, -⟩ := (HC.out.below hX).cmd
                have kl := (HC.out.below hX).lt
                obtain ⟨y0, y1, y2, yl⟩ := hcl.out X hX
                try simp at hd
                go_simp
                try rfl
              apply walkK_norm
              · first | (simp only [List.nil_append, List.cons_append]; rfl) | simp only [List.nil_append, List.cons_append]
              refine walkK_is ?_ (by first | exact gs0 rfl | exact gs1 rfl rfl rfl) (fun _ => Below.refl _ _) (fun u X hX hd => ?_) ?_
              rotate_left
              · obtain ⟨k0, k1, k2, k3, k4, -⟩ := (HC.out.below hX).cmd
                have kl := (HC.out.below hX).lt
                obtain ⟨y0, y1, y2, yl⟩ := hcl.out X hX
                try simp at hd
                go_simp
                try rfl
              apply walkK_norm
              · first | (simp only [List.nil_append, List.cons_append]; rfl) | simp only [List.nil_append, List.cons_append]
              refine walkK_is ?_ (by first | exact gs0 rfl | exact gs1 rfl rfl rfl) (fun _ => Below.refl _ _) (fun u X hX hd => ?_) ?_
              rotate_left
              · obtain ⟨k0, k1, k2, k3, k4, -⟩ := (HC.out.below hX).cmd
                have kl := (HC.out.below hX).lt
                obtain ⟨y0, y1, y2, yl⟩ := hcl.out X hX
                try simp at hd
                go_simp
                try rfl
              apply walkK_norm
              · first | (simp only [List.nil_append, List.cons_append]; rfl) | simp only [List.nil_append, List.cons_append]
              refine walkK_call (isV (.bool true)) 48 ?_ (by first | exact gs0 rfl | exact gs1 rfl rfl rfl) (fun _ _ _ _ h => h) (fun u X hX hd => ?_) (fun X hX => ?_) ?_
              rotate_left
              · obtain ⟨k0, k1, k2, k3, k4, -⟩ := (HC.out.below hX).cmd
                have kl := (HC.out.below hX).lt
                obtain ⟨y0, y1, y2, yl⟩ := hcl.out X hX
                try simp at hd
                go_simp
                try rfl
              · exact (hbd.out X).mono fun e X' ⟨he, hb⟩ => ⟨_, he, hb, rfl⟩
              apply walkK_norm
              · first | (simp only [List.nil_append, List.cons_append]; rfl) | simp only [List.nil_append, List.cons_append]
              refine walkK_is ?_ (by first | exact gs0 rfl | exact gs1 rfl rfl rfl) (fun _ => Below.refl _ _) (fun u X hX hd => ?_) ?_
              rotate_left
              · obtain ⟨k0, k1, k2, k3, k4, -⟩ := (HC.out.below hX).cmd
                have kl := (HC.out.below hX).lt
                obtain ⟨y0, y1, y2, yl⟩ := hcl.out X hX
                try simp at hd
                go_simp
                try rfl
              apply walkK_norm
              · first | (simp only [List.nil_append, List.cons_append]; rfl) | simp only [List.nil_append, List.cons_append]
              intro u X hX hsay
              simp only [sayAll, isV] at hsay
              obtain ⟨-, -, -, -, -, -, -, s7, -, -, -, -, -, -, -, s15, -⟩ := hsay
              obtain ⟨k0, k1, k2, k3, k4, -⟩ := (HC.out.below hX).cmd
              have kl := (HC.out.below hX).lt
              obtain ⟨y0, y1, y2, yl⟩ := hcl.out X hX
              simp only [putAll, Act.put]
              by_cases h15 : op = 15
              · subst h15
                have hst2 : Hid (emitsN (c.code.take (k + 1)) = E + 1) := Lib.hid (by simpa using hst'.out)
                have q15 : ((15 : Int) == 15) = true := rfl
                go_wp2
                go_roundw
                case rel => exact ⟨k + 1, by omega, by go_num, by rw [hst2.out]; go_num, Lib.hid (bnext HB.out hX), Lib.hid (HC.out.below hX), HO2⟩
                case measure => simp [intOf]; omega
              · have hst2 : Hid (emitsN (c.code.take (k + 1)) = E) := Lib.hid (by simpa [h15] using hst'.out)
                have q15 : (op == 15) = false := by simpa using h15
                go_wp2
                go_roundw
                case rel => exact ⟨k + 1, by omega, by go_num, by rw [hst2.out], Lib.hid (bnext HB.out hX), Lib.hid (HC.out.below hX), HO2⟩
                case measure => simp [intOf]; omega
            · have hbd := Lib.hid (fun X => rbounds_any ra i rc wa nw wc aa na ac fuel (some ⟨b, off, none⟩) nc cc (insAt c.code k) X (by omega) (by omega) false (decide_eq_false hb))
              obtain rfl : z = 5 := by rw [hzc.out, checkZ, if_pos (hnot.out k hlt (fun q => hb q.2))]
              clear hr hb hst
              generalize insAt c.code k = x at *
              obtain ⟨op, xa, xb⟩ := x
              simp only at x0 x1 x2
              go_wp2
              refine wp_region_saysK 16 (fun x y => Below x.heap.size x y) (fun _ _ _ h k => bnext h k) wr (below_drew1 wr) (by kernel_rfl) (by kernel_rfl) (by kernel_rfl) (by kernel_rfl) (by rfl) ?_
              simp only [List.take_succ_cons, List.take_zero, List.drop_succ_cons, List.drop_zero]
              refine walkK_is ?_ (by first | exact gs0 rfl | exact gs1 rfl rfl rfl) (fun _ => Below.refl _ _) (fun u X hX hd => ?_) ?_
              rotate_left
              · obtain ⟨k0, k1, k2, k3, k4, -⟩ := (HC.out.below hX).cmd
                have kl := (HC.out.below hX).lt
                obtain ⟨y0, y1, y2, yl⟩ := hcl.out X hX
                try simp at hd
                go_simp
                try rfl
              apply walkK_norm
              · first | (simp only [List.nil_append]; rfl) | simp only [List.nil_append]
              refine walkK_is ?_ (by first | exact gs0 rfl | exact gs1 rfl rfl rfl) (fun _ => Below.refl _ _) (fun u X hX hd => ?_) ?_
              rotate_left
              · obtain ⟨k0, k1, k2, k3, k4, -⟩ := (HC.out.below hX).cmd
                have kl := (HC.out.below hX).lt
                obtain ⟨y0, y1, y2, yl⟩ := hcl.out X hX
                try simp at hd
                go_simp
                try rfl
              apply walkK_norm
              · first | (simp only [List.nil_append, List.cons_append]; rfl) | simp only [List.nil_append, List.cons_append]
              refine walkK_is ?_ (by first | exact gs0 rfl | exact gs1 rfl rfl rfl) (fun _ => Below.refl _ _) (fun u X hX hd => ?_) ?_
              rotate_left
              · obtain ⟨k0, k1, k2, k3, k4, -⟩ := (HC.out.below hX).cmd
                have kl := (HC.out.below hX).lt
                obtain ⟨y0, y1, y2, yl⟩ := hcl.out X hX
                try simp at hd
                go_simp
                try rfl
              apply walkK_norm
              · first | (simp only [List.nil_append, List.cons_append]; rfl) | simp only [List.nil_append, List.cons_append]
              refine walkK_is ?_ (by first | exact gs0 rfl | exact gs1 rfl rfl rfl) (fun _ => Below.refl _ _) (fun u X hX hd => ?_) ?_
              rotate_left
              · obtain ⟨k0, k1, k2, k3, k4, -⟩ := (HC.out.below hX).cmd
                have kl := (HC.out.below hX).lt
                obtain ⟨y0, y1, y2, yl⟩ := hcl.out X hX
                try simp at hd
                go_simp
                try rfl
              apply walkK_norm
              · first | (simp only [List.nil_append, List.cons_append]; rfl) | simp only [List.nil_append, List.cons_append]
              refine walkK_is ?_ (by first | exact gs0 rfl | exact gs1 rfl rfl rfl) (fun _ => Below.refl _ _) (fun u X hX hd => ?_) ?_
              rotate_left
              · obtain ⟨k0, k1, k2, k3, k4, -⟩ := (HC.out.below hX).cmd
                have kl := (HC.out.below hX).lt
                obtain ⟨y0, y1, y2, yl⟩ := hcl.out X hX
                try simp at hd
                go_simp
                try rfl
              apply walkK_norm
              · first | (simp only [List.nil_append, List.cons_append]; rfl) | simp only [List.nil_append, List.cons_append]
              refine walkK_call (isV (.bool true)) 47 ?_ (by first | exact gs0 rfl | exact gs1 rfl rfl rfl) (fun _ _ _ _ h => h) (fun u X hX hd => ?_) (fun X hX => ?_) ?_
              rotate_left
              · obtain ⟨k0, k1, k2, k3, k4, -⟩ := (HC.out.below hX).cmd
                have kl := (HC.out.below hX).lt
                obtain ⟨y0, y1, y2, yl⟩ := hcl.out X hX
                try simp at hd
                go_simp
                try rfl
              · exact (hrt.out X).mono fun e X' ⟨he, hb⟩ => ⟨_, he, hb, rfl⟩
              apply walkK_norm
              · first | (simp only [List.nil_append, List.cons_append]; rfl) | simp only [List.nil_append, List.cons_append]
              refine walkK_is ?_ (by first | exact gs0 rfl | exact gs1 rfl rfl rfl) (fun _ => Below.refl _ _) (fun u X hX hd => ?_) ?_
              rotate_left
              · obtain ⟨k0, k1, k2, k3, k4, -⟩ := (HC.out.below hX).cmd
                have kl := (HC.out.below hX).lt
                obtain ⟨y0, y1, y2, yl⟩ := hcl.out X hX
                try simp at hd
                go_simp
                try rfl
              apply walkK_norm
              · first | (simp only [List.nil_append, List.cons_append]; rfl) | simp only [List.nil_append, List.cons_append]
              refine walkK_is (.bool false) (by first | exact gs0 rfl | exact gs1 rfl rfl rfl) (fun _ => Below.refl _ _) (fun u X hX hd => ?_) ?_
              · obtain ⟨k0, k1, k2, k3, k4, -⟩ := (HC.out.below hX).cmd
                have kl := (HC.out.below hX).lt
                obtain ⟨y0, y1, y2, yl⟩ := hcl.out X hX
                try simp at hd
                go_simp
              apply walkK_norm
              · first | (simp only [List.nil_append, List.cons_append]; rfl) | simp only [List.nil_append, List.cons_append]
              refine walkK_is ?_ (by first | exact gs0 rfl | exact gs1 rfl rfl rfl) (fun _ => Below.refl _ _) (fun u X hX hd => ?_) ?_
              rotate_left
              · obtain ⟨k0, k1, k2, k3, k4, -⟩ := (HC.out.below hX).cmd
                have kl := (HC.out.below hX).lt
                obtain ⟨y0, y1, y2, yl⟩ := hcl.out X hX
                try simp at hd
                go_simp
                try rfl
              apply walkK_norm
              · first | (simp only [List.nil_append, List.cons_append]; rfl) | simp only [List.nil_append, List.cons_append]
              refine walkK_is ?_ (by first | exact gs0 rfl | exact gs1 rfl rfl rfl) (fun _ => Below.refl _ _) (fun u X hX hd => ?_) ?_
              rotate_left
              · obtain ⟨k0, k1, k2, k3, k4, -⟩ := (HC.out.below hX).cmd
                have kl := (HC.out.below hX).lt
                obtain ⟨y0, y1, y2, yl⟩ := hcl.out X hX
                try simp at hd
                go_simp
                try rfl
              apply walkK_norm
              · first | (simp only [List.nil_append, List.cons_append]; rfl) | simp only [List.nil_append, List.cons_append]
              refine walkK_is ?_ (by first | exact gs0 rfl | exact gs1 rfl rfl rfl) (fun _ => Below.refl _ _) (fun u X hX hd => ?_) ?_
              rotate_left
              · obtain ⟨k0, k1, k2, k3, k4, -⟩ := (HC.out.below hX).cmd
                have kl := (HC.out.below hX).lt
                obtain ⟨y0, y1, y2, yl⟩ := hcl.out X hX
                try simp at hd
                go_simp
                try rfl
              apply walkK_norm
              · first | (simp only [List.nil_append, List.cons_append]; rfl) | simp only [List.nil_append, List.cons_append]
              refine walkK_is ?_ (by first | exact gs0 rfl | exact gs1 rfl rfl rfl) (fun _ => Below.refl _ _) (fun u X hX hd => ?_) ?_
              rotate_left
              · obtain ⟨k0, k1, k2, k3, k4, -⟩ := (HC.out.below hX).cmd
                have kl := (HC.out.below hX).lt
                obtain ⟨y0, y1, y2, yl⟩ := hcl.out X hX
                try simp at hd
                go_simp
                try rfl
              apply walkK_norm
              · first | (simp only [List.nil_append, List.cons_append]; rfl) | simp only [List.nil_append, List.cons_append]
              refine walkK_is ?_ (by first | exact gs0 rfl | exact gs1 rfl rfl rfl) (fun _ => Below.refl _ _) (fun u X hX hd => ?_) ?_
              rotate_left
              · obtain ⟨k0, k1, k2, k3, k4, -⟩ := (HC.out.below hX).cmd
                have kl := (HC.out.below hX).lt
                obtain ⟨y0, y1, y2, yl⟩ := hcl.out X hX
                try simp at hd
                go_simp
                try rfl
              apply walkK_norm
              · first | (simp only [List.nil_append, List.cons_append]; rfl) | simp only [List.nil_append, List.cons_append]
              refine walkK_is ?_ (by first | exact gs0 rfl | exact gs1 rfl rfl rfl) (fun _ => Below.refl _ _) (fun u X hX hd => ?_) ?_
              rotate_left
              · obtain ⟨k0, k1, k2, k3, k4, -⟩ := (HC.out.below hX).cmd
                have kl := (HC.out.below hX).lt
                obtain ⟨y0, y1, y2, yl⟩ := hcl.out X hX
                try simp at hd
                go_simp
                try rfl
              apply walkK_norm
              · first | (simp only [List.nil_append, List.cons_append]; rfl) | simp only [List.nil_append, List.cons_append]
              refine walkK_call (isV (.bool false)) 48 ?_ (by first | exact gs0 rfl | exact gs1 rfl rfl rfl) (fun _ _ _ _ h => h) (fun u X hX hd => ?_) (fun X hX => ?_) ?_
              rotate_left
              · obtain ⟨k0, k1, k2, k3, k4, -⟩ := (HC.out.below hX).cmd
                have kl := (HC.out.below hX).lt
                obtain ⟨y0, y1, y2, yl⟩ := hcl.out X hX
                try simp at hd
                go_simp
                try rfl
              · exact (hbd.out X).mono fun e X' ⟨he, hb⟩ => ⟨_, he, hb, rfl⟩
              apply walkK_norm
              · first | (simp only [List.nil_append, List.cons_append]; rfl) | simp only [List.nil_append, List.cons_append]
              refine walkK_is ?_ (by first | exact gs0 rfl | exact gs1 rfl rfl rfl) (fun _ => Below.refl _ _) (fun u X hX hd => ?_) ?_
              rotate_left
              · obtain ⟨k0, k1, k2, k3, k4, -⟩ := (HC.out.below hX).cmd
                have kl := (HC.out.below hX).lt
                obtain ⟨y0, y1, y2, yl⟩ := hcl.out X hX
                try simp at hd
                go_simp
                try rfl
              apply walkK_norm
              · first | (simp only [List.nil_append, List.cons_append]; rfl) | simp only [List.nil_append, List.cons_append]
              intro u X hX hsay
              simp only [sayAll, isV] at hsay
              obtain ⟨-, -, -, -, -, -, -, s7, -, -, -, -, -, -, -, s15, -⟩ := hsay
              obtain ⟨k0, k1, k2, k3, k4, -⟩ := (HC.out.below hX).cmd
              have kl := (HC.out.below hX).lt
              obtain ⟨y0, y1, y2, yl⟩ := hcl.out X hX
              simp only [putAll, Act.put]
              go_wp2
              go_ret
              exact ⟨rfl, bnext HB.out hX⟩
          · have hrt := Lib.hid (fun X => insRright_any (insAt c.code k) false (decide_eq_false hr) X)
            obtain rfl : z = 5 := by rw [hzc.out, checkZ, if_pos (hnot.out k hlt (fun q => hr q.1))]
            clear hr hst
            generalize insAt c.code k = x at *
            obtain ⟨op, xa, xb⟩ := x
            simp only at x0 x1 x2
            go_wp2
            refine wp_region_saysK 16 (fun x y => Below x.heap.size x y) (fun _ _ _ h k => bnext h k) wr (below_drew1 wr) (by kernel_rfl) (by kernel_rfl) (by kernel_rfl) (by kernel_rfl) (by rfl) ?_
            simp only [List.take_succ_cons, List.take_zero, List.drop_succ_cons, List.drop_zero]
            refine walkK_is ?_ (by first | exact gs0 rfl | exact gs1 rfl rfl rfl) (fun _ => Below.refl _ _) (fun u X hX hd => ?_) ?_
            rotate_left
            · obtain ⟨k0, k1, k2, k3, k4, -⟩ := (HC.out.below hX).cmd
              have kl := (HC.out.below hX).lt
              obtain ⟨y0, y1, y2, yl⟩ := hcl.out X hX
              try simp at hd
              go_simp
              try rfl
            apply walkK_norm
            · first | (simp only [List.nil_append]; rfl) | simp only [List.nil_append]
            refine walkK_is ?_ (by first | exact gs0 rfl | exact gs1 rfl rfl rfl) (fun _ => Below.refl _ _) (fun u X hX hd => ?_) ?_
            rotate_left
            · obtain ⟨k0, k1, k2, k3, k4, -⟩ := (HC.out.below hX).cmd
              have kl := (HC.out.below hX).lt
              obtain ⟨y0, y1, y2, yl⟩ := hcl.out X hX
              try simp at hd
              go_simp
              try rfl
            apply walkK_norm
            · first | (simp only [List.nil_append, List.cons_append]; rfl) | simp only [List.nil_append, List.cons_append]
            refine walkK_is ?_ (by first | exact gs0 rfl | exact gs1 rfl rfl rfl) (fun _ => Below.refl _ _) (fun u X hX hd => ?_) ?_
            rotate_left
            · obtain ⟨k0, k1, k2, k3, k4, -⟩ := (HC.out.below hX).cmd
              have kl := (HC.out.below hX).lt
              obtain ⟨y0, y1, y2, yl⟩ := hcl.out X hX
              try simp at hd
              go_simp
              try rfl
            apply walkK_norm
            · first | (simp only [List.nil_append, List.cons_append]; rfl) | simp only [List.nil_append, List.cons_append]
            refine walkK_is ?_ (by first | exact gs0 rfl | exact gs1 rfl rfl rfl) (fun _ => Below.refl _ _) (fun u X hX hd => ?_) ?_
            rotate_left
            · obtain ⟨k0, k1, k2, k3, k4, -⟩ := (HC.out.below hX).cmd
              have kl := (HC.out.below hX).lt
              obtain ⟨y0, y1, y2, yl⟩ := hcl.out X hX
              try simp at hd
              go_simp
              try rfl
            apply walkK_norm
            · first | (simp only [List.nil_append, List.cons_append]; rfl) | simp only [List.nil_append, List.cons_append]
            refine walkK_is ?_ (by first | exact gs0 rfl | exact gs1 rfl rfl rfl) (fun _ => Below.refl _ _) (fun u X hX hd => ?_) ?_
            rotate_left
            · obtain ⟨k0, k1, k2, k3, k4, -⟩ := (HC.out.below hX).cmd
              have kl := (HC.out.below hX).lt
              obtain ⟨y0, y1, y2, yl⟩ := hcl.out X hX
              try simp at hd
              go_simp
              try rfl
            apply walkK_norm
            · first | (simp only [List.nil_append, List.cons_append]; rfl) | simp only [List.nil_append, List.cons_append]
            refine walkK_call (isV (.bool false)) 47 ?_ (by first | exact gs0 rfl | exact gs1 rfl rfl rfl) (fun _ _ _ _ h => h) (fun u X hX hd => ?_) (fun X hX => ?_) ?_
            rotate_left
            · obtain ⟨k0, k1, k2, k3, k4, -⟩ := (HC.out.below hX).cmd
              have kl := (HC.out.below hX).lt
              obtain ⟨y0, y1, y2, yl⟩ := hcl.out X hX
              try simp at hd
              go_simp
              try rfl
            · exact (hrt.out X).mono fun e X' ⟨he, hb⟩ => ⟨_, he, hb, rfl⟩
            apply walkK_norm
            · first | (simp only [List.nil_append, List.cons_append]; rfl) | simp only [List.nil_append, List.cons_append]
            refine walkK_is ?_ (by first | exact gs0 rfl | exact gs1 rfl rfl rfl) (fun _ => Below.refl _ _) (fun u X hX hd => ?_) ?_
            rotate_left
            · obtain ⟨k0, k1, k2, k3, k4, -⟩ := (HC.out.below hX).cmd
              have kl := (HC.out.below hX).lt
              obtain ⟨y0, y1, y2, yl⟩ := hcl.out X hX
              try simp at hd
              go_simp
              try rfl
            apply walkK_norm
            · first | (simp only [List.nil_append, List.cons_append]; rfl) | simp only [List.nil_append, List.cons_append]
            refine walkK_is (.bool true) (by first | exact gs0 rfl | exact gs1 rfl rfl rfl) (fun _ => Below.refl _ _) (fun u X hX hd => ?_) ?_
            · obtain ⟨k0, k1, k2, k3, k4, -⟩ := (HC.out.below hX).cmd
              have kl := (HC.out.below hX).lt
              obtain ⟨y0, y1, y2, yl⟩ := hcl.out X hX
              try simp at hd
              go_simp
            apply walkK_norm
            · first | (simp only [List.nil_append, List.cons_append]; rfl) | simp only [List.nil_append, List.cons_append]
            refine walkK_skip (st1 rfl rfl (by simp)) ?_
            apply walkK_norm
            · first | (simp only [List.nil_append, List.cons_append]; rfl) | simp only [List.nil_append, List.cons_append]
            refine walkK_skip (st1 rfl rfl (by simp)) ?_
            apply walkK_norm
            · first | (simp only [List.nil_append, List.cons_append]; rfl) | simp only [List.nil_append, List.cons_append]
            refine walkK_skip (st1 rfl rfl (by simp)) ?_
            apply walkK_norm
            · first | (simp only [List.nil_append, List.cons_append]; rfl) | simp only [List.nil_append, List.cons_append]
            refine walkK_skip (st1 rfl rfl (by simp)) ?_
            apply walkK_norm
            · first | (simp only [List.nil_append, List.cons_append]; rfl) | simp only [List.nil_append, List.cons_append]
            refine walkK_skip (st1 rfl rfl (by simp)) ?_
            apply walkK_norm
            · first | (simp only [List.nil_append, List.cons_append]; rfl) | simp only [List.nil_append, List.cons_append]
            refine walkK_skip (st1 rfl rfl (by simp)) ?_
            apply walkK_norm
            · first | (simp only [List.nil_append, List.cons_append]; rfl) | simp only [List.nil_append, List.cons_append]
            refine walkK_skip (st1 rfl rfl (by simp)) ?_
            apply walkK_norm
            · first | (simp only [List.nil_append, List.cons_append]; rfl) | simp only [List.nil_append, List.cons_append]
            refine walkK_skip (st1 rfl rfl (by simp)) ?_
            apply walkK_norm
            · first | (simp only [List.nil_append, List.cons_append]; rfl) | simp only [List.nil_append, List.cons_append]
            intro u X hX hsay
            simp only [sayAll, isV] at hsay
            obtain ⟨-, -, -, -, -, -, -, s7, -, -, -, -, -, -, -, s15, -⟩ := hsay
            obtain ⟨k0, k1, k2, k3, k4, -⟩ := (HC.out.below hX).cmd
            have kl := (HC.out.below hX).lt
            obtain ⟨y0, y1, y2, yl⟩ := hcl.out X hX
            simp only [putAll, Act.put]
            go_wp2
            go_ret
            exact ⟨rfl, bnext HB.out hX⟩
        · obtain rfl : k = nc := by omega
          have hops := hall.out HO.out
          have hz2 : z = if 8 < emitsN c.code then 4 else match depthsN c.code with | .ok _ => 0 | .error e => e := by rw [hzc.out, checkZ, if_neg (by simpa using hops)]
          have hel := hem.out k
          rw [het.out] at hel ⊢
          obtain ⟨E, hE⟩ : ∃ E, E = emitsN c.code := ⟨_, rfl⟩
          rw [← hE] at hz2 hel ⊢
          clear hE hops hlt
          by_cases h8 : 8 < E
          · rw [if_pos h8] at hz2
            have h8' : (8 : Int) < (E : Int) := by omega
            subst hz2
            go_wp2
            go_ret
            exact ⟨rfl, HB.out⟩
          · rw [if_neg h8] at hz2
            have h8' : ¬ (8 : Int) < (E : Int) := by omega
            cases hd : depthsN c.code with
            | ok d =>
              rw [hd] at hz2 pd
              have pd' : Hid (∀ W, Below w.heap.size w W → Calls Try.prog 49 #[.slice ca k cc] W fun e w' => ∃ g, W.heap.size ≤ g ∧ e = .returned (.tuple #[.slice (some ⟨g, 0, none⟩) k k, .int .i64 0]) ∧ Bk w' g 3 (dV d) ∧ Below W.heap.size W w') := pd
              subst hz2
              clear pd hd
              go_wp2_with (go_at_call 49; go_must ((with_reducible refine (pd'.out _ HB.out).mono ?_); rintro e w5 ⟨g, -, rfl, -, hb5⟩; have B5 := Lib.hid (bnext HB.out hb5); clear hb5))
              go_ret
              exact ⟨rfl, B5.out⟩
            | error er =>
              rw [hd] at hz2 pd
              have pd' : Hid (∀ W, Below w.heap.size w W → Calls Try.prog 49 #[.slice ca k cc] W fun e w' => e = .returned (.tuple #[.slice none 0 0, .int .i64 (er : Nat)]) ∧ Below W.heap.size W w') := pd
              simp only at hz2
              subst hz2
              clear pd hd
              go_wp2_with (go_at_call 49; go_must ((with_reducible refine (pd'.out _ HB.out).mono ?_); rintro e w5 ⟨rfl, hb5⟩; have B5 := Lib.hid (bnext HB.out hb5); clear hb5))
              go_ret
              exact ⟨rfl, B5.out⟩

theorem rcheck_any (w : World) (h : CmIn w c ra nr rc wa nw wc aa na ac ca nc cc) :
    Calls Try.prog 28 #[cmV ra nr rc wa nw wc aa na ac c.fuel ca nc cc] w fun e w' => e = .returned (.int .i64 ((checkN c : Nat))) ∧ Below w.heap.size w w' := by
  by_cases hf : fewN c
  · by_cases hs : risesN c.reads 0 ∧ risesN c.writes 0
    · exact rcheck_main c ra nr rc wa nw wc aa na ac ca nc cc w h hf hs.1 hs.2
    · rw [checkN, if_neg (by simpa using hf), if_pos (fun q => hs ⟨q.1, q.2.1⟩)]
      exact rcheck_rises c ra nr rc wa nw wc aa na ac ca nc cc w h hf hs
  · rw [checkN, if_pos hf]
    exact rcheck_few c ra nr rc wa nw wc aa na ac ca nc cc w h hf

end
end Go.Proofs.Ytldljohholgmoaa
