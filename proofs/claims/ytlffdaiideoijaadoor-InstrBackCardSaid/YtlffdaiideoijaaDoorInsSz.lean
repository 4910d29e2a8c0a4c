/-
  InstrSizes, walked: true for every list of instructions, in whatever memory that has the kinds' table.
-/
import Derived.Test.YtlffdaiideoijaaDoorInsH
namespace Go.Proofs.YtlffdaiideoijaaDoor
open Go.RowKit

theorem insAt_all {l : List Ins} {P : Ins → Prop} (h : ∀ j, j < l.length → P (insAt l j)) : ∀ x ∈ l, P x := by
  intro x hx
  obtain ⟨j, hj, rfl⟩ := List.mem_iff_getElem.1 hx
  have := h j hj
  rwa [insAt, List.getElem?_eq_getElem hj] at this

set_option maxHeartbeats 8000000 in
theorem instrSizes_walk (l : List Ins) (A : Option Addr) (c : Nat) (w : World) (h : Inss w A c l) (hz : l.length ≤ 9223372036854775807) (hT : HasKinds w) :
    Calls Tryd.prog 6 #[.slice A l.length c] w fun e w' => e = .returned (.bool true) ∧ Below w.heap.size w w' := by
  have haw : Hid (∀ W, HasKinds W → Calls Tryd.prog 7 #[] W fun e w' => e = .returned (.bool true) ∧ Below W.heap.size W w') := Lib.hid (fun W h1 => awake6 W h1)
  have hT' := Lib.hid hT
  by_cases h100 : l.length ≤ 100
  · have d0 : ¬ (100 : Int) < (l.length : Int) := by omega
    have hc := h.2.1
    have h' := Lib.hid h
    have hst : Hid (∀ i, i < l.length → (printN (l.take (i + 1))).length = (printN (l.take i)).length + (1 + 8 * takesN (insAt l i).op)) := Lib.hid (fun i hi => by rw [printN_snoc l i hi, List.length_append, insB_length])
    have hle : Hid (∀ i, (printN (l.take i)).length ≤ 17 * l.length) := Lib.hid (fun i => printN_take_le l i)
    have hall : Hid ((∀ j, j < l.length → rightN (insAt l j)) → ∀ x ∈ l, rightN x) := Lib.hid (fun h => insAt_all h)
    have hfull : Hid (l.take l.length = l) := Lib.hid List.take_length
    obtain ⟨N, hN⟩ : ∃ N, N = l.length := ⟨_, rfl⟩
    have hN' := Lib.hid hN
    rw [← hN] at d0 hc hst hle hall hfull h100 ⊢
    clear h hT hz hN
    go_enter Tryd.func6, Tryd.ntmps6
    go_wp2
    go_loopw [3, 4] (fun nn cc wr => ∃ i : Nat, i ≤ N ∧ cc = .int .i64 i ∧ nn = .int .i64 ((printN (l.take i)).length : Nat) ∧ Below w.heap.size w wr ∧ Hid (∀ j, j < i → rightN (insAt l j))) (fun _ cc _ => N - (intOf cc).toNat)
    case atStart => exact ⟨0, Nat.zero_le _, rfl, by simp [printN], Below.refl _ _, Lib.hid (fun j h => by omega)⟩
    case round =>
      obtain ⟨i, hi, rfl, rfl, hb, HR⟩ := hrel
      by_cases hlt : i < N
      · have d1 : (i : Int) < (N : Int) := by omega
        have d2 : (i : Int) < (c : Int) := by omega
        obtain ⟨b, off, rfl, hbl, x0, x1, x2⟩ := (h'.out.below hb).cellAt (j := i) (by rw [← hN'.out]; exact hlt)
        have hs1 := hst.out i hlt
        have hl1 := hle.out i
        have htk : Hid (∀ W : World, _) := Lib.hid (fun W => rtakes_any (insAt l i).op W)
        have ht3 := takes_two (insAt l i).op
        by_cases hr : rightN (insAt l i)
        · have hri := Lib.hid (right_any (insAt l i) true (decide_eq_true hr) wr (hT'.out.belowS hb))
          have HR2 : Hid (∀ j, j < i + 1 → rightN (insAt l j)) := Lib.hid (fun j hj => by
            rcases Nat.lt_or_eq_of_le (Nat.le_of_lt_succ hj) with q | q
            · exact HR.out j q
            · subst q; exact hr)
          have hcell : Hid (∀ W, Below wr.heap.size wr W → W.cell? ⟨b, off + i * 3, none⟩ = some (.int .i64 (insAt l i).op)) := Lib.hid (fun W hW => (bcells hW _ _ hbl).trans x0)
          have hs1' := Lib.hid hs1
          generalize takesN (insAt l i).op = tk at *
          generalize insAt l i = x at *
          generalize (printN (l.take i)).length = S at *
          clear hr hs1
          go_wp2_with (first
            | (go_at_call 8; go_must ((with_reducible refine hri.out.mono ?_); rintro e w1 ⟨rfl, hb1⟩; have y0 := hcell.out w1 hb1; have hbl1 := Nat.lt_of_lt_of_le hbl hb1.size))
            | (go_at_call 15; go_must ((with_reducible refine (htk.out _).mono ?_); rintro e w2 ⟨rfl, rfl⟩)))
          go_roundw
          case rel => exact ⟨i + 1, by omega, by go_num, by rw [hs1'.out]; congr 1; omega, bnext hb hb1, HR2⟩
          case measure => simp [intOf]; omega
        · have hri := Lib.hid (right_any (insAt l i) false (decide_eq_false hr) wr (hT'.out.belowS hb))
          generalize insAt l i = x at *
          clear hr hs1
          go_wp2_with (first
            | (go_at_call 8; go_must ((with_reducible refine hri.out.mono ?_); rintro e w1 ⟨rfl, hb1⟩; have B1 := Lib.hid (bnext hb hb1)))
            | (go_at_call 7; go_must ((with_reducible refine (haw.out w1 (hT'.out.belowS B1.out)).mono ?_); rintro e w2 ⟨rfl, hb2⟩)))
          go_ret
          exact ⟨rfl, bnext B1.out hb2⟩
      · obtain rfl : i = N := by omega
        have d1 : ¬ (i : Int) < (i : Int) := by omega
        have hright := hall.out HR.out
        have hpr := Lib.hid (fun W hW hK => print_any l hright A c W hW (by rw [← hN'.out]; omega) hK)
        have hsz : Hid ((strL (printN l)).size = (printN (l.take i)).length) := Lib.hid (by rw [strL_size, hfull.out])
        rw [← hN'.out] at hpr
        have hle1 := hle.out i
        generalize (printN (l.take i)).length = S at *
        generalize strL (printN l) = P at *
        have hsz' := hsz.out
        clear hright
        go_wp2_with (first
          | (go_at_call 7; go_must ((with_reducible refine (haw.out wr (hT'.out.belowS hb)).mono ?_); rintro e w1 ⟨rfl, hb1⟩; have B1 := Lib.hid (bnext hb hb1)))
          | (go_at_call 10; go_must ((with_reducible refine (hpr.out w1 (h'.out.below B1.out) (hT'.out.belowS B1.out)).mono ?_); rintro e w2 ⟨rfl, hb2⟩)))
        go_ret
        exact ⟨rfl, bnext B1.out hb2⟩
  · have d0 : (100 : Int) < (l.length : Int) := by omega
    clear h
    generalize l.length = N at *
    go_enter Tryd.func6, Tryd.ntmps6
    go_wp2_with (go_at_call 7; go_must ((with_reducible refine (haw.out w hT'.out).mono ?_); rintro e w1 ⟨rfl, hb1⟩))
    go_ret
    exact ⟨rfl, hb1⟩

end Go.Proofs.YtlffdaiideoijaaDoor
