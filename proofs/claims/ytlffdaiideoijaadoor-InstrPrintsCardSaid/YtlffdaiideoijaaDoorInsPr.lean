/-
  InstrPrints, walked: true for every list of instructions, in whatever memory that has the kinds' table.
-/
import Derived.Test.YtlffdaiideoijaaDoorInsSz
namespace Go.Proofs.YtlffdaiideoijaaDoor
open Go.RowKit

set_option maxHeartbeats 8000000 in
theorem instrPrints_walk (l : List Ins) (A : Option Addr) (c : Nat) (w : World) (h : Inss w A c l) (hz : l.length ≤ 9223372036854775807) (hT : HasKinds w) :
    Calls Tryd.prog 3 #[.slice A l.length c] w fun e w' => e = .returned (.bool true) ∧ Below w.heap.size w w' := by
  have haw : Hid (∀ W, HasKinds W → Calls Tryd.prog 7 #[] W fun e w' => e = .returned (.bool true) ∧ Below W.heap.size W w') := Lib.hid (fun W h1 => awake6 W h1)
  have hT' := Lib.hid hT
  by_cases h100 : l.length ≤ 100
  · have d0 : ¬ (100 : Int) < (l.length : Int) := by omega
    have hc := h.2.1
    have h' := Lib.hid h
    have hall : Hid ((∀ j, j < l.length → rightN (insAt l j)) → ∀ x ∈ l, rightN x) := Lib.hid (fun h => insAt_all h)
    obtain ⟨N, hN⟩ : ∃ N, N = l.length := ⟨_, rfl⟩
    have hN' := Lib.hid hN
    rw [← hN] at d0 hc hall h100 ⊢
    clear h hT hz hN
    go_enter Tryd.func3, Tryd.ntmps3
    go_wp2
    go_loopw [3] (fun cc wr => ∃ i : Nat, i ≤ N ∧ cc = .int .i64 i ∧ Below w.heap.size w wr ∧ Hid (∀ j, j < i → rightN (insAt l j))) (fun cc _ => N - (intOf cc).toNat)
    case atStart => exact ⟨0, Nat.zero_le _, rfl, Below.refl _ _, Lib.hid (fun j h => by omega)⟩
    case round =>
      obtain ⟨i, hi, rfl, hb, HR⟩ := hrel
      by_cases hlt : i < N
      · have d1 : (i : Int) < (N : Int) := by omega
        have d2 : (i : Int) < (c : Int) := by omega
        obtain ⟨b, off, rfl, hbl, x0, x1, x2⟩ := (h'.out.below hb).cellAt (j := i) (by rw [← hN'.out]; exact hlt)
        have hcell : Hid (∀ W, Below wr.heap.size wr W → W.cell? ⟨b, off + i * 3, none⟩ = some (.int .i64 (insAt l i).op) ∧ W.cell? ⟨b, off + i * 3 + 1, none⟩ = some (.int .i64 (insAt l i).a) ∧ W.cell? ⟨b, off + i * 3 + 2, none⟩ = some (.int .i64 (insAt l i).b)) :=
          Lib.hid (fun W hW => ⟨(bcells hW _ _ hbl).trans x0, (bcells hW _ _ hbl).trans x1, (bcells hW _ _ hbl).trans x2⟩)
        cases hr : decide (rightN (insAt l i)) with
        | true =>
          have hri := Lib.hid (right_any (insAt l i) true hr wr (hT'.out.belowS hb))
          have hrr : Hid (∀ W : World, _) := Lib.hid (fun W => rright_any (insAt l i) true hr W)
          have HR2 : Hid (∀ j, j < i + 1 → rightN (insAt l j)) := Lib.hid (fun j hj => by
            rcases Nat.lt_or_eq_of_le (Nat.le_of_lt_succ hj) with q | q
            · exact HR.out j q
            · subst q; simpa using hr)
          generalize insAt l i = x at *
          clear hr
          go_wp2_with (first
            | (go_at_call 8; go_must ((with_reducible refine hri.out.mono ?_); rintro e w1 ⟨rfl, hb1⟩; obtain ⟨y0, y1, y2⟩ := hcell.out w1 hb1; have hbl1 := Nat.lt_of_lt_of_le hbl hb1.size))
            | (go_at_call 9; go_must ((with_reducible refine (hrr.out _).mono ?_); rintro e w2 ⟨rfl, hb2⟩)))
          go_roundw
          case rel => exact ⟨i + 1, by omega, by go_num, bnext (bnext hb hb1) hb2, HR2⟩
          case measure => simp [intOf]; omega
        | false =>
          have hri := Lib.hid (right_any (insAt l i) false hr wr (hT'.out.belowS hb))
          have hrr : Hid (∀ W : World, _) := Lib.hid (fun W => rright_any (insAt l i) false hr W)
          generalize insAt l i = x at *
          clear hr
          go_wp2_with (first
            | (go_at_call 8; go_must ((with_reducible refine hri.out.mono ?_); rintro e w1 ⟨rfl, hb1⟩; obtain ⟨y0, y1, y2⟩ := hcell.out w1 hb1; have hbl1 := Nat.lt_of_lt_of_le hbl hb1.size))
            | (go_at_call 9; go_must ((with_reducible refine (hrr.out _).mono ?_); rintro e w2 ⟨rfl, hb2⟩; have B2 := Lib.hid (bnext (bnext hb hb1) hb2)))
            | (go_at_call 7; go_must ((with_reducible refine (haw.out w2 (hT'.out.belowS B2.out)).mono ?_); rintro e w3 ⟨rfl, hb3⟩)))
          go_ret
          exact ⟨rfl, bnext B2.out hb3⟩
      · obtain rfl : i = N := by omega
        have d1 : ¬ (i : Int) < (i : Int) := by omega
        have hright := hall.out HR.out
        have hpr := Lib.hid (fun W hW hK => print_any l hright A c W hW (by rw [← hN'.out]; omega) hK)
        have hrp := Lib.hid (fun W hW => rprint_any l hright A c W hW (by rw [← hN'.out]; omega))
        rw [← hN'.out] at hpr hrp
        generalize strL (printN l) = P at *
        clear hright
        go_wp2_with (first
          | (go_at_call 7; go_must ((with_reducible refine (haw.out wr (hT'.out.belowS hb)).mono ?_); rintro e w1 ⟨rfl, hb1⟩; have B1 := Lib.hid (bnext hb hb1)))
          | (go_at_call 10; go_must ((with_reducible refine (hpr.out w1 (h'.out.below B1.out) (hT'.out.belowS B1.out)).mono ?_); rintro e w2 ⟨rfl, hb2⟩; have B2 := Lib.hid (bnext B1.out hb2)))
          | (go_at_call 11; go_must ((with_reducible refine (hrp.out w2 (h'.out.below B2.out)).mono ?_); rintro e w3 ⟨rfl, hb3⟩)))
        go_ret
        exact ⟨rfl, bnext B2.out hb3⟩
  · have d0 : (100 : Int) < (l.length : Int) := by omega
    clear h
    generalize l.length = N at *
    go_enter Tryd.func3, Tryd.ntmps3
    go_wp2_with (go_at_call 7; go_must ((with_reducible refine (haw.out w hT'.out).mono ?_); rintro e w1 ⟨rfl, hb1⟩))
    go_ret
    exact ⟨rfl, hb1⟩

end Go.Proofs.YtlffdaiideoijaaDoor
