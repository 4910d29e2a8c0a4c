/-
  AsmTells, walked: true for every list of instructions, in whatever memory that has the tables.
-/
import Derived.Test.YtjbhhlhaikmecaaDoorAsmTs
import Derived.Test.YtjbhhlhaikmecaaDoorAsmX
namespace Go.Proofs.YtjbhhlhaikmecaaDoor
open Go.RowKit

set_option maxRecDepth 100000 in
set_option maxHeartbeats 8000000 in
theorem asmTells_walk (l : List Ins) (A : Option Addr) (c : Nat) (w : World) (h : Inss w A c l) (hz : l.length ≤ 9223372036854775807) (hT : HasKinds w) (hP : HasPow w) :
    Calls Tryd.prog 4 #[.slice A l.length c] w fun e w' => e = .returned (.bool true) ∧ Below w.heap.size w w' := by
  have haw : Hid (∀ W, HasKinds W → HasPow W → Calls Tryd.prog 8 #[] W fun e w' => e = .returned (.bool true) ∧ Below W.heap.size W w') := Lib.hid (fun W h1 h2 => awake5 W h1 h2)
  have hts := Lib.hid (tells_any l A c w h hz)
  have c2 : Hid (∀ W, tellable l → Inss W A c l → HasKinds W → HasPow W → _) := Lib.hid (fun W ht h1 h2 h3 => tell_any l ht A c W h1 h2 h3)
  have c3 : Hid (∀ W, tellable l → HasKinds W → _) := Lib.hid (fun W ht hW => build_yes (strL (tellN l)) l W (tell_back ht) hW)
  have c4 : Hid (∀ W, tellable l → Inss W A c l → _) := Lib.hid (fun W ht h1 => rtell_any l ht A c W h1)
  have h' := Lib.hid h
  have hT' := Lib.hid hT
  have hP' := Lib.hid hP
  obtain ⟨N, hN⟩ : ∃ N, N = l.length := ⟨_, rfl⟩
  have hN' := Lib.hid hN
  generalize strL (tellN l) = S at *
  rw [← hN] at hts c2 c3 c4 ⊢
  clear h hz hT hP hN
  go_enter Tryd.func4, Tryd.ntmps4
  go_wp2_with (go_at_call 18; go_must ((with_reducible refine hts.out.mono ?_); rintro e w1 ⟨b, rfl, ht0, hb1⟩; have ht' := Lib.hid ht0; clear ht0; cases b))
  · go_wp2_with (go_at_call 8; go_must ((with_reducible refine (haw.out w1 (hT'.out.belowS hb1) (hP'.out.belowS hb1)).mono ?_); rintro e w2 ⟨rfl, hb2⟩))
    go_ret
    exact ⟨rfl, bnext hb1 hb2⟩
  · have ht := Lib.hid (ht'.out (by simp))
    have I1 := Lib.hid (h'.out.below hb1)
    have hN64 : N ≤ 64 := by rw [hN'.out]; exact ht.out.len
    go_wp2_with (first
      | (go_at_call 19; go_must ((with_reducible refine (c2.out w1 ht.out I1.out (hT'.out.belowS hb1) (hP'.out.belowS hb1)).mono ?_); rintro e w2 ⟨rfl, hb2⟩; have B2 := Lib.hid (bnext hb1 hb2); have I2 := Lib.hid (I1.out.below hb2)))
      | (go_at_call 9; go_must ((with_reducible refine (c3.out w2 ht.out (hT'.out.belowS B2.out)).mono ?_); rintro e w3 ⟨A3, p3, rfl, hi3, hb3⟩; have B3 := Lib.hid (bnext B2.out hb3); have I3 := Lib.hid (I2.out.below hb3); have J3 := Lib.hid hi3; clear hi3))
      | (go_at_call 8; go_must ((with_reducible refine (haw.out w3 (hT'.out.belowS B3.out) (hP'.out.belowS B3.out)).mono ?_); rintro e w4 ⟨rfl, hb4⟩; have B4 := Lib.hid (bnext B3.out hb4); have I4 := Lib.hid (I3.out.below hb4); have J4 := Lib.hid (J3.out.below hb4)))
      | (go_at_call 20; go_must ((with_reducible refine (c4.out w4 ht.out I4.out).mono ?_); rintro e w5 ⟨rfl, hb5⟩; have B5 := Lib.hid (bnext B4.out hb5); have I5 := Lib.hid (I4.out.below hb5); have J5 := Lib.hid (J4.out.below hb5)))
      | (go_at_call 11; go_must ((with_reducible refine (sameL l N hN'.out.symm A c A3 p3 w5 I5.out J5.out (by omega)).mono ?_); rintro e w6 ⟨rfl, hb6⟩)))
    go_ret
    exact ⟨rfl, bnext B5.out hb6⟩

end Go.Proofs.YtjbhhlhaikmecaaDoor
