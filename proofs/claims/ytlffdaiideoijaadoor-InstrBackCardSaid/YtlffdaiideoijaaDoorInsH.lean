/-
  awake of layer 6's laws: true, in whatever memory that has the kinds' table.
-/
import Derived.Test.YtlffdaiideoijaaDoorInsG
namespace Go.Proofs.YtlffdaiideoijaaDoor
open Go.RowKit

set_option maxRecDepth 100000 in
set_option maxHeartbeats 4000000 in
theorem awake6 (w : World) (hT : HasKinds w) : Calls Tryd.prog 7 #[] w fun e w' => e = .returned (.bool true) ∧ Below w.heap.size w w' := by
  have hk0 := hT.lt
  have hI0 := Lib.hid (inss_new icode w)
  have c1 := Lib.hid (fun W h hW => print_any icode icode_right (some ⟨w.heap.size, 0, none⟩) 2 W h (by decide) hW)
  rw [icode_printed] at c1
  have c2 := Lib.hid (fun g W hk hW hg => read_yes itext 2 ⟨0, false⟩ _ icode icode_read g W hk (by decide) hW hg (by decide))
  have c3 := Lib.hid (fun g W hk hW hg => read_no itext 3 ⟨0, false⟩ _ icode_more g W hk (by decide) hW hg (by decide))
  have c4 := Lib.hid (fun g W hk hW hg => read_no ⟨#[18]⟩ 1 ⟨0, false⟩ _ iodd g W hk (by decide) hW hg (by decide))
  have c5 := Lib.hid (fun A c B d W h1 h2 => sameI icode A c B d W h1 h2 (by decide))
  have c6 := Lib.hid (fun W hW => right_any ⟨4, 1, 2⟩ true (by decide) W hW)
  have c7 := Lib.hid (fun W hW => right_any ⟨7, 1, 0⟩ false (by decide) W hW)
  have hT' := Lib.hid hT
  have hb0 : Below w.heap.size w (w.alloc (.cells (inssW icode).toArray 26)) := (Below.refl _ _).alloc (Nat.le_refl _) _
  have B0 := Lib.hid hb0
  clear hT hb0
  unfold itext at *
  go_enter Tryd.func7, Tryd.ntmps7
  go_wp2_with (first
    | (go_at_call 10; refine (c1.out _ hI0.out (hT'.out.belowS B0.out)).mono ?_; rintro e w1 ⟨rfl, hb1⟩; have B1 := Lib.hid (bnext B0.out hb1); have I1 := Lib.hid (hI0.out.below hb1); have q1 : 0 ≠ w1.heap.size := (by have := B1.out.size; omega); clear c1)
    | (go_at_call 12; refine (c2.out w1.heap.size _ (Bk.newF w1 _ _) (hT'.out.belowS (bnext B1.out ((Below.refl _ _).alloc (Nat.le_refl _) _))) q1).mono ?_; rintro e w2 ⟨A2, p2, rfl, hi2, -, hb2⟩; have b2 := new_reader hb2; have B2 := Lib.hid (bnext B1.out b2); have I2 := Lib.hid (I1.out.below b2); have J2 := Lib.hid hi2; have q2 : 0 ≠ w2.heap.size := (by have := B2.out.size; omega); clear c2 hi2 b2)
    | (go_at_call 12; refine (c3.out w2.heap.size _ (Bk.newF w2 _ _) (hT'.out.belowS (bnext B2.out ((Below.refl _ _).alloc (Nat.le_refl _) _))) q2).mono ?_; rintro e w3 ⟨rfl, -, hb3⟩; have b3 := new_reader hb3; have B3 := Lib.hid (bnext B2.out b3); have I3 := Lib.hid (I2.out.below b3); have J3 := Lib.hid (J2.out.below b3); have q3 : 0 ≠ w3.heap.size := (by have := B3.out.size; omega); clear c3 b3)
    | (go_at_call 12; refine (c4.out w3.heap.size _ (Bk.newF w3 _ _) (hT'.out.belowS (bnext B3.out ((Below.refl _ _).alloc (Nat.le_refl _) _))) q3).mono ?_; rintro e w4 ⟨rfl, -, hb4⟩; have b4 := new_reader hb4; have B4 := Lib.hid (bnext B3.out b4); have I4 := Lib.hid (I3.out.below b4); have J4 := Lib.hid (J3.out.below b4); clear c4 b4)
    | (go_at_call 14; refine (c5.out _ 2 _ p2 w4 I4.out J4.out).mono ?_; rintro e w5 ⟨rfl, hb5⟩; have B5 := Lib.hid (bnext B4.out hb5); have I5 := Lib.hid (I4.out.below hb5); obtain ⟨b, off, hA5, hbl, x0, x1, x2⟩ := I5.out.cellAt (j := 0) (by decide); injection hA5 with hA5; injection hA5 with hA5 hA6; subst hA5; subst hA6; simp only [icode, insAt, List.getElem?_cons_zero, Option.getD_some, Nat.zero_mul, Nat.add_zero] at x0 x1 x2; clear c5)
    | (go_at_call 8; refine (c6.out w5 (hT'.out.belowS B5.out)).mono ?_; rintro e w6 ⟨rfl, hb6⟩; have B6 := Lib.hid (bnext B5.out hb6); clear c6)
    | (go_at_call 8; refine (c7.out w6 (hT'.out.belowS B6.out)).mono ?_; rintro e w7 ⟨rfl, hb7⟩; have B7 := Lib.hid (bnext B6.out hb7)))
  go_ret
  exact ⟨rfl, B7.out⟩

end Go.Proofs.YtlffdaiideoijaaDoor
