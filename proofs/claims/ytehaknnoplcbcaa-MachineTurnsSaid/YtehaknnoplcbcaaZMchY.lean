/-
  awake of layer 10's laws: true, in whatever memory.
-/
import Derived.Test.YtehaknnoplcbcaaZMchX
namespace Go.Proofs.Ytehaknnoplcbcaa
open Go.RowKit

abbrev aW (w : World) : World := ((((w.alloc (.cells #[.int .i64 0] 3)).alloc (.cells #[.int .i64 7] 3)).alloc (.cells #[.int .i64 6, .int .i64 0, .int .i64 0, .int .i64 5, .int .i64 0, .int .i64 1, .int .i64 17, .int .i64 0, .int .i64 0] 43)).alloc (.cells #[.slice none 0 0, .slice (some ⟨w.heap.size, 0, none⟩) 1 1, .slice (some ⟨w.heap.size + 1, 0, none⟩) 1 1, .int .i64 3, .slice (some ⟨w.heap.size + 1 + 1, 0, none⟩) 3 3] 25)).alloc (.cells #[.int .i64 0, .int .i64 0, .int .i64 0, .int .i64 0, .int .i64 0, .int .i64 0, .int .i64 0, .int .i64 0] 40)

theorem aW_in (w : World) : CmIn (aW w) cmdA none 0 0 (some ⟨w.heap.size, 0, none⟩) 1 1 (some ⟨w.heap.size + 1, 0, none⟩) 1 1 (some ⟨w.heap.size + 1 + 1, 0, none⟩) 3 3 ∧ Bk (aW w) (w.heap.size + 1 + 1 + 1) 25 #[.slice none 0 0, .slice (some ⟨w.heap.size, 0, none⟩) 1 1, .slice (some ⟨w.heap.size + 1, 0, none⟩) 1 1, .int .i64 3, .slice (some ⟨w.heap.size + 1 + 1, 0, none⟩) 3 3] ∧ Sl (aW w) 8 (some ⟨w.heap.size + 1 + 1 + 1 + 1, 0, none⟩) 1 1 (blksW [z8]) ∧ Below w.heap.size w (aW w) := by
  have b1 := below_alloc1 w (.cells #[.int .i64 0] 3)
  have b2 := below_alloc1 (w.alloc (.cells #[.int .i64 0] 3)) (.cells #[.int .i64 7] 3)
  have b3 := below_alloc1 ((w.alloc (.cells #[.int .i64 0] 3)).alloc (.cells #[.int .i64 7] 3)) (.cells #[.int .i64 6, .int .i64 0, .int .i64 0, .int .i64 5, .int .i64 0, .int .i64 1, .int .i64 17, .int .i64 0, .int .i64 0] 43)
  have b4 := below_alloc1 (((w.alloc (.cells #[.int .i64 0] 3)).alloc (.cells #[.int .i64 7] 3)).alloc (.cells #[.int .i64 6, .int .i64 0, .int .i64 0, .int .i64 5, .int .i64 0, .int .i64 1, .int .i64 17, .int .i64 0, .int .i64 0] 43)) (.cells #[.slice none 0 0, .slice (some ⟨w.heap.size, 0, none⟩) 1 1, .slice (some ⟨w.heap.size + 1, 0, none⟩) 1 1, .int .i64 3, .slice (some ⟨w.heap.size + 1 + 1, 0, none⟩) 3 3] 25)
  have b5 := below_alloc1 ((((w.alloc (.cells #[.int .i64 0] 3)).alloc (.cells #[.int .i64 7] 3)).alloc (.cells #[.int .i64 6, .int .i64 0, .int .i64 0, .int .i64 5, .int .i64 0, .int .i64 1, .int .i64 17, .int .i64 0, .int .i64 0] 43)).alloc (.cells #[.slice none 0 0, .slice (some ⟨w.heap.size, 0, none⟩) 1 1, .slice (some ⟨w.heap.size + 1, 0, none⟩) 1 1, .int .i64 3, .slice (some ⟨w.heap.size + 1 + 1, 0, none⟩) 3 3] 25)) (.cells #[.int .i64 0, .int .i64 0, .int .i64 0, .int .i64 0, .int .i64 0, .int .i64 0, .int .i64 0, .int .i64 0] 40)
  have k1 := ints_new [0] w
  have k2 := ints_new [7] (w.alloc (.cells #[.int .i64 0] 3))
  have k3 := inss_new codeA ((w.alloc (.cells #[.int .i64 0] 3)).alloc (.cells #[.int .i64 7] 3))
  have k4 := Bk.new (((w.alloc (.cells #[.int .i64 0] 3)).alloc (.cells #[.int .i64 7] 3)).alloc (.cells #[.int .i64 6, .int .i64 0, .int .i64 0, .int .i64 5, .int .i64 0, .int .i64 1, .int .i64 17, .int .i64 0, .int .i64 0] 43)) 25 #[.slice none 0 0, .slice (some ⟨w.heap.size, 0, none⟩) 1 1, .slice (some ⟨w.heap.size + 1, 0, none⟩) 1 1, .int .i64 3, .slice (some ⟨w.heap.size + 1 + 1, 0, none⟩) 3 3]
  have k5 := Bk.new ((((w.alloc (.cells #[.int .i64 0] 3)).alloc (.cells #[.int .i64 7] 3)).alloc (.cells #[.int .i64 6, .int .i64 0, .int .i64 0, .int .i64 5, .int .i64 0, .int .i64 1, .int .i64 17, .int .i64 0, .int .i64 0] 43)).alloc (.cells #[.slice none 0 0, .slice (some ⟨w.heap.size, 0, none⟩) 1 1, .slice (some ⟨w.heap.size + 1, 0, none⟩) 1 1, .int .i64 3, .slice (some ⟨w.heap.size + 1 + 1, 0, none⟩) 3 3] 25)) 40 #[.int .i64 0, .int .i64 0, .int .i64 0, .int .i64 0, .int .i64 0, .int .i64 0, .int .i64 0, .int .i64 0]
  rw [World.size_alloc] at k2
  rw [World.size_alloc, World.size_alloc] at k3
  rw [World.size_alloc, World.size_alloc, World.size_alloc] at k4
  rw [World.size_alloc, World.size_alloc, World.size_alloc, World.size_alloc] at k5
  refine ⟨⟨rfl, rfl, rfl, rfl, ⟨rfl, Nat.le_refl _, fun _ => ⟨rfl, rfl⟩, fun h => absurd h (by simp [cmdA])⟩, Ints.below k1 (bnext (bnext (bnext b2 b3) b4) b5), Ints.below k2 (bnext (bnext b3 b4) b5), Inss.below k3 (bnext b4 b5), by decide, by decide, by decide, by decide⟩, k4.below b5, ⟨rfl, Nat.le_refl _, fun h => (by cases h), fun _ => ⟨_, _, rfl, k5.lt, fun j hj => ?_⟩⟩, bnext (bnext (bnext (bnext b1 b2) b3) b4) b5⟩
  rw [k5.cell]
  rcases (show j = 0 ∨ j = 1 ∨ j = 2 ∨ j = 3 ∨ j = 4 ∨ j = 5 ∨ j = 6 ∨ j = 7 by omega) with rfl | rfl | rfl | rfl | rfl | rfl | rfl | rfl <;> rfl

abbrev zC (q : Nat) : Array Value := #[.slice none 0 0, .slice none 0 0, .slice none 0 0, .int .i64 5, .slice (some ⟨q, 0, none⟩) 5 5]
abbrev zW (X : World) (q : Nat) : World := (X.alloc (.cells #[.int .i64 1, .int .i64 1, .int .i64 0, .int .i64 1, .int .i64 0, .int .i64 0, .int .i64 10, .int .i64 0, .int .i64 0, .int .i64 15, .int .i64 0, .int .i64 0, .int .i64 17, .int .i64 0, .int .i64 0] 43)).alloc (.cells (zC q) 25)
theorem zW_in (X : World) (q : Nat) (hq : X.heap.size = q) : CmIn (zW X q) cmdZ none 0 0 none 0 0 none 0 0 (some ⟨q, 0, none⟩) 5 5 ∧ Bk (zW X q) (q + 1) 25 (zC q) ∧ Below X.heap.size X (zW X q) := by
  subst hq
  have k1 := inss_new codeZ X
  have k2 := Bk.new (X.alloc (.cells #[.int .i64 1, .int .i64 1, .int .i64 0, .int .i64 1, .int .i64 0, .int .i64 0, .int .i64 10, .int .i64 0, .int .i64 0, .int .i64 15, .int .i64 0, .int .i64 0, .int .i64 17, .int .i64 0, .int .i64 0] 43)) 25 (zC X.heap.size)
  rw [World.size_alloc] at k2
  have nil : ∀ W : World, Ints W none 0 [] := fun W => ⟨rfl, Nat.le_refl _, fun _ => ⟨rfl, rfl⟩, fun h => absurd h (by simp)⟩
  exact ⟨⟨rfl, rfl, rfl, rfl, nil _, nil _, nil _, Inss.below k1 (below_alloc1 _ _), by decide, by decide, by decide, by decide⟩, k2, bnext (below_alloc1 _ _) (below_alloc1 _ _)⟩

/-- the second example's machine in block G, behind so many steps. -/
def MZ (G k : Nat) (w : World) : Prop := ∃ sA sn sc oA on oc, Bk w G 32 (mA (stepsM cmdZ k (newM cmdZ, [])).1 sA sn sc oA on oc) ∧ MIn w (stepsM cmdZ k (newM cmdZ, [])).1.stack (stepsM cmdZ k (newM cmdZ, [])).1.out [] sA sn sc oA on oc none 0 0 ∧ off3 G sA sn oA on none 0

/-- a variable more: a machine. -/
theorem var_below (w : World) (cs : Array Value) : Below w.heap.size w ((w.alloc (.cells mZ 32)).setRow w.heap.size cs) := below_row (below_alloc1 _ _) (Nat.le_refl _) _
theorem var_bk (w : World) (cs : Array Value) : Bk ((w.alloc (.cells mZ 32)).setRow w.heap.size cs) w.heap.size 32 cs := Bk.setRow (Bk.new _ _ _) _

theorem stpA0 (w : World) (W : World) (sA : Option Addr) (sn sc : Nat) (oA : Option Addr) (on oc : Nat) (bA : Option Addr) (bn bc : Nat) (hC : CmIn W cmdA none 0 0 (some ⟨w.heap.size, 0, none⟩) 1 1 (some ⟨w.heap.size + 1, 0, none⟩) 1 1 (some ⟨w.heap.size + 1 + 1, 0, none⟩) 3 3) (hM : MIn W [] [] [z8] sA sn sc oA on oc bA bn bc) :
    Calls Try.prog 13 #[.agg #[.slice none 0 0, .slice (some ⟨w.heap.size, 0, none⟩) 1 1, .slice (some ⟨w.heap.size + 1, 0, none⟩) 1 1, .int .i64 3, .slice (some ⟨w.heap.size + 1 + 1, 0, none⟩) 3 3], .agg (mC 0 3 (.slice sA sn sc) 0 0 0 0 (.slice oA on oc) false 0), .slice bA bn bc] W (SPost 1 2 [7] 0 0 0 0 [] false 0 [z8] W) := by
  have h := step_any none 0 0 (some ⟨w.heap.size, 0, none⟩) 1 1 (some ⟨w.heap.size + 1, 0, none⟩) 1 1 (some ⟨w.heap.size + 1 + 1, 0, none⟩) 3 3 sA sn sc oA on oc bA bn bc cmdA ⟨0, 3, [], [0, 0, 0, 0], [], false, 0⟩ [z8] W fitA0 hC hM
  rw [stA0] at h
  exact h

theorem stpA1 (w : World) (W : World) (sA : Option Addr) (sn sc : Nat) (oA : Option Addr) (on oc : Nat) (bA : Option Addr) (bn bc : Nat) (hC : CmIn W cmdA none 0 0 (some ⟨w.heap.size, 0, none⟩) 1 1 (some ⟨w.heap.size + 1, 0, none⟩) 1 1 (some ⟨w.heap.size + 1 + 1, 0, none⟩) 3 3) (hM : MIn W [7] [] [z8] sA sn sc oA on oc bA bn bc) :
    Calls Try.prog 13 #[.agg #[.slice none 0 0, .slice (some ⟨w.heap.size, 0, none⟩) 1 1, .slice (some ⟨w.heap.size + 1, 0, none⟩) 1 1, .int .i64 3, .slice (some ⟨w.heap.size + 1 + 1, 0, none⟩) 3 3], .agg (mC 1 2 (.slice sA sn sc) 0 0 0 0 (.slice oA on oc) false 0), .slice bA bn bc] W (SPost 2 1 [] 0 0 0 0 [] false 0 [[0, 7, 0, 0, 0, 0, 0, 0]] W) := by
  have h := step_any none 0 0 (some ⟨w.heap.size, 0, none⟩) 1 1 (some ⟨w.heap.size + 1, 0, none⟩) 1 1 (some ⟨w.heap.size + 1 + 1, 0, none⟩) 3 3 sA sn sc oA on oc bA bn bc cmdA ⟨1, 2, [7], [0, 0, 0, 0], [], false, 0⟩ [z8] W fitA1 hC hM
  rw [stA1] at h
  exact h

theorem stpA2 (w : World) (W : World) (sA : Option Addr) (sn sc : Nat) (oA : Option Addr) (on oc : Nat) (bA : Option Addr) (bn bc : Nat) (hC : CmIn W cmdA none 0 0 (some ⟨w.heap.size, 0, none⟩) 1 1 (some ⟨w.heap.size + 1, 0, none⟩) 1 1 (some ⟨w.heap.size + 1 + 1, 0, none⟩) 3 3) (hM : MIn W [] [] [[0, 7, 0, 0, 0, 0, 0, 0]] sA sn sc oA on oc bA bn bc) :
    Calls Try.prog 13 #[.agg #[.slice none 0 0, .slice (some ⟨w.heap.size, 0, none⟩) 1 1, .slice (some ⟨w.heap.size + 1, 0, none⟩) 1 1, .int .i64 3, .slice (some ⟨w.heap.size + 1 + 1, 0, none⟩) 3 3], .agg (mC 2 1 (.slice sA sn sc) 0 0 0 0 (.slice oA on oc) false 0), .slice bA bn bc] W (SPost 3 0 [] 0 0 0 0 [] true 0 [[0, 7, 0, 0, 0, 0, 0, 0]] W) := by
  have h := step_any none 0 0 (some ⟨w.heap.size, 0, none⟩) 1 1 (some ⟨w.heap.size + 1, 0, none⟩) 1 1 (some ⟨w.heap.size + 1 + 1, 0, none⟩) 3 3 sA sn sc oA on oc bA bn bc cmdA ⟨2, 1, [], [0, 0, 0, 0], [], false, 0⟩ [[0, 7, 0, 0, 0, 0, 0, 0]] W fitA2 hC hM
  rw [stA2] at h
  exact h

theorem stpA3 (w : World) (W : World) (sA : Option Addr) (sn sc : Nat) (oA : Option Addr) (on oc : Nat) (bA : Option Addr) (bn bc : Nat) (hC : CmIn W cmdA none 0 0 (some ⟨w.heap.size, 0, none⟩) 1 1 (some ⟨w.heap.size + 1, 0, none⟩) 1 1 (some ⟨w.heap.size + 1 + 1, 0, none⟩) 3 3) (hM : MIn W [] [] [[0, 7, 0, 0, 0, 0, 0, 0]] sA sn sc oA on oc bA bn bc) :
    Calls Try.prog 13 #[.agg #[.slice none 0 0, .slice (some ⟨w.heap.size, 0, none⟩) 1 1, .slice (some ⟨w.heap.size + 1, 0, none⟩) 1 1, .int .i64 3, .slice (some ⟨w.heap.size + 1 + 1, 0, none⟩) 3 3], .agg (mC 3 0 (.slice sA sn sc) 0 0 0 0 (.slice oA on oc) true 0), .slice bA bn bc] W (SPost 3 0 [] 0 0 0 0 [] true 0 [[0, 7, 0, 0, 0, 0, 0, 0]] W) := by
  have h := step_any none 0 0 (some ⟨w.heap.size, 0, none⟩) 1 1 (some ⟨w.heap.size + 1, 0, none⟩) 1 1 (some ⟨w.heap.size + 1 + 1, 0, none⟩) 3 3 sA sn sc oA on oc bA bn bc cmdA ⟨3, 0, [], [0, 0, 0, 0], [], true, 0⟩ [[0, 7, 0, 0, 0, 0, 0, 0]] W fitA3 hC hM
  rw [stA3] at h
  exact h

set_option maxRecDepth 100000 in
set_option maxHeartbeats 4000000 in
theorem awake10 (w : World) : Calls Try.prog 10 #[] w fun e w' => e = .returned (.bool true) ∧ Below w.heap.size w w' := by
  have hnw := Lib.hid (fun W => mnew_any none 0 0 (some ⟨w.heap.size, 0, none⟩) 1 1 (some ⟨w.heap.size + 1, 0, none⟩) 1 1 3 (some ⟨w.heap.size + 1 + 1, 0, none⟩) 3 3 W)
  have hnz := Lib.hid (fun (q : Nat) W => mnew_any none 0 0 none 0 0 none 0 0 5 (some ⟨q, 0, none⟩) 5 5 W)
  obtain ⟨i1, i2, i3, i4⟩ := aW_in w
  have C0 := Lib.hid i1
  have D0 := Lib.hid i2
  have O0 := Lib.hid i3
  have B0 := Lib.hid i4
  clear i1 i2 i3 i4
  have S0 := Lib.hid (stpA0 w)
  have S1 := Lib.hid (stpA1 w)
  have S2 := Lib.hid (stpA2 w)
  have S3 := Lib.hid (stpA3 w)
  have nA : True := trivial
  have n0 : True := trivial
  have n1 : True := trivial
  have n2 : True := trivial
  have n3 : True := trivial
  go_enter Try.func10, Try.ntmps10
  go_wp2_with (first
    | (go_at_call 11; clear nA; go_must ((with_reducible refine (hnw.out _).mono ?_); rintro e w1 ⟨rfl, hb⟩; have E1 := Lib.hid (bnext hb (var_below w1 (mC 0 3 (.slice none 0 0) 0 0 0 0 (.slice none 0 0) false 0))); have N1 := Lib.hid (Bk.new w1 32 mZ); have K1 := Lib.hid (var_bk w1 (mC 0 3 (.slice none 0 0) 0 0 0 0 (.slice none 0 0) false 0)); have C1 := Lib.hid (C0.out.below E1.out); have D1 := Lib.hid (D0.out.below E1.out); have B1 := Lib.hid (bnext B0.out E1.out); have I1 : Hid (MIn _ [] [] [z8] none 0 0 none 0 0 (some ⟨w.heap.size + 1 + 1 + 1 + 1, 0, none⟩) 1 1) := Lib.hid ⟨⟨rfl, Nat.le_refl _, fun _ => ⟨rfl, rfl⟩, fun h => absurd h (by omega)⟩, ⟨rfl, Nat.le_refl _, fun _ => ⟨rfl, rfl⟩, fun h => absurd h (by omega)⟩, O0.out.below E1.out⟩; obtain ⟨e0, e1, e2, e3, e4, ef⟩ := D1.out.cmd; have el := D1.out.lt; clear hb))
    | (with_reducible refine st_mach w1.heap.size N1.out rfl rfl _ _ rfl rfl rfl rfl ?_)
    | (go_at_call 13; clear n0; go_must ((with_reducible refine (S0.out _ _ _ _ _ _ _ _ _ _ C1.out I1.out).mono ?_); rintro e w2 ⟨sA2, sn, sc2, oA2, on, oc2, bA2, bn, bc2, rfl, m, hb, -⟩; obtain ⟨rfl, rfl, rfl⟩ : sn = 1 ∧ on = 0 ∧ bn = 1 := m.lens (by decide); have E2 := Lib.hid (bnext hb (var_below w2 (mC 1 2 (.slice sA2 1 sc2) 0 0 0 0 (.slice oA2 0 oc2) false 0))); have N2 := Lib.hid (Bk.new w2 32 mZ); have I2 := Lib.hid (m.below (var_below w2 (mC 1 2 (.slice sA2 1 sc2) 0 0 0 0 (.slice oA2 0 oc2) false 0))); have K1 := Lib.hid (K1.out.below E2.out); have I1 := Lib.hid (I1.out.below E2.out); have K2 := Lib.hid (var_bk w2 (mC 1 2 (.slice sA2 1 sc2) 0 0 0 0 (.slice oA2 0 oc2) false 0)); have C2 := Lib.hid (C1.out.below E2.out); have D2 := Lib.hid (D1.out.below E2.out); have B2 := Lib.hid (bnext B1.out E2.out); clear e0 e1 e2 e3 e4 ef el; obtain ⟨e0, e1, e2, e3, e4, ef⟩ := D2.out.cmd; have el := D2.out.lt; clear m hb))
    | (with_reducible refine st_mach w2.heap.size N2.out rfl rfl _ _ rfl rfl rfl rfl ?_)
    | (go_at_call 13; clear n1; go_must ((with_reducible refine (S1.out _ _ _ _ _ _ _ _ _ _ C2.out I2.out).mono ?_); rintro e w3 ⟨sA3, sn, sc3, oA3, on, oc3, bA3, bn, bc3, rfl, m, hb, -⟩; obtain ⟨rfl, rfl, rfl⟩ : sn = 0 ∧ on = 0 ∧ bn = 1 := m.lens (by decide); have E3 := Lib.hid (bnext hb (var_below w3 (mC 2 1 (.slice sA3 0 sc3) 0 0 0 0 (.slice oA3 0 oc3) false 0))); have N3 := Lib.hid (Bk.new w3 32 mZ); have I3 := Lib.hid (m.below (var_below w3 (mC 2 1 (.slice sA3 0 sc3) 0 0 0 0 (.slice oA3 0 oc3) false 0))); have K1 := Lib.hid (K1.out.below E3.out); have I1 := Lib.hid (I1.out.below E3.out); have K2 := Lib.hid (K2.out.below E3.out); have I2 := Lib.hid (I2.out.below E3.out); have K3 := Lib.hid (var_bk w3 (mC 2 1 (.slice sA3 0 sc3) 0 0 0 0 (.slice oA3 0 oc3) false 0)); have C3 := Lib.hid (C2.out.below E3.out); have D3 := Lib.hid (D2.out.below E3.out); have B3 := Lib.hid (bnext B2.out E3.out); clear e0 e1 e2 e3 e4 ef el; obtain ⟨e0, e1, e2, e3, e4, ef⟩ := D3.out.cmd; have el := D3.out.lt; clear m hb))
    | (with_reducible refine st_mach w3.heap.size N3.out rfl rfl _ _ rfl rfl rfl rfl ?_)
    | (go_at_call 13; clear n2; go_must ((with_reducible refine (S2.out _ _ _ _ _ _ _ _ _ _ C3.out I3.out).mono ?_); rintro e w4 ⟨sA4, sn, sc4, oA4, on, oc4, bA4, bn, bc4, rfl, m, hb, -⟩; obtain ⟨rfl, rfl, rfl⟩ : sn = 0 ∧ on = 0 ∧ bn = 1 := m.lens (by decide); have E4 := Lib.hid (bnext hb (var_below w4 (mC 3 0 (.slice sA4 0 sc4) 0 0 0 0 (.slice oA4 0 oc4) true 0))); have N4 := Lib.hid (Bk.new w4 32 mZ); have I4 := Lib.hid (m.below (var_below w4 (mC 3 0 (.slice sA4 0 sc4) 0 0 0 0 (.slice oA4 0 oc4) true 0))); have K1 := Lib.hid (K1.out.below E4.out); have I1 := Lib.hid (I1.out.below E4.out); have K2 := Lib.hid (K2.out.below E4.out); have I2 := Lib.hid (I2.out.below E4.out); have K3 := Lib.hid (K3.out.below E4.out); have I3 := Lib.hid (I3.out.below E4.out); have K4 := Lib.hid (var_bk w4 (mC 3 0 (.slice sA4 0 sc4) 0 0 0 0 (.slice oA4 0 oc4) true 0)); have C4 := Lib.hid (C3.out.below E4.out); have D4 := Lib.hid (D3.out.below E4.out); have B4 := Lib.hid (bnext B3.out E4.out); clear e0 e1 e2 e3 e4 ef el; obtain ⟨e0, e1, e2, e3, e4, ef⟩ := D4.out.cmd; have el := D4.out.lt; clear m hb))
    | (with_reducible refine st_mach w4.heap.size N4.out rfl rfl _ _ rfl rfl rfl rfl ?_)
    | (go_at_call 13; clear n3; go_must ((with_reducible refine (S3.out _ _ _ _ _ _ _ _ _ _ C4.out I4.out).mono ?_); rintro e w5 ⟨sA5, sn, sc5, oA5, on, oc5, bA5, bn, bc5, rfl, m, hb, -⟩; obtain ⟨rfl, rfl, rfl⟩ : sn = 0 ∧ on = 0 ∧ bn = 1 := m.lens (by decide); have E5 := Lib.hid (bnext hb (var_below w5 (mC 3 0 (.slice sA5 0 sc5) 0 0 0 0 (.slice oA5 0 oc5) true 0))); have N5 := Lib.hid (Bk.new w5 32 mZ); have I5 := Lib.hid (m.below (var_below w5 (mC 3 0 (.slice sA5 0 sc5) 0 0 0 0 (.slice oA5 0 oc5) true 0))); have K1 := Lib.hid (K1.out.below E5.out); have I1 := Lib.hid (I1.out.below E5.out); have K2 := Lib.hid (K2.out.below E5.out); have I2 := Lib.hid (I2.out.below E5.out); have K3 := Lib.hid (K3.out.below E5.out); have I3 := Lib.hid (I3.out.below E5.out); have K4 := Lib.hid (K4.out.below E5.out); have I4 := Lib.hid (I4.out.below E5.out); have K5 := Lib.hid (var_bk w5 (mC 3 0 (.slice sA5 0 sc5) 0 0 0 0 (.slice oA5 0 oc5) true 0)); have C5 := Lib.hid (C4.out.below E5.out); have D5 := Lib.hid (D4.out.below E5.out); have B5 := Lib.hid (bnext B4.out E5.out); clear e0 e1 e2 e3 e4 ef el; obtain ⟨e0, e1, e2, e3, e4, ef⟩ := D5.out.cmd; have el := D5.out.lt; have y2 := K2.out.cell 2; have yl := K2.out.lt; simp only [List.getElem?_toArray, List.getElem?_cons_zero, List.getElem?_cons_succ] at y2; have Z := zW_in ((w5.alloc (.cells mZ 32)).setRow w5.heap.size (mC 3 0 (.slice sA5 0 sc5) 0 0 0 0 (.slice oA5 0 oc5) true 0)) (w5.heap.size + 1) (by simp only [setRow_size, World.size_alloc]); have CZ := Lib.hid Z.1; have DZ := Lib.hid Z.2.1; have BZ := Lib.hid Z.2.2; clear Z m hb))
    | (with_reducible refine st_mach w5.heap.size N5.out rfl rfl _ _ rfl rfl rfl rfl ?_)
    | (with_reducible refine ld_mach w1.heap.size K1.out _ rfl rfl rfl ?_)
    | (with_reducible refine ld_mach w2.heap.size K2.out _ rfl rfl rfl ?_)
    | (with_reducible refine ld_mach w3.heap.size K3.out _ rfl rfl rfl ?_)
    | (with_reducible refine ld_mach w4.heap.size K4.out _ rfl rfl rfl ?_)
    | (go_at_call 11; go_must ((with_reducible refine (hnz.out (w5.heap.size + 1) _).mono ?_); rintro e w6 ⟨rfl, hb⟩; have hb6 := bnext BZ.out hb; have K1 := Lib.hid (K1.out.below hb6); have I1 := Lib.hid (I1.out.below hb6); have K2 := Lib.hid (K2.out.below hb6); have I2 := Lib.hid (I2.out.below hb6); have K3 := Lib.hid (K3.out.below hb6); have I3 := Lib.hid (I3.out.below hb6); have K4 := Lib.hid (K4.out.below hb6); have I4 := Lib.hid (I4.out.below hb6); have K5 := Lib.hid (K5.out.below hb6); have I5 := Lib.hid (I5.out.below hb6); have CZ := Lib.hid (CZ.out.below hb); have DZ := Lib.hid (DZ.out.below hb); have B6 := Lib.hid (bnext B5.out hb6); have N6 := Lib.hid (Bk.new w6 32 mZ); have V6 := Lib.hid (var_below w6 (mC 0 5 (.slice none 0 0) 0 0 0 0 (.slice none 0 0) false 0)); have MZ0 : Hid (MZ w6.heap.size 0 ((w6.alloc (.cells mZ 32)).setRow w6.heap.size (mC 0 5 (.slice none 0 0) 0 0 0 0 (.slice none 0 0) false 0))) := Lib.hid ⟨none, 0, 0, none, 0, 0, var_bk w6 (mC 0 5 (.slice none 0 0) 0 0 0 0 (.slice none 0 0) false 0), ⟨⟨rfl, Nat.le_refl _, fun _ => ⟨rfl, rfl⟩, fun h => absurd h (by omega)⟩, ⟨rfl, Nat.le_refl _, fun _ => ⟨rfl, rfl⟩, fun h => absurd h (by omega)⟩, ⟨rfl, Nat.le_refl _, fun _ => ⟨rfl, rfl⟩, fun h => absurd h (by omega)⟩⟩, fun h => absurd h (by omega), fun h => absurd h (by omega), fun h => absurd h (by omega)⟩; clear e0 e1 e2 e3 e4 ef el y2 yl hb hb6))
    | (with_reducible refine st_mach w6.heap.size N6.out rfl rfl _ _ rfl rfl rfl rfl ?_))
  have hsz := Lib.hid (fun k => steps_succ cmdZ k (newM cmdZ, []))
  have hst := Lib.hid (fun (k : Nat) (hk : k < 3) (W : World) (hC : CmIn W cmdZ none 0 0 none 0 0 none 0 0 (some ⟨w5.heap.size + 1, 0, none⟩) 5 5) (sA : Option Addr) (sn sc : Nat) (oA : Option Addr) (on oc : Nat) hM => step_any none 0 0 none 0 0 none 0 0 (some ⟨w5.heap.size + 1, 0, none⟩) 5 5 sA sn sc oA on oc none 0 0 cmdZ (stepsM cmdZ k (newM cmdZ, [])).1 [] W (fitZ k hk) hC hM)
  go_loopw [11] (fun ii wr => ∃ k : Nat, k ≤ 3 ∧ ii = .int .i64 k ∧ Hid (Below w6.heap.size w6 wr) ∧ Hid (MZ w6.heap.size k wr)) (fun ii _ => 3 - (intOf ii).toNat)
  case atStart => exact ⟨0, Nat.zero_le _, rfl, V6, MZ0⟩
  case round =>
    obtain ⟨k, hk, rfl, HB, HM⟩ := hrel
    by_cases hlt : k < 3
    · have d1 : (k : Int) < 3 := by omega
      obtain ⟨sA, sn, sc, oA, on, oc, ax, am, ao⟩ := HM.out
      have AX := Lib.hid ax
      have HS := hst.out k hlt wr (CZ.out.below HB.out) sA sn sc oA on oc am
      rw [show cmdZ.fuel = 5 from rfl] at HS
      have hk1 := hsz.out k
      rw [stepsZ_own k hlt] at hk1
      obtain ⟨f0, f1, f2, f3, f4, ff⟩ := (DZ.out.below HB.out).cmd
      have fl := (DZ.out.below HB.out).lt
      generalize stepsM cmdZ k (newM cmdZ, []) = r at *
      obtain ⟨r', hr'⟩ : ∃ r', r' = stepM cmdZ r.1 [] := ⟨_, rfl⟩
      rw [← hr'] at HS hk1
      have HK := Lib.hid hk1
      have HS' := Lib.hid HS
      have gl : w6.heap.size ≤ wr.heap.size := HB.out.size
      clear HS hr' hk1 ax am ao HM hst hsz C0 D0 O0 B0 S0 S1 S2 S3 E1 E2 E3 E4 E5 C1 C2 C3 C4 C5 D1 D2 D3 D4 D5 hnw hnz N1 N2 N3 N4 N5 N6
      go_wp2_with (first
        | (with_reducible refine ld_mach w6.heap.size AX.out _ rfl rfl rfl ?_)
        | (go_at_call 13; go_must ((with_reducible refine HS'.out.mono ?_); rintro e w7 ⟨sA3, sn3, sc3, oA3, on3, oc3, bA3, bn3, bc3, rfl, m3, b3, o3⟩; have M3 := Lib.hid m3; have B7 := Lib.hid b3; have O3 := Lib.hid (o3 w6.heap.size AX.out.lt); have X3 := Lib.hid (AX.out.below b3); clear m3 b3 o3))
        | (with_reducible refine st_mach w6.heap.size X3.out rfl rfl _ _ rfl rfl rfl rfl ?_))
      go_roundw
      case rel =>
        refine ⟨k + 1, by omega, by go_num, Lib.hid (below_row (bnext HB.out B7.out) (Nat.le_refl _) _), Lib.hid ?_⟩
        unfold MZ
        rw [HK.out]
        have ho : off3 w6.heap.size sA3 sn3 oA3 on3 none 0 := ⟨O3.out.1, O3.out.2.1, fun h => absurd h (by omega)⟩
        exact ⟨sA3, sn3, sc3, oA3, on3, oc3, Bk.setRow X3.out _, MIn.setRow ⟨M3.out.st, M3.out.ou, ⟨rfl, Nat.le_refl _, fun _ => ⟨rfl, rfl⟩, fun h => absurd h (by omega)⟩⟩ ho _, ho⟩
      case measure => simp [intOf]; omega
    · obtain rfl : k = 3 := by omega
      obtain ⟨sA, sn, sc, oA, on, oc, ax, -, -⟩ := HM.out
      rw [stepsZ3] at ax
      have t8 : wr.cell? ⟨w6.heap.size, 8, none⟩ = some (.bool true) := ax.cell 8
      have t9 : wr.cell? ⟨w6.heap.size, 9, none⟩ = some (.int .i64 12) := ax.cell 9
      have tl := ax.lt
      have u1 : wr.cell? ⟨w1.heap.size, 1, none⟩ = some (.int .i64 3) := (K1.out.below HB.out).cell 1
      have u2 : wr.cell? ⟨w2.heap.size, 1, none⟩ = some (.int .i64 2) := (K2.out.below HB.out).cell 1
      have u3 : wr.cell? ⟨w2.heap.size, 2, none⟩ = some (.slice sA2 1 sc2) := (K2.out.below HB.out).cell 2
      have u4 : wr.cell? ⟨w4.heap.size, 8, none⟩ = some (.bool true) := (K4.out.below HB.out).cell 8
      have u5 : wr.cell? ⟨w4.heap.size, 9, none⟩ = some (.int .i64 0) := (K4.out.below HB.out).cell 9
      obtain ⟨b2, off2, rfl, hb2, hv2⟩ := (I2.out.below HB.out).st.int (j := 0) (by decide)
      have hv2' : wr.cell? ⟨b2, off2, none⟩ = some (.int .i64 7) := hv2
      obtain ⟨b4, off4, rfl, hb4, hv4⟩ := (I4.out.below HB.out).bk.2.2.2 (by decide)
      have hv4' : wr.cell? ⟨b4, off4 + 1, none⟩ = some (.int .i64 7) := hv4 1 (by decide)
      have X4 := Lib.hid (K4.out.below HB.out)
      have X5 := Lib.hid (K5.out.below HB.out)
      have J4 := I4.out.below HB.out
      have J5 := I5.out.below HB.out
      have HS := Lib.hid (rsame_yes 3 0 [] [] 0 0 0 0 true 0 sA4 sA5 0 sc4 sc5 oA4 oA5 0 oc4 oc5 wr J4.st J5.st J4.ou J5.ou (by decide) (by decide))
      have AX := Lib.hid ax
      have BF := Lib.hid (B6.out.trans ((HB.out.mono B6.out.size)))
      clear J4 J5 hv2 hv4 ax HM hst hsz C0 D0 O0 B0 S0 S1 S2 S3 E1 E2 E3 E4 E5 C1 C2 C3 C4 C5 D1 D2 D3 D4 D5 hnw hnz N1 N2 N3 N4 N5 N6
      go_wp2_with (first
        | (refine wpList_load_at _ w4.heap.size 0 (load_mach X4.out) _ rfl rfl rfl ?_)
        | (refine wpList_load_at _ w5.heap.size 0 (load_mach X5.out) _ rfl rfl rfl ?_)
        | (go_at_call 15; go_must ((with_reducible refine HS.out.mono ?_); rintro e w7 ⟨rfl, hb7⟩; have AX7 := AX.out.below hb7; have t8' : w7.cell? ⟨w6.heap.size, 8, none⟩ = some (.bool true) := AX7.cell 8; have t9' : w7.cell? ⟨w6.heap.size, 9, none⟩ = some (.int .i64 12) := AX7.cell 9; have tl' := AX7.lt; have B7 := Lib.hid hb7; clear AX7 hb7 t8 t9 tl)))
      go_ret
      exact ⟨rfl, bnext BF.out B7.out⟩

end Go.Proofs.Ytehaknnoplcbcaa
