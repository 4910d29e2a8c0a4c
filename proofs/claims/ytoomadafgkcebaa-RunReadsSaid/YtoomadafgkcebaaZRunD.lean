/-
  awake of layer 11's laws: true, in whatever memory.
-/
import Derived.Test.YtoomadafgkcebaaQRunC
import Derived.Test.YtoomadafgkcebaaZRunQ
import Derived.Test.YtoomadafgkcebaaZInsN
namespace Go.Proofs.Ytoomadafgkcebaa
open Go.RowKit

def codeQ : List Ins := [⟨1, 5, 0⟩, ⟨15, 0, 0⟩, ⟨17, 0, 0⟩]
def cmdQ : Cmd := ⟨[], [], [], 9, codeQ⟩
def cmdD : Cmd := ⟨[], [], [], 2, codeQ⟩
theorem maybeQ : MayBe cmdQ := (check_zero cmdQ).1 (by decide)
theorem maybeD : MayBe cmdD := (check_zero cmdD).1 (by decide)
theorem stepsQ1 : stepsM cmdQ 1 (newM cmdQ, []) = (⟨1, 8, [5], [0, 0, 0, 0], [], false, 0⟩, []) := by kernel_rfl
theorem stepsQ2 : stepsM cmdQ 2 (newM cmdQ, []) = (⟨2, 7, [], [0, 0, 0, 0], [5], false, 0⟩, []) := by kernel_rfl
theorem stepsQ3 : stepsM cmdQ 3 (newM cmdQ, []) = (⟨3, 6, [], [0, 0, 0, 0], [5], true, 0⟩, []) := by kernel_rfl
theorem stepsD1 : stepsM cmdD 1 (newM cmdD, []) = (⟨1, 1, [5], [0, 0, 0, 0], [], false, 0⟩, []) := by kernel_rfl
theorem stepsD2 : stepsM cmdD 2 (newM cmdD, []) = (⟨2, 0, [], [0, 0, 0, 0], [5], false, 0⟩, []) := by kernel_rfl
theorem stepsD3 : stepsM cmdD 3 (newM cmdD, []) = (⟨2, 0, [], [0, 0, 0, 0], [], true, 11⟩, []) := by kernel_rfl
theorem endsQ : Ends cmdQ (newM cmdQ, []) 3 := ⟨by rw [stepsQ3], fun k hk => by
  rcases (show k = 0 ∨ k = 1 ∨ k = 2 by omega) with rfl | rfl | rfl
  · rfl
  · rw [stepsQ1]
  · rw [stepsQ2]⟩
theorem endsD : Ends cmdD (newM cmdD, []) 3 := ⟨by rw [stepsD3], fun k hk => by
  rcases (show k = 0 ∨ k = 1 ∨ k = 2 by omega) with rfl | rfl | rfl
  · rfl
  · rw [stepsD1]
  · rw [stepsD2]⟩
theorem fitQ : ∀ k, k < 3 → Fit cmdQ (stepsM cmdQ k (newM cmdQ, [])).1 (stepsM cmdQ k (newM cmdQ, [])).2 := fun k _ => by
  obtain ⟨d, hd⟩ := maybeQ.depths
  exact steps_fit maybeQ hd rfl (by simp) k
theorem fitD : ∀ k, k < 3 → Fit cmdD (stepsM cmdD k (newM cmdD, [])).1 (stepsM cmdD k (newM cmdD, [])).2 := fun k _ => by
  obtain ⟨d, hd⟩ := maybeD.depths
  exact steps_fit maybeD hd rfl (by simp) k

theorem nilS (W : World) (size : Nat) : Sl W size none 0 0 [] := ⟨by simp, Nat.le_refl _, fun _ => ⟨rfl, rfl⟩, fun h => absurd h (by omega)⟩

abbrev qW (w : World) : World := (w.alloc (.cells #[.int .i64 1, .int .i64 5, .int .i64 0, .int .i64 15, .int .i64 0, .int .i64 0, .int .i64 17, .int .i64 0, .int .i64 0] 45)).alloc (.cells #[.slice none 0 0, .slice none 0 0, .slice none 0 0, .int .i64 9, .slice (some ⟨w.heap.size, 0, none⟩) 3 3] 25)
theorem qW_in (w : World) : CmIn (qW w) cmdQ none 0 0 none 0 0 none 0 0 (some ⟨w.heap.size, 0, none⟩) 3 3 ∧ CmIn (qW w) cmdD none 0 0 none 0 0 none 0 0 (some ⟨w.heap.size, 0, none⟩) 3 3 ∧ Bk (qW w) (w.heap.size + 1) 25 #[.slice none 0 0, .slice none 0 0, .slice none 0 0, .int .i64 9, .slice (some ⟨w.heap.size, 0, none⟩) 3 3] ∧ Below w.heap.size w (qW w) := by
  have k1 := inss_new codeQ w
  have k2 := Bk.new (w.alloc (.cells #[.int .i64 1, .int .i64 5, .int .i64 0, .int .i64 15, .int .i64 0, .int .i64 0, .int .i64 17, .int .i64 0, .int .i64 0] 45)) 25 #[.slice none 0 0, .slice none 0 0, .slice none 0 0, .int .i64 9, .slice (some ⟨w.heap.size, 0, none⟩) 3 3]
  rw [World.size_alloc] at k2
  have nil : ∀ W : World, Ints W none 0 [] := fun W => nilS W 1
  exact ⟨⟨rfl, rfl, rfl, rfl, nil _, nil _, nil _, Inss.below k1 (below_alloc1 _ _), by decide, by decide, by decide, by decide⟩, ⟨rfl, rfl, rfl, rfl, nil _, nil _, nil _, Inss.below k1 (below_alloc1 _ _), by decide, by decide, by decide, by decide⟩, k2, bnext (below_alloc1 _ _) (below_alloc1 _ _)⟩

set_option maxRecDepth 100000 in
set_option maxHeartbeats 8000000 in
theorem awake11 (w : World) : Calls Try.prog 8 #[] w fun e w' => e = .returned (.bool true) ∧ Below w.heap.size w w' := by
  obtain ⟨i1, i2, i3, i4⟩ := qW_in w
  have C0 := Lib.hid i1
  have F0 := Lib.hid i2
  have D0 := Lib.hid i3
  have B0 := Lib.hid i4
  clear i1 i2 i3 i4
  have hq : Hid (∀ W, CmIn W cmdQ none 0 0 none 0 0 none 0 0 (some ⟨w.heap.size, 0, none⟩) 3 3 → Calls Try.prog 9 #[.agg #[.slice none 0 0, .slice none 0 0, .slice none 0 0, .int .i64 9, .slice (some ⟨w.heap.size, 0, none⟩) 3 3], .slice none 0 0] W (fun e w' => ∃ sA sn sc oA on oc bA bn bc, e = .returned (.tuple #[.agg (mC 3 6 (.slice sA sn sc) 0 0 0 0 (.slice oA on oc) true 0), .slice bA bn bc, .int .i64 3]) ∧ MIn w' [] [5] [] sA sn sc oA on oc bA bn bc ∧ Below W.heap.size W w')) := Lib.hid (fun W h => by
    have := whole_any none 0 0 none 0 0 none 0 0 (some ⟨w.heap.size, 0, none⟩) 3 3 cmdQ [] 3 none 0 0 W h (nilS W 8) (by decide) endsQ fitQ
    rw [stepsQ3] at this
    exact this)
  have hd : Hid (∀ W, CmIn W cmdD none 0 0 none 0 0 none 0 0 (some ⟨w.heap.size, 0, none⟩) 3 3 → Calls Try.prog 9 #[.agg #[.slice none 0 0, .slice none 0 0, .slice none 0 0, .int .i64 2, .slice (some ⟨w.heap.size, 0, none⟩) 3 3], .slice none 0 0] W (fun e w' => ∃ sA sn sc oA on oc bA bn bc, e = .returned (.tuple #[.agg (mC 2 0 (.slice sA sn sc) 0 0 0 0 (.slice oA on oc) true 11), .slice bA bn bc, .int .i64 3]) ∧ MIn w' [] [] [] sA sn sc oA on oc bA bn bc ∧ Below W.heap.size W w')) := Lib.hid (fun W h => by
    have := whole_any none 0 0 none 0 0 none 0 0 (some ⟨w.heap.size, 0, none⟩) 3 3 cmdD [] 3 none 0 0 W h (nilS W 8) (by decide) endsD fitD
    rw [stepsD3] at this
    exact this)
  have hs : Hid (∀ W, CmIn W cmdQ none 0 0 none 0 0 none 0 0 (some ⟨w.heap.size, 0, none⟩) 3 3 → Calls Try.prog 11 #[.agg #[.slice none 0 0, .slice none 0 0, .slice none 0 0, .int .i64 9, .slice (some ⟨w.heap.size, 0, none⟩) 3 3], .slice none 0 0, .int .i64 1] W (fun e w' => ∃ sA sn sc oA on oc bA bn bc, e = .returned (.tuple #[.agg (mC 1 8 (.slice sA sn sc) 0 0 0 0 (.slice oA on oc) false 0), .slice bA bn bc]) ∧ MIn w' [5] [] [] sA sn sc oA on oc bA bn bc ∧ Below W.heap.size W w')) := Lib.hid (fun W h => by
    have := some_any none 0 0 none 0 0 none 0 0 (some ⟨w.heap.size, 0, none⟩) 3 3 cmdQ [] 3 1 none 0 0 W h (nilS W 8) (by decide) (by decide) (by decide) endsQ fitQ
    rw [show (1 : Int).toNat = 1 from rfl, stepsQ1] at this
    exact this)
  have nA : True := trivial
  go_enter Try.func8, Try.ntmps8
  go_wp2_with (first
    | (go_at_call 9; clear nA; go_must ((with_reducible refine (hq.out _ C0.out).mono ?_); rintro e w1 ⟨sA1, sn, sc1, oA1, on, oc1, bA1, bn, bc1, rfl, m, hb⟩; obtain ⟨rfl, rfl, rfl⟩ : sn = 0 ∧ on = 1 ∧ bn = 0 := m.lens (by simp); have E1 := Lib.hid (bnext hb (var_below w1 (mC 3 6 (.slice sA1 0 sc1) 0 0 0 0 (.slice oA1 1 oc1) true 0))); have N1 := Lib.hid (Bk.new w1 32 mZ); have I1 := Lib.hid (m.below (var_below w1 (mC 3 6 (.slice sA1 0 sc1) 0 0 0 0 (.slice oA1 1 oc1) true 0))); have K1 := Lib.hid (var_bk w1 (mC 3 6 (.slice sA1 0 sc1) 0 0 0 0 (.slice oA1 1 oc1) true 0)); have C1 := Lib.hid (C0.out.below E1.out); have F1 := Lib.hid (F0.out.below E1.out); have D1 := Lib.hid (D0.out.below E1.out); have B1 := Lib.hid (bnext B0.out E1.out); obtain ⟨e0, e1, e2, e3, e4, ef⟩ := D1.out.cmd; have el := D1.out.lt; clear m hb))
    | (with_reducible refine st_mach w1.heap.size N1.out rfl rfl _ _ rfl rfl rfl rfl ?_)
    | (go_at_call 9; go_must ((with_reducible refine (hd.out _ (F1.out.below (below_alloc1 _ _))).mono ?_); rintro e w2 ⟨sA2, sn, sc2, oA2, on, oc2, bA2, bn, bc2, rfl, m, hb⟩; obtain ⟨rfl, rfl, rfl⟩ : sn = 0 ∧ on = 0 ∧ bn = 0 := m.lens (by simp); have hb2 := bnext (below_alloc1 _ _) hb; have E2 := Lib.hid (bnext hb2 (var_below w2 (mC 2 0 (.slice sA2 0 sc2) 0 0 0 0 (.slice oA2 0 oc2) true 11))); have N2 := Lib.hid (Bk.new w2 32 mZ); have K2 := Lib.hid (var_bk w2 (mC 2 0 (.slice sA2 0 sc2) 0 0 0 0 (.slice oA2 0 oc2) true 11)); have I2 := Lib.hid (I1.out.below E2.out); have K12 := Lib.hid (K1.out.below E2.out); have C2 := Lib.hid (C1.out.below E2.out); have D2 := Lib.hid (D1.out.below E2.out); have B2 := Lib.hid (bnext B1.out E2.out); clear e0 e1 e2 e3 e4 ef el; obtain ⟨e0, e1, e2, e3, e4, ef⟩ := D2.out.cmd; have el := D2.out.lt; clear m hb hb2))
    | (with_reducible refine st_mach w2.heap.size N2.out rfl rfl _ _ rfl rfl rfl rfl ?_)
    | (go_at_call 11; go_must ((with_reducible refine (hs.out _ C2.out).mono ?_); rintro e w3 ⟨sA3, sn, sc3, oA3, on, oc3, bA3, bn, bc3, rfl, m, hb⟩; obtain ⟨rfl, rfl, rfl⟩ : sn = 1 ∧ on = 0 ∧ bn = 0 := m.lens (by simp); have E3 := Lib.hid (bnext hb (var_below w3 (mC 1 8 (.slice sA3 1 sc3) 0 0 0 0 (.slice oA3 0 oc3) false 0))); have N3 := Lib.hid (Bk.new w3 32 mZ); have K3 := Lib.hid (var_bk w3 (mC 1 8 (.slice sA3 1 sc3) 0 0 0 0 (.slice oA3 0 oc3) false 0)); have I3 := Lib.hid (I2.out.below E3.out); have K13 := Lib.hid (K12.out.below E3.out); have K23 := Lib.hid (K2.out.below E3.out); have B3 := Lib.hid (bnext B2.out E3.out); clear e0 e1 e2 e3 e4 ef el; clear m hb))
    | (with_reducible refine st_mach w3.heap.size N3.out rfl rfl _ _ rfl rfl rfl rfl ?_)
    | (with_reducible refine ld_mach w1.heap.size K13.out _ rfl rfl rfl ?_)
    | (go_at_call 16; go_must ((with_reducible refine (tells_any 4 3 6 sA1 0 sc1 0 0 0 0 oA1 1 oc1 true 0 [5] _ I3.out.ou (by decide)).mono ?_); rintro e w4 ⟨tA, tn, tc, rfl, t1, t2⟩; obtain rfl : tn = 1 := (by have := t1.1; simp at this; omega); have B4 := Lib.hid (bnext B3.out t2); have J1 := K13.out.below t2; have J2 := K23.out.below t2; have J3 := K3.out.below t2; have u1 : w4.cell? ⟨w1.heap.size, 9, none⟩ = some (.int .i64 0) := J1.cell 9; have u2 : w4.cell? ⟨w1.heap.size, 7, none⟩ = some (.slice oA1 1 oc1) := J1.cell 7; have u3 : w4.cell? ⟨w2.heap.size, 9, none⟩ = some (.int .i64 11) := J2.cell 9; have u4 : w4.cell? ⟨w2.heap.size, 7, none⟩ = some (.slice oA2 0 oc2) := J2.cell 7; have u5 : w4.cell? ⟨w3.heap.size, 8, none⟩ = some (.bool false) := J3.cell 8; have l1 := J1.lt; have l2 := J2.lt; have l3 := J3.lt; obtain ⟨b1, off1, rfl, hb1, hv1⟩ := (I3.out.below t2).ou.int (j := 0) (by decide); have hv1' : w4.cell? ⟨b1, off1, none⟩ = some (.int .i64 5) := hv1; have q1 := (I3.out.below t2).ou.2.1; clear J1 J2 J3 t1 t2 hv1)))
  go_ret
  exact ⟨rfl, bnext B4.out (below_alloc1 _ _)⟩

end Go.Proofs.Ytoomadafgkcebaa
