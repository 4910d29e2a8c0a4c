/-
  What awake answers (the document's examples): true, in whatever memory. No conditions.
-/
import Derived.Test.YthcfncpkeldapaaSecP
import Derived.Test.YthcfncpkeldapaaKept
namespace Go.Proofs.Ythcfncpkeldapaa
open Go.RowKit

theorem aw_new (w : World) :
    Calls Try.prog 12 #[.int .i64 3] w fun e w' => ∃ A c B d, e = .returned (.tuple #[.agg #[.slice A 3 c, .slice B 0 d, .bool false, .int .i64 (-1)], .int .i64 0]) ∧
      IsDk w' (.agg #[.slice A 3 c, .slice B 0 d, .bool false, .int .i64 (-1)]) E1 ∧ Below w.heap.size w w' :=
  (new_yes 3 w (by omega)).mono fun e w' ⟨v', he, hd, hb⟩ => by
    rw [e1] at hd
    obtain ⟨A, c, B, d, rfl, h⟩ := hd
    exact ⟨A, c, B, d, he, ⟨A, c, B, d, rfl, h⟩, hb⟩

theorem aw_put1 (v : Value) (w : World) (hv : IsDk w v E1) :
    Calls Try.prog 15 #[v, .int .i64 1, .string ⟨#[97, 98]⟩] w fun e w' => ∃ A c B d, e = .returned (.tuple #[.agg #[.slice A 3 c, .slice B 1 d, .bool false, .int .i64 (-1)], .int .i64 0]) ∧
      IsDk w' (.agg #[.slice A 3 c, .slice B 1 d, .bool false, .int .i64 (-1)]) E2 ∧ Below w.heap.size w w' :=
  (put_any v E1 1 _ w hv ok1 (by decide)).mono fun e w' ⟨v', he, hd, hb⟩ => by
    rw [e2] at hd he
    obtain ⟨A, c, B, d, rfl, h⟩ := hd
    exact ⟨A, c, B, d, he, ⟨A, c, B, d, rfl, h⟩, hb⟩

theorem aw_flush (v : Value) (w : World) (hv : IsDk w v E2) :
    Calls Try.prog 17 #[v] w fun e w' => ∃ A c B d, e = .returned (.tuple #[.agg #[.slice A 3 c, .slice B 0 d, .bool false, .int .i64 (-1)], .int .i64 0]) ∧
      IsDk w' (.agg #[.slice A 3 c, .slice B 0 d, .bool false, .int .i64 (-1)]) E3 ∧ Below w.heap.size w w' :=
  (flush_any v E2 w hv ok2 (by decide)).mono fun e w' ⟨v', he, hd, hb⟩ => by
    rw [e3] at hd he
    obtain ⟨A, c, B, d, rfl, h⟩ := hd
    exact ⟨A, c, B, d, he, ⟨A, c, B, d, rfl, h⟩, hb⟩

theorem aw_put2 (v : Value) (w : World) (hv : IsDk w v E3) :
    Calls Try.prog 15 #[v, .int .i64 1, .string ⟨#[120, 121, 122]⟩] w fun e w' => ∃ A c B d, e = .returned (.tuple #[.agg #[.slice A 3 c, .slice B 1 d, .bool false, .int .i64 (-1)], .int .i64 0]) ∧
      IsDk w' (.agg #[.slice A 3 c, .slice B 1 d, .bool false, .int .i64 (-1)]) E4 ∧ Below w.heap.size w w' :=
  (put_any v E3 1 _ w hv ok3 (by decide)).mono fun e w' ⟨v', he, hd, hb⟩ => by
    rw [e4] at hd he
    obtain ⟨A, c, B, d, rfl, h⟩ := hd
    exact ⟨A, c, B, d, he, ⟨A, c, B, d, rfl, h⟩, hb⟩

theorem aw_put3 (v : Value) (w : World) (hv : IsDk w v E4) :
    Calls Try.prog 15 #[v, .int .i64 3, .string ⟨#[]⟩] w fun e w' => ∃ A c B d, e = .returned (.tuple #[.agg #[.slice A 3 c, .slice B 1 d, .bool false, .int .i64 (-1)], .int .i64 2]) ∧
      IsDk w' (.agg #[.slice A 3 c, .slice B 1 d, .bool false, .int .i64 (-1)]) E4 ∧ Below w.heap.size w w' :=
  (put_any v E4 3 _ w hv ok4 (by decide)).mono fun e w' ⟨v', he, hd, hb⟩ => by
    rw [e10] at hd he
    obtain ⟨A, c, B, d, rfl, h⟩ := hd
    exact ⟨A, c, B, d, he, ⟨A, c, B, d, rfl, h⟩, hb⟩

theorem aw_put4 (v : Value) (w : World) (hv : IsDk w v E7) :
    Calls Try.prog 15 #[v, .int .i64 1, .string ⟨#[]⟩] w fun e w' => ∃ A c B d, e = .returned (.tuple #[.agg #[.slice A 3 c, .slice B 1 d, .bool true, .int .i64 0], .int .i64 17]) ∧
      IsDk w' (.agg #[.slice A 3 c, .slice B 1 d, .bool true, .int .i64 0]) E8 ∧ Below w.heap.size w w' :=
  (put_any v E7 1 _ w hv ok7 (by decide)).mono fun e w' ⟨v', he, hd, hb⟩ => by
    rw [e12] at hd he
    obtain ⟨A, c, B, d, rfl, h⟩ := hd
    exact ⟨A, c, B, d, he, ⟨A, c, B, d, rfl, h⟩, hb⟩

theorem aw_arm (v : Value) (w : World) (hv : IsDk w v E4) :
    Calls Try.prog 19 #[v, .int .i64 0] w fun e w' => ∃ A c B d, e = .returned (.agg #[.slice A 3 c, .slice B 1 d, .bool false, .int .i64 0]) ∧
      IsDk w' (.agg #[.slice A 3 c, .slice B 1 d, .bool false, .int .i64 0]) E7 ∧ Below w.heap.size w w' :=
  (arm_dk v E4 0 w hv).mono fun e w' ⟨v', he, hd, hb⟩ => by
    rw [e11] at hd
    obtain ⟨A, c, B, d, rfl, h⟩ := hd
    exact ⟨A, c, B, d, he, ⟨A, c, B, d, rfl, h⟩, hb⟩

theorem aw_start1 (v : Value) (w : World) (hv : IsDk w v E4) :
    Calls Try.prog 21 #[v, .agg #[.slice none 0 0, .int .i64 0, .int .i64 1]] w fun e w' => ∃ A c B d, e = .returned (.agg #[.slice A 3 c, .slice B 0 d, .bool false, .int .i64 (-1)]) ∧
      IsDk w' (.agg #[.slice A 3 c, .slice B 0 d, .bool false, .int .i64 (-1)]) E5 ∧ Below w.heap.size w w' :=
  (start_any v _ E4 [] 0 1 w hv ok4 (by decide) ⟨none, 0, rfl, Sl.nil _ _⟩ (by decide)).mono fun e w' ⟨v', he, hd, hb⟩ => by
    rw [e6] at hd
    obtain ⟨A, c, B, d, rfl, h⟩ := hd
    exact ⟨A, c, B, d, he, ⟨A, c, B, d, rfl, h⟩, hb⟩

theorem aw_start2 (v : Value) (w : World) (hv : IsDk w v E4) :
    Calls Try.prog 21 #[v, .agg #[.slice none 0 0, .int .i64 (-1), .int .i64 0]] w fun e w' => ∃ A c B d, e = .returned (.agg #[.slice A 3 c, .slice B 0 d, .bool false, .int .i64 (-1)]) ∧
      IsDk w' (.agg #[.slice A 3 c, .slice B 0 d, .bool false, .int .i64 (-1)]) E6 ∧ Below w.heap.size w w' :=
  (start_any v _ E4 [] (-1) 0 w hv ok4 (by decide) ⟨none, 0, rfl, Sl.nil _ _⟩ (by decide)).mono fun e w' ⟨v', he, hd, hb⟩ => by
    rw [e8] at hd
    obtain ⟨A, c, B, d, rfl, h⟩ := hd
    exact ⟨A, c, B, d, he, ⟨A, c, B, d, rfl, h⟩, hb⟩

theorem cut_true (g : Nat) (w : World) (hg : Bk w g 4 #[.bool true]) : IsCut w (.agg #[.slice (some ⟨g, 0, none⟩) 1 1, .int .i64 (-1), .int .i64 0]) [true] (-1) 0 := by
  refine ⟨some ⟨g, 0, none⟩, 1, rfl, rfl, Nat.le_refl _, fun h => by simp at h, fun _ => ⟨g, 0, rfl, hg.lt, fun j hj => ?_⟩⟩
  obtain rfl : j = 0 := by simpa using hj
  exact hg.cell 0

theorem aw_start3 (v : Value) (g : Nat) (w : World) (hv : IsDk w v E4) (hg : Bk w g 4 #[.bool true]) :
    Calls Try.prog 21 #[v, .agg #[.slice (some ⟨g, 0, none⟩) 1 1, .int .i64 (-1), .int .i64 0]] w fun e w' => ∃ A c B d, e = .returned (.agg #[.slice A 3 c, .slice B 0 d, .bool false, .int .i64 (-1)]) ∧
      IsDk w' (.agg #[.slice A 3 c, .slice B 0 d, .bool false, .int .i64 (-1)]) E9 ∧ Below w.heap.size w w' :=
  (start_any v _ E4 [true] (-1) 0 w hv ok4 (by decide) (cut_true g w hg) (by decide)).mono fun e w' ⟨v', he, hd, hb⟩ => by
    rw [e13] at hd
    obtain ⟨A, c, B, d, rfl, h⟩ := hd
    exact ⟨A, c, B, d, he, ⟨A, c, B, d, rfl, h⟩, hb⟩

theorem aw_full1 (w : World) : Calls Try.prog 28 #[.string ⟨#[120, 121, 122]⟩] w fun e w' => e = .returned (.string xyzB) ∧ Below w.heap.size w w' := full_any _ w (by decide)

theorem aw_full2 (w : World) : Calls Try.prog 28 #[.string ⟨#[120, 98]⟩] w fun e w' => e = .returned (.string xbB) ∧ Below w.heap.size w w' := full_any _ w (by decide)

theorem aw_full3 (w : World) : Calls Try.prog 28 #[.string ⟨#[97, 98]⟩] w fun e w' => e = .returned (.string abB) ∧ Below w.heap.size w w' := full_any _ w (by decide)

theorem aw_read1 (v : Value) (w : World) (hv : IsDk w v E4) :
    Calls Try.prog 23 #[v, .int .i64 1] w fun e w' => e = .returned (.tuple #[.string xyzB, .int .i64 0]) ∧ Below w.heap.size w w' :=
  (read_any v E4 1 w hv ok4 (by decide)).mono fun e w' ⟨he, hb⟩ => by
    rw [e5] at he
    exact ⟨he, hb⟩

theorem aw_read2 (v : Value) (w : World) (hv : IsDk w v E5) :
    Calls Try.prog 23 #[v, .int .i64 1] w fun e w' => e = .returned (.tuple #[.string xbB, .int .i64 0]) ∧ Below w.heap.size w w' :=
  (read_any v E5 1 w hv ok5 (by decide)).mono fun e w' ⟨he, hb⟩ => by
    rw [e7] at he
    exact ⟨he, hb⟩

theorem aw_read3 (v : Value) (w : World) (hv : IsDk w v E6) :
    Calls Try.prog 23 #[v, .int .i64 1] w fun e w' => e = .returned (.tuple #[.string abB, .int .i64 0]) ∧ Below w.heap.size w w' :=
  (read_any v E6 1 w hv ok6 (by decide)).mono fun e w' ⟨he, hb⟩ => by
    rw [e9] at he
    exact ⟨he, hb⟩

theorem E9_at {w : World} {A : Option Addr} {c : Nat} {B : Option Addr} {d : Nat} (h : IsDk w (.agg #[.slice A 3 c, .slice B 0 d, .bool false, .int .i64 (-1)]) E9) :
    ∃ b off, A = some ⟨b, off, none⟩ ∧ b < w.heap.size ∧ w.cell? ⟨b, off + 1, none⟩ = some (.string xyzB) := by
  obtain ⟨A', c', B', d', e, hA, _⟩ := h
  simp only [Value.agg.injEq, Array.mk.injEq, List.cons.injEq, Value.slice.injEq] at e
  obtain ⟨⟨rfl, _⟩, _⟩ := e
  obtain ⟨b, off, e1, hb, hc⟩ := hA.2.2.2 (by decide)
  exact ⟨b, off, e1, hb, by rw [hc 1 (by decide)]; rfl⟩

theorem bset4 {B g : Nat} {a w : World} (h : Below B a w) (hg : B ≤ g) {x0 x1 x2 x3 : Value} :
    Below B a ((((w.setCell ⟨g, 0, none⟩ x0).setCell ⟨g, 1, none⟩ x1).setCell ⟨g, 2, none⟩ x2).setCell ⟨g, 3, none⟩ x3) :=
  (((h.setCell (p := ⟨g, 0, none⟩) hg _).setCell (p := ⟨g, 1, none⟩) hg _).setCell (p := ⟨g, 2, none⟩) hg _).setCell (p := ⟨g, 3, none⟩) hg _

set_option maxRecDepth 100000 in
set_option maxHeartbeats 4000000 in
theorem awake_any (w : World) : Calls Try.prog 11 #[] w fun e w' => e = .returned (.bool true) ∧ Below w.heap.size w w' := by
  go_enter Try.func11, Try.ntmps11
  go_wp2_with fail
  refine (aw_new _).mono ?_
  rintro e w1 ⟨A1, c1, B1, d1, rfl, v1, b1⟩
  go_wp2_with fail
  have hbA : Below w1.heap.size w1 (w1.alloc (.cells #[.slice A1 3 c1, .slice B1 0 d1, .bool false, .int .i64 (-1)] 28)) := (Below.refl _ _).alloc (Nat.le_refl _) _
  have t1 := bnext b1 hbA
  have t1g := b1.size
  refine (aw_put1 _ _ (v1.below hbA)).mono ?_
  rintro e w2 ⟨A2, c2, B2, d2, rfl, v2, b2⟩
  have k2 := (Bk.new w1 _ _).below b2
  have t2 := bnext t1 b2
  obtain ⟨q20, q21, q22, q23, f2⟩ := k2.four
  clear b1 b2 v1 hbA t1
  have hge : w.heap.size ≤ w1.heap.size := by have := k2.lt; have := t1g; omega
  go_wp2_with fail
  refine (aw_flush _ _ (v2.store4 k2 _ _ _ _)).mono ?_
  rintro e w3 ⟨A3, c3, B3, d3, rfl, v3, b3⟩
  have k3 := (k2.store4 _ _ _ _).below b3
  have t3 := bnext (bset4 t2 hge) b3
  obtain ⟨q30, q31, q32, q33, f3⟩ := k3.four
  clear q20 q21 q22 q23 f2 k2 t2 b3 v2
  go_wp2_with fail
  refine (aw_put2 _ _ (v3.store4 k3 _ _ _ _)).mono ?_
  rintro e w4 ⟨A4, c4, B4, d4, rfl, v4, b4⟩
  have k4 := (k3.store4 _ _ _ _).below b4
  have t4 := bnext (bset4 t3 hge) b4
  obtain ⟨q40, q41, q42, q43, f4⟩ := k4.four
  clear q30 q31 q32 q33 f3 k3 t3 b4 v3
  go_wp2_with fail
  refine (aw_read1 _ _ (v4.store4 k4 _ _ _ _)).mono ?_
  rintro e w5 ⟨rfl, b5⟩
  have k5 := (k4.store4 _ _ _ _).below b5
  have v5 := (v4.store4 k4 _ _ _ _).below b5
  have t5 := bnext (bset4 t4 hge) b5
  obtain ⟨q50, q51, q52, q53, f5⟩ := k5.four
  clear q40 q41 q42 q43 f4 k4 t4 b5 v4
  go_wp2_with fail
  refine (aw_start1 _ _ v5).mono ?_
  rintro e w6 ⟨A6, c6, B6, d6, rfl, v6, b6⟩
  go_wp2_with fail
  refine (aw_read2 _ _ v6).mono ?_
  rintro e w7 ⟨rfl, b7⟩
  have k7 := (k5.below b6).below b7
  have v7 := (v5.below b6).below b7
  have t7 := bnext (bnext t5 b6) b7
  obtain ⟨q70, q71, q72, q73, f7⟩ := k7.four
  clear q50 q51 q52 q53 f5 k5 t5 b6 b7 v5 v6
  go_wp2_with fail
  refine (aw_start2 _ _ v7).mono ?_
  rintro e w8 ⟨A8, c8, B8, d8, rfl, v8, b8⟩
  go_wp2_with fail
  refine (aw_read3 _ _ v8).mono ?_
  rintro e w9 ⟨rfl, b9⟩
  have k9 := (k7.below b8).below b9
  have v9 := (v7.below b8).below b9
  have t9 := bnext (bnext t7 b8) b9
  obtain ⟨q90, q91, q92, q93, f9⟩ := k9.four
  clear q70 q71 q72 q73 f7 k7 t7 b8 b9 v7 v8
  go_wp2_with fail
  refine (aw_put3 _ _ v9).mono ?_
  rintro e w10 ⟨A10, c10, B10, d10, rfl, v10, b10⟩
  have k10 := k9.below b10
  have v10' := v9.below b10
  have t10 := bnext t9 b10
  obtain ⟨q100, q101, q102, q103, f10⟩ := k10.four
  have l10 := k10.lt
  clear q90 q91 q92 q93 f9 k9 t9 b10 v9 v10
  go_wp2_with fail
  have hbB : Below w10.heap.size w10 (w10.alloc (.cells #[.slice A10 3 c10, .slice B10 1 d10, .bool false, .int .i64 (-1)] 28)) := (Below.refl _ _).alloc (Nat.le_refl _) _
  refine (aw_arm _ _ (v10'.below hbB)).mono ?_
  rintro e w11 ⟨A11, c11, B11, d11, rfl, v11, b11⟩
  go_wp2_with fail
  refine (aw_put4 _ _ v11).mono ?_
  rintro e w12 ⟨A12, c12, B12, d12, rfl, v12, b12⟩
  have k12 := ((k10.below hbB).below b11).below b12
  have v12' := ((v10'.below hbB).below b11).below b12
  have t12 := bnext (bnext (bnext t10 hbB) b11) b12
  obtain ⟨q120, q121, q122, q123, f12⟩ := k12.four
  have l12 := k12.lt
  clear q100 q101 q102 q103 f10 k10 t10 b11 b12 hbB v10' v11 v12 l10
  go_wp2_with fail
  have hbC : Below w12.heap.size w12 ((w12.alloc (.cells #[.slice A12 3 c12, .slice B12 1 d12, .bool true, .int .i64 0] 28)).alloc (.cells #[.bool true] 4)) := ((Below.refl _ _).alloc (Nat.le_refl _) _).alloc (by simp) _
  have kC : Bk ((w12.alloc (.cells #[.slice A12 3 c12, .slice B12 1 d12, .bool true, .int .i64 0] 28)).alloc (.cells #[.bool true] 4)) (w12.heap.size + 1) 4 #[.bool true] := by have := Bk.new (w12.alloc (.cells #[.slice A12 3 c12, .slice B12 1 d12, .bool true, .int .i64 0] 28)) 4 #[.bool true]; simpa using this
  refine (aw_start3 _ _ _ (v12'.below hbC) kC).mono ?_
  rintro e w13 ⟨A13, c13, B13, d13, rfl, v13, b13⟩
  obtain ⟨bx, ox, rfl, hbx, hcx⟩ := E9_at v13
  have k13 := (k12.below hbC).below b13
  have v13' := (v12'.below hbC).below b13
  have t13 := bnext (bnext t12 hbC) b13
  obtain ⟨q130, q131, q132, q133, f13⟩ := k13.four
  have l13 := k13.lt
  clear q120 q121 q122 q123 f12 k12 t12 hbC kC b13 v12' v13 l12
  have hbD : Below w13.heap.size w13 (w13.alloc (.cells #[.slice (some ⟨bx, ox, none⟩) 3 c13, .slice B13 0 d13, .bool false, .int .i64 (-1)] 28)) := (Below.refl _ _).alloc (Nat.le_refl _) _
  have k14 := Bk.new w13 28 #[.slice (some ⟨bx, ox, none⟩) 3 c13, .slice B13 0 d13, .bool false, .int .i64 (-1)]
  have k15 := k13.below hbD
  have v15 := v13'.below hbD
  have t15 := bnext t13 hbD
  have hcy := (hbD.cell (p := ⟨bx, ox + 1, none⟩) hbx).trans hcx
  go_wp2_with fail
  generalize (w13.alloc (.cells #[.slice (some ⟨bx, ox, none⟩) 3 c13, .slice B13 0 d13, .bool false, .int .i64 (-1)] 28)) = W at *
  have hbz := k14.lt
  have hbx' : bx < W.heap.size := by have := hbD.size; omega
  have hd0 := k15.lt
  obtain ⟨q150, q151, q152, q153, f15⟩ := k15.four
  obtain ⟨q140, q141, q142, q143, f14⟩ := k14.four
  clear q130 q131 q132 q133 f13 hbD hcx
  have r0 := KW.cell q140 hbz
  have r1 := KW.cell q143 hbz
  have r2 := KW.cell hcy hbx'
  have r3 := KW.cell q150 hd0
  have r4 := KW.cell q151 hd0
  have r5 := KW.cell q152 hd0
  have r6 := KW.cell q153 hd0
  clear q140 q141 q142 q143 q150 q151 q152 q153 f14 f15
  simp only [List.append_eq, List.cons_append, List.nil_append]
  have hne : Nonempty (KW W) := ⟨⟨W, Below.refl _ _⟩⟩
  refine wp_region_kept W (Below.refl _ _) (by kernel_rfl) (by kernel_rfl) ?_
  repeat (go_big_quiet_step ((first
    | (go_at_call 28; with_reducible exact kept_of _ (aw_full1 _))
    | (go_at_call 28; with_reducible exact kept_of _ (aw_full2 _))
    | (go_at_call 28; with_reducible exact kept_of _ (aw_full3 _))
    | (go_at_call 25; exact kept_of _ (right_any _ E4 _ (v15.below (Subtype.property _)) ok4 (by decide))))))
  refine wpQuiet_nil ?_
  rintro _ ⟨wx, rfl⟩
  go_wp2
  go_ret
  exact ⟨rfl, bnext t15 wx.2⟩

end Go.Proofs.Ythcfncpkeldapaa
