/-
  What SectorAll answers: true, for every list of deeds in memory. No conditions.
-/
import Derived.Test.YthcfncpkeldapaaReadsWalk
namespace Go.Proofs.Ythcfncpkeldapaa
open Go.RowKit

theorem bk_of1 {X Y w' : World} {t : TypeId} {cs : Array Value} (hY : Y.heap = (X.alloc (.cells cs t)).heap) (b : Below Y.heap.size Y w') : Bk w' X.heap.size t cs :=
  ((Bk.new X t cs).heap hY).below b

theorem bk_of2 {X Y w' : World} {t t' : TypeId} {cs cs' : Array Value} (hY : Y.heap = ((X.alloc (.cells cs t)).alloc (.cells cs' t')).heap) (b : Below Y.heap.size Y w') : Bk w' X.heap.size t cs ∧ Bk w' (X.heap.size + 1) t' cs' := by
  refine ⟨(((Bk.new X t cs).alloc _).heap hY).below b, ?_⟩
  have := Bk.new (X.alloc (.cells cs t)) t' cs'
  rw [World.size_alloc] at this
  exact (this.heap hY).below b

theorem bk_of3 {X Y w' : World} {t t' t'' : TypeId} {cs cs' cs'' : Array Value} (hY : Y.heap = (((X.alloc (.cells cs t)).alloc (.cells cs' t')).alloc (.cells cs'' t'')).heap) (b : Below Y.heap.size Y w') :
    Bk w' X.heap.size t cs ∧ Bk w' (X.heap.size + 1) t' cs' ∧ Bk w' (X.heap.size + 1 + 1) t'' cs'' := by
  have h2 := Bk.new (X.alloc (.cells cs t)) t' cs'
  have h3 := Bk.new ((X.alloc (.cells cs t)).alloc (.cells cs' t')) t'' cs''
  rw [World.size_alloc] at h2
  rw [World.size_alloc, World.size_alloc] at h3
  exact ⟨((((Bk.new X t cs).alloc _).alloc _).heap hY).below b, ((h2.alloc _).heap hY).below b, (h3.heap hY).below b⟩

section
variable {X w' : World} {t t' t'' : TypeId} {cs cs' cs'' : Array Value} {C : Prop}
theorem bkA1 (b : Below (X.alloc (.cells cs t)).heap.size (X.alloc (.cells cs t)) w') (k : Bk w' X.heap.size t cs → C) : C := by
  have h := bk_of1 (X := X) (Y := (X.alloc (.cells cs t))) (w' := w') (t := t) (cs := cs) rfl b
  exact k h
theorem bkA1d (b : Below (X.alloc (.cells cs t)).drew.heap.size (X.alloc (.cells cs t)).drew w') (k : Bk w' X.heap.size t cs → C) : C := by
  have h := bk_of1 (X := X) (Y := (X.alloc (.cells cs t)).drew) (w' := w') (t := t) (cs := cs) rfl b
  exact k h
theorem bkA2 (b : Below ((X.alloc (.cells cs t)).alloc (.cells cs' t')).heap.size ((X.alloc (.cells cs t)).alloc (.cells cs' t')) w') (k : Bk w' X.heap.size t cs → Bk w' (X.heap.size + 1) t' cs' → C) : C := by
  have h := bk_of2 (X := X) (Y := ((X.alloc (.cells cs t)).alloc (.cells cs' t'))) (w' := w') (t := t) (cs := cs) (t' := t') (cs' := cs') rfl b
  exact k h.1 h.2
theorem bkA2d (b : Below ((X.alloc (.cells cs t)).alloc (.cells cs' t')).drew.heap.size ((X.alloc (.cells cs t)).alloc (.cells cs' t')).drew w') (k : Bk w' X.heap.size t cs → Bk w' (X.heap.size + 1) t' cs' → C) : C := by
  have h := bk_of2 (X := X) (Y := ((X.alloc (.cells cs t)).alloc (.cells cs' t')).drew) (w' := w') (t := t) (cs := cs) (t' := t') (cs' := cs') rfl b
  exact k h.1 h.2
theorem bkA3d (b : Below (((X.alloc (.cells cs t)).alloc (.cells cs' t')).alloc (.cells cs'' t'')).drew.heap.size (((X.alloc (.cells cs t)).alloc (.cells cs' t')).alloc (.cells cs'' t'')).drew w') (k : Bk w' X.heap.size t cs → Bk w' (X.heap.size + 1) t' cs' → Bk w' (X.heap.size + 1 + 1) t'' cs'' → C) : C := by
  have h := bk_of3 (X := X) (Y := (((X.alloc (.cells cs t)).alloc (.cells cs' t')).alloc (.cells cs'' t'')).drew) (w' := w') (t := t) (cs := cs) (t' := t') (cs' := cs') (t'' := t'') (cs'' := cs'') rfl b
  exact k h.1 h.2.1 h.2.2
end

/-- Behind 'all, none := ..': two variables in new blocks. -/
def AllNone (w : World) (g m : Nat) (A1 B1 : Option Addr) (c1 d1 : Nat) (dn : Bool) (lf : Int) (D : Dk) (s4 s5 : Value) (wr : World) : Prop :=
  ∃ ga gn A3 c3 B3 d3 A4 c4 B4 d4, s4 = .pointer (some ⟨ga, 0, none⟩) ∧ s5 = .pointer (some ⟨gn, 0, none⟩) ∧ Bk wr ga 28 #[.slice A3 6 c3, .slice B3 0 d3, .bool false, .int .i64 (-1)] ∧ Bk wr gn 28 #[.slice A4 6 c4, .slice B4 0 d4, .bool false, .int .i64 (-1)] ∧
    Bk wr g 28 #[.slice A1 6 c1, .slice B1 m d1, .bool dn, .int .i64 lf] ∧ IsDk wr (.agg #[.slice A3 6 c3, .slice B3 0 d3, .bool false, .int .i64 (-1)]) (startD D [true] (-1) 0) ∧ IsDk wr (.agg #[.slice A4 6 c4, .slice B4 0 d4, .bool false, .int .i64 (-1)]) (startD D [] (-1) 0) ∧ IsDk wr (.agg #[.slice A1 6 c1, .slice B1 m d1, .bool dn, .int .i64 lf]) D ∧ Below w.heap.size w wr ∧ ga ≠ g ∧ gn ≠ g

section
variable {w w4 : World} {g m : Nat} {A1 B1 : Option Addr} {c1 d1 : Nat} {dn : Bool} {lf : Int} {D : Dk} {A3 B3 A4 B4 : Option Addr} {c3 d3 c4 d4 : Nat}

theorem fin1a (hk : Bk w4 g 28 #[.slice A1 6 c1, .slice B1 m d1, .bool dn, .int .i64 lf]) (va : IsDk w4 (.agg #[.slice A3 6 c3, .slice B3 0 d3, .bool false, .int .i64 (-1)]) (startD D [true] (-1) 0)) (vn : IsDk w4 (.agg #[.slice A4 6 c4, .slice B4 0 d4, .bool false, .int .i64 (-1)]) (startD D [] (-1) 0)) (vd : IsDk w4 (.agg #[.slice A1 6 c1, .slice B1 m d1, .bool dn, .int .i64 lf]) D) (t4 : Below w.heap.size w w4) : AllNone w g m A1 B1 c1 d1 dn lf D (.pointer (some ⟨w4.heap.size, 0, none⟩)) (.pointer (some ⟨w4.heap.size + 1, 0, none⟩)) (World.alloc (World.alloc w4 (.cells #[.slice A3 6 c3, .slice B3 0 d3, .bool false, .int .i64 (-1)] 28)) (.cells #[.slice A4 6 c4, .slice B4 0 d4, .bool false, .int .i64 (-1)] 28)) := by
  have b1 : Below w4.heap.size w4 (World.alloc w4 (.cells #[.slice A3 6 c3, .slice B3 0 d3, .bool false, .int .i64 (-1)] 28)) := (Below.refl _ _).alloc (Nat.le_refl _) _
  have b2 : Below w4.heap.size w4 (World.alloc (World.alloc w4 (.cells #[.slice A3 6 c3, .slice B3 0 d3, .bool false, .int .i64 (-1)] 28)) (.cells #[.slice A4 6 c4, .slice B4 0 d4, .bool false, .int .i64 (-1)] 28)) := b1.alloc (by simp) _
  have l := hk.lt
  have z := Bk.new (World.alloc w4 (.cells #[.slice A3 6 c3, .slice B3 0 d3, .bool false, .int .i64 (-1)] 28)) 28 #[.slice A4 6 c4, .slice B4 0 d4, .bool false, .int .i64 (-1)]
  rw [World.size_alloc] at z
  exact ⟨_, _, A3, c3, B3, d3, A4, c4, B4, d4, rfl, rfl, (Bk.new w4 _ _).alloc _, z, hk.below b2, va.below b2, vn.below b2, vd.below b2, bnext t4 b2, by omega, by omega⟩

theorem fin1b (hk : Bk w4 g 28 #[.slice A1 6 c1, .slice B1 m d1, .bool dn, .int .i64 lf]) (va : IsDk w4 (.agg #[.slice A3 6 c3, .slice B3 0 d3, .bool false, .int .i64 (-1)]) (startD D [true] (-1) 0)) (vn : IsDk w4 (.agg #[.slice A4 6 c4, .slice B4 0 d4, .bool false, .int .i64 (-1)]) (startD D [] (-1) 0)) (vd : IsDk w4 (.agg #[.slice A1 6 c1, .slice B1 m d1, .bool dn, .int .i64 lf]) D) (t4 : Below w.heap.size w w4) : AllNone w g m A1 B1 c1 d1 dn lf D (.pointer (some ⟨w4.heap.size + 1, 0, none⟩)) (.pointer (some ⟨w4.heap.size, 0, none⟩)) (World.alloc (World.alloc w4 (.cells #[.slice A4 6 c4, .slice B4 0 d4, .bool false, .int .i64 (-1)] 28)) (.cells #[.slice A3 6 c3, .slice B3 0 d3, .bool false, .int .i64 (-1)] 28)) := by
  have b1 : Below w4.heap.size w4 (World.alloc w4 (.cells #[.slice A4 6 c4, .slice B4 0 d4, .bool false, .int .i64 (-1)] 28)) := (Below.refl _ _).alloc (Nat.le_refl _) _
  have b2 : Below w4.heap.size w4 (World.alloc (World.alloc w4 (.cells #[.slice A4 6 c4, .slice B4 0 d4, .bool false, .int .i64 (-1)] 28)) (.cells #[.slice A3 6 c3, .slice B3 0 d3, .bool false, .int .i64 (-1)] 28)) := b1.alloc (by simp) _
  have l := hk.lt
  have z := Bk.new (World.alloc w4 (.cells #[.slice A4 6 c4, .slice B4 0 d4, .bool false, .int .i64 (-1)] 28)) 28 #[.slice A3 6 c3, .slice B3 0 d3, .bool false, .int .i64 (-1)]
  rw [World.size_alloc] at z
  exact ⟨_, _, A3, c3, B3, d3, A4, c4, B4, d4, rfl, rfl, z, (Bk.new w4 _ _).alloc _, hk.below b2, va.below b2, vn.below b2, vd.below b2, bnext t4 b2, by omega, by omega⟩

theorem fin2a (hk : Bk w4 g 28 #[.slice A1 6 c1, .slice B1 m d1, .bool dn, .int .i64 lf]) (va : IsDk w4 (.agg #[.slice A3 6 c3, .slice B3 0 d3, .bool false, .int .i64 (-1)]) (startD D [true] (-1) 0)) (vn : IsDk w4 (.agg #[.slice A4 6 c4, .slice B4 0 d4, .bool false, .int .i64 (-1)]) (startD D [] (-1) 0)) (vd : IsDk w4 (.agg #[.slice A1 6 c1, .slice B1 m d1, .bool dn, .int .i64 lf]) D) (t4 : Below w.heap.size w w4) {ga : Nat} (za : Bk w4 ga 28 #[.slice none 0 0, .slice none 0 0, .bool false, .int .i64 0]) (hga : ga ≠ g) (hge : w.heap.size ≤ ga) : AllNone w g m A1 B1 c1 d1 dn lf D (.pointer (some ⟨ga, 0, none⟩)) (.pointer (some ⟨w4.heap.size, 0, none⟩)) (World.alloc (World.setCell (World.setCell (World.setCell (World.setCell w4 ⟨ga, 0, none⟩ (.slice A3 6 c3)) ⟨ga, 1, none⟩ (.slice B3 0 d3)) ⟨ga, 2, none⟩ (.bool false)) ⟨ga, 3, none⟩ (.int .i64 (-1))) (.cells #[.slice A4 6 c4, .slice B4 0 d4, .bool false, .int .i64 (-1)] 28)) := by
  have b2 : Below (World.setCell (World.setCell (World.setCell (World.setCell w4 ⟨ga, 0, none⟩ (.slice A3 6 c3)) ⟨ga, 1, none⟩ (.slice B3 0 d3)) ⟨ga, 2, none⟩ (.bool false)) ⟨ga, 3, none⟩ (.int .i64 (-1))).heap.size (World.setCell (World.setCell (World.setCell (World.setCell w4 ⟨ga, 0, none⟩ (.slice A3 6 c3)) ⟨ga, 1, none⟩ (.slice B3 0 d3)) ⟨ga, 2, none⟩ (.bool false)) ⟨ga, 3, none⟩ (.int .i64 (-1))) (World.alloc (World.setCell (World.setCell (World.setCell (World.setCell w4 ⟨ga, 0, none⟩ (.slice A3 6 c3)) ⟨ga, 1, none⟩ (.slice B3 0 d3)) ⟨ga, 2, none⟩ (.bool false)) ⟨ga, 3, none⟩ (.int .i64 (-1))) (.cells #[.slice A4 6 c4, .slice B4 0 d4, .bool false, .int .i64 (-1)] 28)) := (Below.refl _ _).alloc (Nat.le_refl _) _
  have l := hk.lt
  have z := Bk.new (World.setCell (World.setCell (World.setCell (World.setCell w4 ⟨ga, 0, none⟩ (.slice A3 6 c3)) ⟨ga, 1, none⟩ (.slice B3 0 d3)) ⟨ga, 2, none⟩ (.bool false)) ⟨ga, 3, none⟩ (.int .i64 (-1))) 28 #[.slice A4 6 c4, .slice B4 0 d4, .bool false, .int .i64 (-1)]
  have e : (World.setCell (World.setCell (World.setCell (World.setCell w4 ⟨ga, 0, none⟩ (.slice A3 6 c3)) ⟨ga, 1, none⟩ (.slice B3 0 d3)) ⟨ga, 2, none⟩ (.bool false)) ⟨ga, 3, none⟩ (.int .i64 (-1))).heap.size = w4.heap.size := by simp [World.setCell]
  rw [e] at z
  exact ⟨_, _, A3, c3, B3, d3, A4, c4, B4, d4, rfl, rfl, (za.store4 _ _ _ _).alloc _, z, (far4 hk hga.symm).below b2, (va.store4 za _ _ _ _).below b2, (vn.store4 za _ _ _ _).below b2, (vd.store4 za _ _ _ _).below b2, bnext (bset4 t4 hge) b2, hga, by omega⟩

theorem fin2b (hk : Bk w4 g 28 #[.slice A1 6 c1, .slice B1 m d1, .bool dn, .int .i64 lf]) (va : IsDk w4 (.agg #[.slice A3 6 c3, .slice B3 0 d3, .bool false, .int .i64 (-1)]) (startD D [true] (-1) 0)) (vn : IsDk w4 (.agg #[.slice A4 6 c4, .slice B4 0 d4, .bool false, .int .i64 (-1)]) (startD D [] (-1) 0)) (vd : IsDk w4 (.agg #[.slice A1 6 c1, .slice B1 m d1, .bool dn, .int .i64 lf]) D) (t4 : Below w.heap.size w w4) {gn : Nat} (za : Bk w4 gn 28 #[.slice none 0 0, .slice none 0 0, .bool false, .int .i64 0]) (hga : gn ≠ g) (hge : w.heap.size ≤ gn) : AllNone w g m A1 B1 c1 d1 dn lf D (.pointer (some ⟨w4.heap.size, 0, none⟩)) (.pointer (some ⟨gn, 0, none⟩)) (World.alloc (World.setCell (World.setCell (World.setCell (World.setCell w4 ⟨gn, 0, none⟩ (.slice A4 6 c4)) ⟨gn, 1, none⟩ (.slice B4 0 d4)) ⟨gn, 2, none⟩ (.bool false)) ⟨gn, 3, none⟩ (.int .i64 (-1))) (.cells #[.slice A3 6 c3, .slice B3 0 d3, .bool false, .int .i64 (-1)] 28)) := by
  have b2 : Below (World.setCell (World.setCell (World.setCell (World.setCell w4 ⟨gn, 0, none⟩ (.slice A4 6 c4)) ⟨gn, 1, none⟩ (.slice B4 0 d4)) ⟨gn, 2, none⟩ (.bool false)) ⟨gn, 3, none⟩ (.int .i64 (-1))).heap.size (World.setCell (World.setCell (World.setCell (World.setCell w4 ⟨gn, 0, none⟩ (.slice A4 6 c4)) ⟨gn, 1, none⟩ (.slice B4 0 d4)) ⟨gn, 2, none⟩ (.bool false)) ⟨gn, 3, none⟩ (.int .i64 (-1))) (World.alloc (World.setCell (World.setCell (World.setCell (World.setCell w4 ⟨gn, 0, none⟩ (.slice A4 6 c4)) ⟨gn, 1, none⟩ (.slice B4 0 d4)) ⟨gn, 2, none⟩ (.bool false)) ⟨gn, 3, none⟩ (.int .i64 (-1))) (.cells #[.slice A3 6 c3, .slice B3 0 d3, .bool false, .int .i64 (-1)] 28)) := (Below.refl _ _).alloc (Nat.le_refl _) _
  have l := hk.lt
  have z := Bk.new (World.setCell (World.setCell (World.setCell (World.setCell w4 ⟨gn, 0, none⟩ (.slice A4 6 c4)) ⟨gn, 1, none⟩ (.slice B4 0 d4)) ⟨gn, 2, none⟩ (.bool false)) ⟨gn, 3, none⟩ (.int .i64 (-1))) 28 #[.slice A3 6 c3, .slice B3 0 d3, .bool false, .int .i64 (-1)]
  have e : (World.setCell (World.setCell (World.setCell (World.setCell w4 ⟨gn, 0, none⟩ (.slice A4 6 c4)) ⟨gn, 1, none⟩ (.slice B4 0 d4)) ⟨gn, 2, none⟩ (.bool false)) ⟨gn, 3, none⟩ (.int .i64 (-1))).heap.size = w4.heap.size := by simp [World.setCell]
  rw [e] at z
  exact ⟨_, _, A3, c3, B3, d3, A4, c4, B4, d4, rfl, rfl, z, (za.store4 _ _ _ _).alloc _, (far4 hk hga.symm).below b2, (va.store4 za _ _ _ _).below b2, (vn.store4 za _ _ _ _).below b2, (vd.store4 za _ _ _ _).below b2, bnext (bset4 t4 hge) b2, by omega, hga⟩

theorem fin3 (hk : Bk w4 g 28 #[.slice A1 6 c1, .slice B1 m d1, .bool dn, .int .i64 lf]) (va : IsDk w4 (.agg #[.slice A3 6 c3, .slice B3 0 d3, .bool false, .int .i64 (-1)]) (startD D [true] (-1) 0)) (vn : IsDk w4 (.agg #[.slice A4 6 c4, .slice B4 0 d4, .bool false, .int .i64 (-1)]) (startD D [] (-1) 0)) (vd : IsDk w4 (.agg #[.slice A1 6 c1, .slice B1 m d1, .bool dn, .int .i64 lf]) D) (t4 : Below w.heap.size w w4) {ga gn : Nat} (za : Bk w4 ga 28 #[.slice none 0 0, .slice none 0 0, .bool false, .int .i64 0]) (zn : Bk w4 gn 28 #[.slice none 0 0, .slice none 0 0, .bool false, .int .i64 0]) (hne : ga ≠ gn) (hga : ga ≠ g) (hgn : gn ≠ g) (hge : w.heap.size ≤ ga) (hge' : w.heap.size ≤ gn) :
    AllNone w g m A1 B1 c1 d1 dn lf D (.pointer (some ⟨ga, 0, none⟩)) (.pointer (some ⟨gn, 0, none⟩)) (World.setCell (World.setCell (World.setCell (World.setCell (World.setCell (World.setCell (World.setCell (World.setCell w4 ⟨ga, 0, none⟩ (.slice A3 6 c3)) ⟨ga, 1, none⟩ (.slice B3 0 d3)) ⟨ga, 2, none⟩ (.bool false)) ⟨ga, 3, none⟩ (.int .i64 (-1))) ⟨gn, 0, none⟩ (.slice A4 6 c4)) ⟨gn, 1, none⟩ (.slice B4 0 d4)) ⟨gn, 2, none⟩ (.bool false)) ⟨gn, 3, none⟩ (.int .i64 (-1))) := by
  have zn' := far4 zn hne.symm (x0 := .slice A3 6 c3) (x1 := .slice B3 0 d3) (x2 := .bool false) (x3 := .int .i64 (-1))
  exact ⟨_, _, A3, c3, B3, d3, A4, c4, B4, d4, rfl, rfl, far4 (za.store4 _ _ _ _) hne, zn'.store4 _ _ _ _, far4 (far4 hk hga.symm) hgn.symm, (va.store4 za _ _ _ _).store4 zn' _ _ _ _, (vn.store4 za _ _ _ _).store4 zn' _ _ _ _, (vd.store4 za _ _ _ _).store4 zn' _ _ _ _, bset4 (bset4 t4 hge) hge', hga, hgn⟩
end

end Go.Proofs.Ythcfncpkeldapaa
