/-
  The builder of a text's instructions in memory; what typed and the builder's next answer, in whatever memory. No conditions but those that stand there.
-/
import Derived.Test.YtjbhhlhaikmecaaDoorAsmM
namespace Go.Proofs.YtjbhhlhaikmecaaDoor
open Go.RowKit

def insW (x : Ins) : List Value := [.int .i64 x.op, .int .i64 x.a, .int .i64 x.b]
def inssW (l : List Ins) : List Value := l.flatMap insW
theorem inssW_snoc (l : List Ins) (x : Ins) : inssW (l ++ [x]) = inssW l ++ insW x := by simp [inssW]
def jmpW (p : Nat × List Nat) : List Value := [.int .i64 (p.1 : Nat), .string (strL p.2)]
def jmpsW (l : List (Nat × List Nat)) : List Value := l.flatMap jmpW
theorem jmpsW_snoc (l : List (Nat × List Nat)) (x : Nat × List Nat) : jmpsW (l ++ [x]) = jmpsW l ++ jmpW x := by simp [jmpsW]

/-! ### assertions -/
theorem asW_W (v : Value) (W : World) : (Instr.typeAssert (.iface 75 v) 20 75 true).run Tryd.prog W = .ok (.tuple #[v, .bool true]) W := by kernel_rfl
theorem beW_W (v : Value) (W : World) : (Instr.typeAssert (.iface 75 v) 20 75 false).run Tryd.prog W = .ok v W := by kernel_rfl
theorem asW_L (v : Value) (W : World) : (Instr.typeAssert (.iface 73 v) 20 75 true).run Tryd.prog W = .ok (.tuple #[.string ⟨#[]⟩, .bool false]) W := by kernel_rfl
theorem asW_N (v : Value) (W : World) : (Instr.typeAssert (.iface 90 v) 20 75 true).run Tryd.prog W = .ok (.tuple #[.string ⟨#[]⟩, .bool false]) W := by kernel_rfl
theorem asW_nil (W : World) : (Instr.typeAssert .nilIface 20 75 true).run Tryd.prog W = .ok (.tuple #[.string ⟨#[]⟩, .bool false]) W := by kernel_rfl
theorem asL_W (v : Value) (W : World) : (Instr.typeAssert (.iface 75 v) 20 73 true).run Tryd.prog W = .ok (.tuple #[.string ⟨#[]⟩, .bool false]) W := by kernel_rfl
theorem asL_L (v : Value) (W : World) : (Instr.typeAssert (.iface 73 v) 20 73 true).run Tryd.prog W = .ok (.tuple #[v, .bool true]) W := by kernel_rfl
theorem beL_L (v : Value) (W : World) : (Instr.typeAssert (.iface 73 v) 20 73 false).run Tryd.prog W = .ok v W := by kernel_rfl
theorem asL_N (v : Value) (W : World) : (Instr.typeAssert (.iface 90 v) 20 73 true).run Tryd.prog W = .ok (.tuple #[.string ⟨#[]⟩, .bool false]) W := by kernel_rfl
theorem asL_nil (W : World) : (Instr.typeAssert .nilIface 20 73 true).run Tryd.prog W = .ok (.tuple #[.string ⟨#[]⟩, .bool false]) W := by kernel_rfl
theorem asN_W (v : Value) (W : World) : (Instr.typeAssert (.iface 75 v) 20 90 true).run Tryd.prog W = .ok (.tuple #[.int .i64 0, .bool false]) W := by kernel_rfl
theorem asN_L (v : Value) (W : World) : (Instr.typeAssert (.iface 73 v) 20 90 true).run Tryd.prog W = .ok (.tuple #[.int .i64 0, .bool false]) W := by kernel_rfl
theorem asN_N (v : Value) (W : World) : (Instr.typeAssert (.iface 90 v) 20 90 true).run Tryd.prog W = .ok (.tuple #[v, .bool true]) W := by kernel_rfl
theorem beN_N (v : Value) (W : World) : (Instr.typeAssert (.iface 90 v) 20 90 false).run Tryd.prog W = .ok v W := by kernel_rfl
theorem asN_nil (W : World) : (Instr.typeAssert .nilIface 20 90 true).run Tryd.prog W = .ok (.tuple #[.int .i64 0, .bool false]) W := by kernel_rfl

/-- a token as a value whose type tells what it is. -/
def anyT (t : Tok) : Value := if t.kind = 1 then .iface 75 (.string (strL t.word)) else if t.kind = 3 then .iface 73 (.string (strL t.word)) else .iface 90 (.int .i64 t.n)

theorem typed_any (t : Tok) (ht : t.kind = 1 ∨ t.kind = 2 ∨ t.kind = 3) (w : World) :
    Calls Tryd.prog 54 #[.agg #[.int .i64 (t.kind : Nat), .string (strL t.word), .int .i64 t.n]] w fun e w' => e = .returned (anyT t) ∧ Below w.heap.size w w' := by
  obtain ⟨k, wd, n⟩ := t
  simp only at ht
  rcases ht with rfl | rfl | rfl
  all_goals
    go_enter Tryd.func54, Tryd.ntmps54
    go_wp2
    go_ret
    exact ⟨rfl, (Below.refl _ _).alloc (Nat.le_refl _) _⟩

/-- the builder lies in block g, its labels in block m, its rows from B on; what is left of the text's tokens lies in a world below. -/
structure Bld (w0 w : World) (m g B : Nat) (A : Option Addr) (c : Nat) (vc vj : Value) (left : List Tok) (code : List Ins) (js : List (Nat × List Nat)) (labs : List (List Nat × Nat)) : Prop where
  bk : Bk w g 43 #[.slice A left.length c, vc, vj, .map (some m)]
  toks : Toks w0 A c left
  code : w.ownsRow B 35 3 vc code.length (inssW code)
  js : w.ownsRow B 78 2 vj js.length (jmpsW js)
  labs : Labs w m labs
  old : Below m w0 w
  wm : w0.heap.size ≤ m
  mg : m < g
  gB : g < B
  le : B ≤ w.heap.size

theorem Bld.kept {w0 w w' : World} {m g B : Nat} {A : Option Addr} {c : Nat} {vc vj : Value} {left : List Tok} {code : List Ins} {js : List (Nat × List Nat)} {labs : List (List Nat × Nat)} (h : Bld w0 w m g B A c vc vj left code js labs) (hb : Below w.heap.size w w') : Bld w0 w' m g B A c vc vj left code js labs :=
  ⟨h.bk.below hb, h.toks, own_below h.code hb, own_below h.js hb, h.labs.heap (hb.block m h.labs.lt), h.old.trans (hb.mono (Nat.le_of_lt h.labs.lt)), h.wm, h.mg, h.gB, Nat.le_trans h.le hb.size⟩

/-- the builder with other tokens left. -/
theorem Bld.setLeft {w0 w : World} {m g B : Nat} {A : Option Addr} {c : Nat} {vc vj : Value} {left : List Tok} {code : List Ins} {js : List (Nat × List Nat)} {labs : List (List Nat × Nat)} (h : Bld w0 w m g B A c vc vj left code js labs) {A' : Option Addr} {c' : Nat} {left' : List Tok} (ht : Toks w0 A' c' left') :
    Bld w0 (w.setCell ⟨g, 0, none⟩ (.slice A' left'.length c')) m g B A' c' vc vj left' code js labs := by
  have hmg := h.mg
  refine ⟨?_, ht, own_setCell h.code h.gB _ _, own_setCell h.js h.gB _ _, h.labs.heap (Below.heap_setCell w ⟨g, 0, none⟩ _ m (by simp; omega)), h.old.setCell (by simp; omega) _, h.wm, h.mg, h.gB, by simpa using h.le⟩
  have := h.bk.set 0 (.slice A' left'.length c')
  simpa using this

theorem Toks.tail {w : World} {b off c : Nat} {t : Tok} {l : List Tok} (h : Toks w (some ⟨b, off, none⟩) c (t :: l)) : Toks w (some ⟨b, off + 3, none⟩) (c - 1) l := by
  obtain ⟨h1, h2, _, h4⟩ := h
  obtain ⟨b', off', e, hb, hc⟩ := h4 (by simp)
  simp only [Option.some.injEq, Addr.mk.injEq] at e
  obtain ⟨rfl, rfl, -⟩ := e
  rw [List.length_cons] at h2
  refine ⟨toksV_length l, by omega, fun h => (by cases h), fun _ => ⟨b, off + 3, rfl, hb, fun j hj => ?_⟩⟩
  have := hc (3 + j) (by rw [List.length_cons]; omega)
  rw [← Nat.add_assoc] at this
  rw [this, Nat.add_comm 3 j]
  rfl

theorem next_none (w0 w : World) (m g B : Nat) (A : Option Addr) (c : Nat) (vc vj : Value) (code : List Ins) (js : List (Nat × List Nat)) (labs : List (List Nat × Nat)) (h : Bld w0 w m g B A c vc vj [] code js labs) :
    Calls Tryd.prog 41 #[.pointer (some ⟨g, 0, none⟩)] w fun e w' => e = .returned .nilIface ∧ w = w' := by
  obtain ⟨c0, c1, c2, c3, hf⟩ := h.bk.four
  clear h
  go_enter Tryd.func41, Tryd.ntmps41
  go_wp2
  go_ret
  exact ⟨rfl, rfl⟩

set_option maxHeartbeats 1000000 in
theorem next_some (w0 w : World) (m g B : Nat) (A : Option Addr) (c : Nat) (vc vj : Value) (t : Tok) (left : List Tok) (code : List Ins) (js : List (Nat × List Nat)) (labs : List (List Nat × Nat)) (h : Bld w0 w m g B A c vc vj (t :: left) code js labs) (ht : t.kind = 1 ∨ t.kind = 2 ∨ t.kind = 3) :
    Calls Tryd.prog 41 #[.pointer (some ⟨g, 0, none⟩)] w fun e w' => e = .returned (anyT t) ∧ (∃ A' c', Bld w0 w' m g B A' c' vc vj left code js labs) ∧ But g w w' := by
  obtain ⟨c0, c1, c2, c3, hf⟩ := h.bk.four
  obtain ⟨b, off, rfl, hb, x0, x1, x2⟩ := h.toks.cellAt (j := 0) (t := t) rfl
  have hbm : b < m := Nat.lt_of_lt_of_le hb h.wm
  have hcell : ∀ o, w.cell? ⟨b, o, none⟩ = w0.cell? ⟨b, o, none⟩ := fun o => World.cell?_of_block (h.old.block b hbm)
  have y0 := (hcell (off + 0 * 3)).trans x0
  have y1 := (hcell (off + 0 * 3 + 1)).trans x1
  have y2 := (hcell (off + 0 * 3 + 2)).trans x2
  simp only [Nat.zero_mul, Nat.add_zero] at y0 y1 y2
  have hlc : left.length + 1 ≤ c := h.toks.2.1
  have h' := Lib.hid h
  have hty := Lib.hid (typed_any t ht w)
  have hbw : b < w.heap.size := Nat.lt_of_lt_of_le hb h.old.size
  have hgw := h.bk.lt
  rw [List.length_cons] at c0
  clear h x0 x1 x2 hcell hb
  have d1 : (1 : Int) ≤ (c : Int) := by omega
  by_cases hc1 : c = 1
  · subst hc1
    obtain rfl : left = [] := List.eq_nil_of_length_eq_zero (by omega)
    go_enter Tryd.func41, Tryd.ntmps41
    go_wp2_with (go_at_call 54; go_must ((with_reducible refine hty.out.mono ?_); rintro e w1 ⟨rfl, hb1⟩; have hk1 := h'.out.bk.below hb1; have s0 := hk1.cell 0; have hf1 := fun o => hk1.frozen o; simp only [List.getElem?_toArray, List.getElem?_cons_zero, List.length_cons] at s0))
    go_ret
    exact ⟨rfl, ⟨_, 0, (h'.out.kept hb1).setLeft (left' := []) ⟨rfl, Nat.le_refl _, fun h => (by cases h), fun h => absurd h (by simp)⟩⟩, (But.of_below hb1).trans (But.set _ _ _)⟩
  · have d2 : ¬ (c : Int) = 1 := by omega
    go_enter Tryd.func41, Tryd.ntmps41
    go_wp2_with (go_at_call 54; go_must ((with_reducible refine hty.out.mono ?_); rintro e w1 ⟨rfl, hb1⟩; have hk1 := h'.out.bk.below hb1; have s0 := hk1.cell 0; have hf1 := fun o => hk1.frozen o; simp only [List.getElem?_toArray, List.getElem?_cons_zero, List.length_cons] at s0))
    go_ret
    exact ⟨rfl, ⟨_, _, (h'.out.kept hb1).setLeft h'.out.toks.tail⟩, (But.of_below hb1).trans (But.set _ _ _)⟩

theorem Bld.but {w0 w w' : World} {m g B : Nat} {A : Option Addr} {c : Nat} {vc vj : Value} {left : List Tok} {code : List Ins} {js : List (Nat × List Nat)} {labs : List (List Nat × Nat)} (h : Bld w0 w m g B A c vc vj left code js labs) (hb : But g w w') : Below m w w' :=
  hb.below (Below.refl _ _) (Nat.le_of_lt h.mg) (Nat.le_of_lt h.labs.lt)

end Go.Proofs.YtjbhhlhaikmecaaDoor
