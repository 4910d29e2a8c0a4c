/-
  How an argument that is a mark, or a list of changes, reads as plain data. No conditions.
-/
import Derived.Test.YtgoamkneenmbgaaOpenEn
import Derived.Test.YtgoamkneenmbgaaOpenBo
import Derived.Test.YtgoamkneenmbgaaChgM
namespace Go.Proofs.Ytgoamkneenmbgaa
open Go.RowKit Go.ChangeShapes Go.WideShapes Go.ChangeAt Go.Deep

section
variable {H : Type} {enc : TypeId × Value → H} {w : World} {base : Nat} {spare : Nat → Bool} {held : Bool}

theorem cMark : Try.prog.cellsOf 25 = 9 := by kernel_rfl
theorem cChg : Try.prog.cellsOf 36 = 10 := by kernel_rfl
theorem cBool13 : Try.prog.cellsOf 4 = 1 := by kernel_rfl
theorem cSlE : Try.prog.cellsOf 22 = 1 := by kernel_rfl
theorem cSlB : Try.prog.cellsOf 23 = 1 := by kernel_rfl

theorem nine_of {α : Type} : ∀ {l : List α}, l.length = 9 → ∃ a b c d e f g h i, l = [a, b, c, d, e, f, g, h, i]
  | [a, b, c, d, e, f, g, h, i], _ => ⟨a, b, c, d, e, f, g, h, i, rfl⟩

theorem open_mark {b0 : Nat} {r : Reach} {v : Value} {d : DataW H} {p : List MemPlace} (hv : Value.okWide Try.prog w r b0 25 v) (h : DataW.Trod enc Try.prog w base spare held 25 v d p) :
    ∃ (on : Bool) (a1 a2 a3 a4 a5 a6 : Int) (old : List Ent) (kept : List Bool) (oA : Option Addr) (no oc : Nat) (kA : Option Addr) (nk kc : Nat), v = .agg (mkC on a1 a2 a3 a4 a5 a6 (.slice oA no oc) (.slice kA nk kc)) ∧ MkIn w old kept oA no oc kA nk kc := by
  obtain ⟨cs, rfl, hsz⟩ := okWide_struct Try.underlying25 hv
  obtain ⟨fuel, hf⟩ := h
  obtain ⟨xs, n, _, _, hl, hlen, hfs⟩ := DataW.trod_struct Try.underlying25 hf
  rw [cMark] at hsz
  obtain ⟨l⟩ := cs
  obtain ⟨c0, c1, c2, c3, c4, c5, c6, c7, c8, rfl⟩ := nine_of (l := l) (by simpa using hsz)
  have g0 : ∃ y, DataW.trod enc Try.prog w base spare held n 4 [c0] = some y := ⟨xs[0]'(by rw [hlen]; decide), by
    have := hfs 0 _ rfl
    simpa [Value.cells, cBool13, hlen] using this⟩
  have g1 : ∃ y, DataW.trod enc Try.prog w base spare held n 3 [c1] = some y := ⟨xs[1]'(by rw [hlen]; decide), by
    have := hfs 1 _ rfl
    simpa [Value.cells, cellsInt, hlen] using this⟩
  have g2 : ∃ y, DataW.trod enc Try.prog w base spare held n 3 [c2] = some y := ⟨xs[2]'(by rw [hlen]; decide), by
    have := hfs 2 _ rfl
    simpa [Value.cells, cellsInt, hlen] using this⟩
  have g3 : ∃ y, DataW.trod enc Try.prog w base spare held n 3 [c3] = some y := ⟨xs[3]'(by rw [hlen]; decide), by
    have := hfs 3 _ rfl
    simpa [Value.cells, cellsInt, hlen] using this⟩
  have g4 : ∃ y, DataW.trod enc Try.prog w base spare held n 3 [c4] = some y := ⟨xs[4]'(by rw [hlen]; decide), by
    have := hfs 4 _ rfl
    simpa [Value.cells, cellsInt, hlen] using this⟩
  have g5 : ∃ y, DataW.trod enc Try.prog w base spare held n 3 [c5] = some y := ⟨xs[5]'(by rw [hlen]; decide), by
    have := hfs 5 _ rfl
    simpa [Value.cells, cellsInt, hlen] using this⟩
  have g6 : ∃ y, DataW.trod enc Try.prog w base spare held n 3 [c6] = some y := ⟨xs[6]'(by rw [hlen]; decide), by
    have := hfs 6 _ rfl
    simpa [Value.cells, cellsInt, hlen] using this⟩
  have g7 : ∃ y, DataW.trod enc Try.prog w base spare held n 22 [c7] = some y := ⟨xs[7]'(by rw [hlen]; decide), by
    have := hfs 7 _ rfl
    simpa [Value.cells, cSlE, hlen] using this⟩
  have g8 : ∃ y, DataW.trod enc Try.prog w base spare held n 23 [c8] = some y := ⟨xs[8]'(by rw [hlen]; decide), by
    have := hfs 8 _ rfl
    simpa [Value.cells, cSlB, hlen] using this⟩
  obtain ⟨y0, g0⟩ := g0
  obtain ⟨y1, g1⟩ := g1
  obtain ⟨y2, g2⟩ := g2
  obtain ⟨y3, g3⟩ := g3
  obtain ⟨y4, g4⟩ := g4
  obtain ⟨y5, g5⟩ := g5
  obtain ⟨y6, g6⟩ := g6
  obtain ⟨y7, g7⟩ := g7
  obtain ⟨y8, g8⟩ := g8
  obtain ⟨on, e0, _⟩ := DataW.trod_bool Try.underlying4 g0
  obtain ⟨a1, e1, _, _⟩ := DataW.trod_int Try.underlying3 g1
  obtain ⟨a2, e2, _, _⟩ := DataW.trod_int Try.underlying3 g2
  obtain ⟨a3, e3, _, _⟩ := DataW.trod_int Try.underlying3 g3
  obtain ⟨a4, e4, _, _⟩ := DataW.trod_int Try.underlying3 g4
  obtain ⟨a5, e5, _, _⟩ := DataW.trod_int Try.underlying3 g5
  obtain ⟨a6, e6, _, _⟩ := DataW.trod_int Try.underlying3 g6
  obtain ⟨oA, no, oc, e7⟩ := Go.Joins.slice_form Try.underlying22 g7
  obtain ⟨kA, nk, kc, e8⟩ := Go.Joins.slice_form Try.underlying23 g8
  injection e0 with e0 _
  injection e1 with e1 _
  injection e2 with e2 _
  injection e3 with e3 _
  injection e4 with e4 _
  injection e5 with e5 _
  injection e6 with e6 _
  injection e7 with e7 _
  injection e8 with e8 _
  subst e0
  subst e1
  subst e2
  subst e3
  subst e4
  subst e5
  subst e6
  subst e7
  subst e8
  obtain ⟨l7, k7, i7, j7, -⟩ := open_ents (w := w) (A := oA) (n := no) (c := oc) (d := y7.1) (p := y7.2) ⟨n, by simpa [Value.cells] using g7⟩
  obtain ⟨l8, k8, i8, -⟩ := open_bools (w := w) (A := kA) (n := nk) (c := kc) (d := y8.1) (p := y8.2) ⟨n, by simpa [Value.cells] using g8⟩
  refine ⟨on, a1, a2, a3, a4, a5, a6, l7, l8, oA, no, oc, kA, nk, kc, rfl, k7.symm, k8.symm, j7, ?_, ?_⟩
  · unfold Ents at i7
    rw [← k7] at i7
    exact i7
  · unfold Bools at i8
    rw [← k8] at i8
    exact i8

theorem open_chg {fuel : Nat} {cs : List Value} {x : DataW H × List MemPlace} (h : DataW.trod enc Try.prog w base spare held fuel 36 cs = some x) :
    ∃ c : Chg, cs = (chI c).map (.int .i64) ∧ c.to.cells.length = 8 ∧ (-9223372036854775808 ≤ c.at_ ∧ c.at_ ≤ 9223372036854775807) := by
  obtain ⟨y0, y1, n, hx, hl, h0, h1⟩ := trod_struct2 Try.underlying36 h
  rw [cChg] at hl
  have h0' : DataW.trod enc Try.prog w base spare held n 3 ((cs.drop 0).take (Try.prog.cellsOf 3)) = some y0 := h0
  have h1' : DataW.trod enc Try.prog w base spare held n 34 ((cs.drop 1).take (Try.prog.cellsOf 34)) = some y1 := h1
  rw [cellsInt, List.drop_zero] at h0'
  rw [cEnt] at h1'
  obtain ⟨s, hs, _, hw⟩ := DataW.trod_int Try.underlying3 h0'
  obtain ⟨e, he, h8⟩ := open_ent h1'
  refine ⟨⟨s, e⟩, ?_, h8, bounds_i64 hw⟩
  have hd : (cs.drop 1).take 9 = cs.drop 1 := List.take_of_length_le (by simp; omega)
  rw [hd] at he
  unfold chI
  rw [List.map_cons, ← he, ← List.take_append_drop 1 cs, hs]
  simp

theorem open_chgs {A : Option Addr} {n c : Nat} {d : DataW H} {p : List MemPlace} (h : DataW.Trod enc Try.prog w base spare held 26 (.slice A n c) d p) :
    ∃ l : List Chg, n = l.length ∧ Chgs w A c l ∧ EightC l := by
  obtain ⟨fuel, hf⟩ := h
  rcases open_slice Try.underlying26 hf with ⟨hcs, _⟩ | ⟨a, len, cap, m, nf, D, Pl, hcs, _, hl, hm, hmm, _, hi⟩
  · simp [Value.cells] at hcs
    obtain ⟨rfl, rfl, rfl⟩ := hcs
    exact ⟨[], rfl, ⟨rfl, Nat.le_refl _, fun _ => ⟨rfl, rfl⟩, fun h => absurd h (by simp)⟩, (fun e he => by simp at he)⟩
  · simp [Value.cells] at hcs
    obtain ⟨rfl, rfl, rfl⟩ := hcs
    have hlm : n ≤ m := by rw [hmm]; split <;> omega
    have key : ∀ i, i < n → ∃ y : Chg, y.to.cells.length = 8 ∧ ∀ j, j < 10 → w.cell? (a.add (i * 10 + j)) = some (.int .i64 ((chI y)[j]?.getD 0)) := by
      intro i hil
      obtain ⟨cs', hcs, ht⟩ := hi i (by omega)
      obtain ⟨y, rfl, h8, -⟩ := open_chg ht
      rw [cChg] at hcs
      obtain ⟨_, _, hat⟩ := World.cells?_some hcs
      have h9 := chI_length h8
      refine ⟨y, h8, fun j hj => ?_⟩
      have h0 := hat j (by omega)
      rw [Go.Deep.add_add] at h0
      rw [h0]
      simp [show j < (chI y).length by omega]
    letI : Inhabited Chg := ⟨chZ⟩
    obtain ⟨f, hf⟩ := choose_lt key
    have h8 : EightC ((List.range n).map f) := fun b hb => by
      obtain ⟨i, hi, rfl⟩ := List.mem_map.1 hb
      exact (hf i (by simpa using hi)).1
    have hlen : ((List.range n).map f).length = n := by simp
    refine ⟨(List.range n).map f, hlen.symm, ?_, h8⟩
    unfold Chgs
    rw [hlen]
    refine ⟨by rw [chW_length h8, hlen], hl, (fun h => by cases h), fun hn => ?_⟩
    obtain ⟨b, off, rfl, hlt⟩ := addr_plain ((hf 0 hn).2 0 (by omega))
    refine ⟨b, off, rfl, hlt, fun j hj => ?_⟩
    have hat := (hf (j / 10) (by omega)).2 (j % 10) (by omega)
    have he := chW_at h8 (i := j / 10) (by rw [hlen]; omega) (j := j % 10) (by omega)
    have hj9 : j / 10 * 10 + j % 10 = j := by omega
    rw [hj9] at hat he
    rw [Addr.add_lit] at hat
    rw [he, hat, List.getElem?_map, List.getElem?_range (by omega)]
    rfl

end
end Go.Proofs.Ytgoamkneenmbgaa
