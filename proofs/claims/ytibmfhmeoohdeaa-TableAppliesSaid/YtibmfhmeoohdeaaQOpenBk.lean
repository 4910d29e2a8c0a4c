/-
  Words and contracts of this claim, 7 texts laid into one, each under its own remark. No conditions but those that stand at each.
-/
import Derived.Test.YtibmfhmeoohdeaaZCelM
import Derived.Test.YtibmfhmeoohdeaaQStr
import Derived.ProofKit
import Derived.OpenShut
import Derived.Test.YtibmfhmeoohdeaaRows
import Derived.Deep.Slices
import Derived.Test.YtibmfhmeoohdeaaZIntS
import Derived.Test.YtibmfhmeoohdeaaZAsmW
import Derived.Deep.Strs
import Derived.Test.YtibmfhmeoohdeaaZCmdM
import Derived.Lib.SmallJoins
import Derived.Test.YtibmfhmeoohdeaaZMchC
import Derived.Test.YtibmfhmeoohdeaaZEntM

/-
  How an argument that is a block, or a pair of ints, reads as plain numbers. No conditions.
-/
namespace Go.Proofs.Ytibmfhmeoohdeaa
open Go.RowKit Go.ChangeShapes Go.WideShapes Go.ChangeAt

section
variable {H : Type} {enc : TypeId × Value → H} {w : World} {base : Nat} {spare : Nat → Bool} {held : Bool}

theorem open_cells {n : Nat} {t : TypeId} (ht : Try.prog.underlying t = some (.array n 3)) (hc : Try.prog.cellsOf t = n) {fuel : Nat} {cs : List Value} {x : DataW H × List MemPlace} (h : DataW.trod enc Try.prog w base spare held fuel t cs = some x) :
    ∃ l : List Int, cs = l.map (.int .i64) ∧ l.length = n ∧ inB l := by
  obtain ⟨xs, m, _, _, hlen, hxs, hf⟩ := DataW.trod_array ht h
  rw [hc] at hlen
  rw [cellsInt] at hf
  have key : ∀ i, i < n → ∃ a : Int, cs[i]? = some (.int .i64 a) ∧ -9223372036854775808 ≤ a ∧ a ≤ 9223372036854775807 := by
    intro i hi
    have g := hf i hi
    have hi' : i < cs.length := by omega
    rw [Nat.mul_one, List.drop_eq_getElem_cons hi', List.take_succ_cons, List.take_zero, List.getElem?_eq_getElem (by omega)] at g
    obtain ⟨a, e0, _, wf⟩ := DataW.trod_int Try.underlying3 g
    injection e0 with e0 _
    have hb := bounds_i64 wf
    exact ⟨a, by rw [List.getElem?_eq_getElem hi', e0], hb.1, hb.2⟩
  refine ⟨cs.map fun v => match v with | .int _ a => a | _ => 0, ?_, by simp [hlen], ?_⟩
  · apply List.ext_getElem?
    intro i
    by_cases hi : i < n
    · obtain ⟨a, ha, _⟩ := key i hi
      simp [ha]
    · rw [List.getElem?_eq_none (by omega), List.getElem?_eq_none (by simp; omega)]
  · intro y hy
    obtain ⟨v, hv, rfl⟩ := List.mem_map.1 hy
    obtain ⟨i, hi, rfl⟩ := List.getElem_of_mem hv
    obtain ⟨a, ha, h1, h2⟩ := key i (by omega)
    rw [List.getElem?_eq_getElem hi] at ha
    injection ha with ha
    rw [ha]
    exact ⟨h1, h2⟩

theorem cBlk : Try.prog.cellsOf 43 = 8 := by kernel_rfl

theorem open_block {r : Reach} {b0 : Nat} {v : Value} {d : DataW H} {p : List MemPlace} (hv : Value.okWide Try.prog w r b0 43 v) (h : DataW.Trod enc Try.prog w base spare held 43 v d p) :
    ∃ b : List Int, v = .agg (bkC b) ∧ b.length = 8 ∧ inB b := by
  obtain ⟨cs, rfl, hsz, _⟩ : ∃ cs, v = .agg cs ∧ cs.size = Try.prog.cellsOf 43 ∧ Row.okWide Try.prog w r b0 43 cs := by
    simpa [Value.okWide, Try.underlying43] using hv
  obtain ⟨fuel, hf⟩ := h
  obtain ⟨l, hl, h8, hb⟩ := open_cells Try.underlying43 cBlk hf
  refine ⟨l, ?_, h8, hb⟩
  simp only [Value.cells] at hl
  rw [bkC, ← hl]



end
end Go.Proofs.Ytibmfhmeoohdeaa

/-
  An address that has a cell is a plain one, in memory that is there. No conditions.
-/
namespace Go.Proofs.Ytibmfhmeoohdeaa

theorem addr_plain {w : World} {a : Addr} {v : Value} (h : w.cell? (a.add 0) = some v) : ∃ b off, a = ⟨b, off, none⟩ ∧ b < w.heap.size := by
  have e : a.add 0 = a := rfl
  rw [e] at h
  obtain ⟨b, off, spot⟩ := a
  obtain rfl : spot = none := World.cell?_spot h
  refine ⟨b, off, rfl, ?_⟩
  rcases Nat.lt_or_ge b w.heap.size with hlt | hge
  · exact hlt
  · simp [World.cell?, Array.getElem?_eq_none hge] at h

end Go.Proofs.Ytibmfhmeoohdeaa

/-
  How an argument that is a list of ints reads as plain numbers. No conditions.
-/
namespace Go.Proofs.Ytibmfhmeoohdeaa
open Go.RowKit Go.ChangeShapes Go.WideShapes Go.Deep

section
variable {H : Type} {enc : TypeId × Value → H} {w : World} {base : Nat} {spare : Nat → Bool} {held : Bool}

def inI64 (x : Int) : Prop := -9223372036854775808 ≤ x ∧ x ≤ 9223372036854775807

theorem Ints.nil (w : World) : Ints w none 0 [] := ⟨rfl, Nat.le_refl _, fun _ => ⟨rfl, rfl⟩, fun h => absurd h (by simp)⟩

theorem open_ints1 {A : Option Addr} {n c : Nat} {d : DataW H} {p : List MemPlace} (h : DataW.Trod enc Try.prog w base spare held 23 (.slice A n c) d p) :
    ∃ l : List Int, n = l.length ∧ Ints w A c l ∧ l.length ≤ 9223372036854775807 ∧ ∀ x ∈ l, inI64 x := by
  obtain ⟨fuel, hf⟩ := h
  rcases open_slice Try.underlying23 hf with ⟨hcs, _⟩ | ⟨a, len, cap, m, nf, D, Pl, hcs, _, hl, hm, hmm, _, hi⟩
  · simp [Value.cells] at hcs
    obtain ⟨rfl, rfl, rfl⟩ := hcs
    exact ⟨[], rfl, Ints.nil w, by simp, by simp⟩
  · simp [Value.cells] at hcs
    obtain ⟨rfl, rfl, rfl⟩ := hcs
    have hlm : n ≤ m := by rw [hmm]; split <;> omega
    have hc1 : Try.prog.cellsOf 3 = 1 := by kernel_rfl
    have key : ∀ i, i < n → ∃ x : Int, w.cell? (a.add i) = some (.int .i64 x) ∧ inI64 x := by
      intro i hil
      obtain ⟨cs', hcs, ht⟩ := hi i (by omega)
      obtain ⟨x, rfl, _, wx⟩ := DataW.trod_int Try.underlying3 ht
      rw [hc1] at hcs
      obtain ⟨_, _, hat⟩ := World.cells?_some hcs
      have := hat 0 (by omega)
      rw [Nat.mul_one, Go.Deep.add_add, Nat.add_zero] at this
      exact ⟨x, this, bounds_i64 wx⟩
    obtain ⟨f, hf⟩ := choose_lt key
    unfold maxLen at hm
    refine ⟨(List.range n).map f, by simp, ⟨by simp, by simpa using hl, fun h => by simp at h, fun hn => ?_⟩, by simp; omega, fun x hx => ?_⟩
    · simp only [List.length_map, List.length_range] at hn
      obtain ⟨b, off, rfl, hlt⟩ := addr_plain (hf 0 hn).1
      refine ⟨b, off, rfl, hlt, fun j hj => ?_⟩
      simp only [List.length_map, List.length_range, Nat.mul_one] at hj
      have := (hf j hj).1
      rw [Addr.add_lit] at this
      rw [this]
      simp [hj]
    · obtain ⟨i, hi, rfl⟩ := List.mem_map.1 hx
      exact (hf i (by simpa using hi)).2

end
end Go.Proofs.Ytibmfhmeoohdeaa

/-
  How an argument that is a list of instructions reads as plain numbers. No conditions.
-/
namespace Go.Proofs.Ytibmfhmeoohdeaa
open Go.RowKit Go.ChangeShapes Go.WideShapes Go.Deep

section
variable {H : Type} {enc : TypeId × Value → H} {w : World} {base : Nat} {spare : Nat → Bool} {held : Bool}

instance : Inhabited Ins := ⟨⟨0, 0, 0⟩⟩

theorem three_of {α : Type} : ∀ {l : List α}, l.length = 3 → ∃ a b c, l = [a, b, c]
  | [a, b, c], _ => ⟨a, b, c, rfl⟩

theorem cIntO : Try.prog.cellsOf 3 = 1 := by kernel_rfl
theorem cIns : Try.prog.cellsOf 51 = 3 := by kernel_rfl

theorem open_ins {fuel : Nat} {cs : List Value} {x : DataW H × List MemPlace} (h : DataW.trod enc Try.prog w base spare held fuel 51 cs = some x) :
    ∃ y : Ins, cs = insW y ∧ inI y := by
  obtain ⟨y0, y1, y2, n, hx, hl, h0, h1, h2⟩ := trod_struct3 Try.underlying51 h
  rw [cIns] at hl
  obtain ⟨c0, c1, c2, rfl⟩ := three_of hl
  have h0' : DataW.trod enc Try.prog w base spare held n 3 (([c0, c1, c2].drop 0).take (Try.prog.cellsOf 3)) = some y0 := h0
  have h1' : DataW.trod enc Try.prog w base spare held n 3 (([c0, c1, c2].drop 1).take (Try.prog.cellsOf 3)) = some y1 := h1
  have h2' : DataW.trod enc Try.prog w base spare held n 3 (([c0, c1, c2].drop 2).take (Try.prog.cellsOf 3)) = some y2 := h2
  rw [cIntO] at h0' h1' h2'
  simp only [List.drop_zero, List.drop_succ_cons, List.take_succ_cons, List.take_zero] at h0' h1' h2'
  obtain ⟨a, e0, _, w0⟩ := DataW.trod_int Try.underlying3 h0'
  obtain ⟨b, e1, _, w1⟩ := DataW.trod_int Try.underlying3 h1'
  obtain ⟨d, e2, _, w2⟩ := DataW.trod_int Try.underlying3 h2'
  injection e0 with e0 _
  injection e1 with e1 _
  injection e2 with e2 _
  subst e0
  subst e1
  subst e2
  exact ⟨⟨a, b, d⟩, rfl, bounds_i64 w1, bounds_i64 w2⟩

theorem inss_of {a : Addr} {n c : Nat} (f : Nat → Ins) (hl : n ≤ c) (h : ∀ i, i < n → w.cell? (a.add (i * 3)) = some (.int .i64 (f i).op) ∧ w.cell? (a.add (i * 3 + 1)) = some (.int .i64 (f i).a) ∧ w.cell? (a.add (i * 3 + 2)) = some (.int .i64 (f i).b)) :
    Inss w (some a) c ((List.range n).map f) := by
  have hlen : ((List.range n).map f).length = n := by simp
  have hsz : ∀ l : List Ins, (inssW l).length = l.length * 3 := fun l => by
    induction l with
    | nil => rfl
    | cons x l ih => rw [inssW, List.flatMap_cons, List.length_append, List.length_cons]; rw [inssW] at ih; rw [ih]; simp [insW]; omega
  refine ⟨by rw [hsz], by rw [hlen]; exact hl, fun h => (by cases h), fun hn => ?_⟩
  rw [hlen] at hn
  obtain ⟨b, off, rfl, hlt⟩ := addr_plain (by simpa using (h 0 hn).1)
  refine ⟨b, off, rfl, hlt, fun j hj => ?_⟩
  rw [hlen] at hj
  obtain ⟨g0, g1, g2⟩ := h (j / 3) (by omega)
  rw [Addr.add_lit] at g0 g1 g2
  obtain ⟨e0, e1, e2⟩ := inssW_at ((List.range n).map f) (j / 3) (by rw [hlen]; omega)
  have hin : insAt ((List.range n).map f) (j / 3) = f (j / 3) := by
    unfold insAt
    rw [List.getElem?_map, List.getElem?_range (by omega)]
    rfl
  rw [hin] at e0 e1 e2
  rcases (show j = j / 3 * 3 ∨ j = j / 3 * 3 + 1 ∨ j = j / 3 * 3 + 2 by omega) with e | e | e
  · rw [e, e0, g0]
  · rw [e, e1, g1]
  · rw [e, e2, g2]

theorem open_inss {A : Option Addr} {n c : Nat} {d : DataW H} {p : List MemPlace} (h : DataW.Trod enc Try.prog w base spare held 24 (.slice A n c) d p) :
    ∃ l : List Ins, n = l.length ∧ Inss w A c l ∧ l.length ≤ 9223372036854775807 ∧ ∀ x ∈ l, inI x := by
  obtain ⟨fuel, hf⟩ := h
  rcases open_slice Try.underlying24 hf with ⟨hcs, _⟩ | ⟨a, len, cap, m, nf, D, Pl, hcs, _, hl, hm, hmm, _, hi⟩
  · simp [Value.cells] at hcs
    obtain ⟨rfl, rfl, rfl⟩ := hcs
    exact ⟨[], rfl, Inss.nil w, by simp, by simp⟩
  · simp [Value.cells] at hcs
    obtain ⟨rfl, rfl, rfl⟩ := hcs
    have hlm : n ≤ m := by rw [hmm]; split <;> omega
    have key : ∀ i, i < n → ∃ y : Ins, w.cell? (a.add (i * 3)) = some (.int .i64 y.op) ∧ w.cell? (a.add (i * 3 + 1)) = some (.int .i64 y.a) ∧ (w.cell? (a.add (i * 3 + 2)) = some (.int .i64 y.b)) ∧ inI y := by
      intro i hil
      obtain ⟨cs', hcs, ht⟩ := hi i (by omega)
      obtain ⟨y, rfl, hy⟩ := open_ins ht
      rw [cIns] at hcs
      obtain ⟨_, _, hat⟩ := World.cells?_some hcs
      have h0 := hat 0 (by omega)
      have h1 := hat 1 (by omega)
      have h2 := hat 2 (by omega)
      rw [Go.Deep.add_add] at h0 h1 h2
      exact ⟨y, h0, h1, h2, hy⟩
    obtain ⟨f, hf⟩ := choose_lt key
    unfold maxLen at hm
    refine ⟨(List.range n).map f, by simp, inss_of f hl (fun i hi => ⟨(hf i hi).1, (hf i hi).2.1, (hf i hi).2.2.1⟩), by simp; omega, fun x hx => ?_⟩
    obtain ⟨i, hi, rfl⟩ := List.mem_map.1 hx
    exact (hf i (by simpa using hi)).2.2.2

end
end Go.Proofs.Ytibmfhmeoohdeaa

/-
  How an argument that is a command reads as plain data. No conditions.
-/
namespace Go.Proofs.Ytibmfhmeoohdeaa
open Go.RowKit Go.ChangeShapes Go.WideShapes Go.Deep

section
variable {H : Type} {enc : TypeId × Value → H} {w : World} {base : Nat} {spare : Nat → Bool} {held : Bool}

theorem cCmd : Try.prog.cellsOf 26 = 5 := by kernel_rfl
theorem cSli : Try.prog.cellsOf 23 = 1 := by kernel_rfl
theorem cSlx : Try.prog.cellsOf 24 = 1 := by kernel_rfl

theorem five_of {α : Type} : ∀ {l : List α}, l.length = 5 → ∃ a b c d e, l = [a, b, c, d, e]
  | [a, b, c, d, e], _ => ⟨a, b, c, d, e, rfl⟩

theorem open_cmd {b0 : Nat} {r : Reach} {v : Value} {d : DataW H} {p : List MemPlace} (hv : Value.okWide Try.prog w r b0 26 v) (h : DataW.Trod enc Try.prog w base spare held 26 v d p) :
    ∃ (c : Cmd) (ra : Option Addr) (nr rc : Nat) (wa : Option Addr) (nw wc : Nat) (aa : Option Addr) (na ac : Nat) (ca : Option Addr) (nc cc : Nat), v = cmV ra nr rc wa nw wc aa na ac c.fuel ca nc cc ∧ CmRaw w c ra nr rc wa nw wc aa na ac ca nc cc ∧
      (∀ x ∈ c.reads, inI64 x) ∧ (∀ x ∈ c.writes, inI64 x) ∧ (∀ x ∈ c.args, inI64 x) ∧ inI64 c.fuel ∧ (∀ x ∈ c.code, inI x) := by
  obtain ⟨cs, rfl, hsz⟩ := okWide_struct Try.underlying26 hv
  obtain ⟨fuel, hf⟩ := h
  obtain ⟨xs, n, _, _, hl, hlen, hfs⟩ := DataW.trod_struct Try.underlying26 hf
  rw [cCmd] at hsz
  obtain ⟨l⟩ := cs
  obtain ⟨c0, c1, c2, c3, c4, rfl⟩ := five_of (l := l) (by simpa using hsz)
  have g0 : ∃ y, DataW.trod enc Try.prog w base spare held n 23 [c0] = some y := ⟨xs[0]'(by rw [hlen]; decide), by
    have := hfs 0 _ rfl
    simpa [Value.cells, cSli, hlen] using this⟩
  have g1 : ∃ y, DataW.trod enc Try.prog w base spare held n 23 [c1] = some y := ⟨xs[1]'(by rw [hlen]; decide), by
    have := hfs 1 _ rfl
    simpa [Value.cells, cSli, hlen] using this⟩
  have g2 : ∃ y, DataW.trod enc Try.prog w base spare held n 23 [c2] = some y := ⟨xs[2]'(by rw [hlen]; decide), by
    have := hfs 2 _ rfl
    simpa [Value.cells, cSli, hlen] using this⟩
  have g3 : ∃ y, DataW.trod enc Try.prog w base spare held n 3 [c3] = some y := ⟨xs[3]'(by rw [hlen]; decide), by
    have := hfs 3 _ rfl
    simpa [Value.cells, cIntO, hlen] using this⟩
  have g4 : ∃ y, DataW.trod enc Try.prog w base spare held n 24 [c4] = some y := ⟨xs[4]'(by rw [hlen]; decide), by
    have := hfs 4 _ rfl
    simpa [Value.cells, cSlx, hlen] using this⟩
  obtain ⟨y0, g0⟩ := g0
  obtain ⟨y1, g1⟩ := g1
  obtain ⟨y2, g2⟩ := g2
  obtain ⟨y3, g3⟩ := g3
  obtain ⟨y4, g4⟩ := g4
  obtain ⟨ra, nr, rc, e0⟩ := Go.Joins.slice_form Try.underlying23 g0
  obtain ⟨wa, nw, wc, e1⟩ := Go.Joins.slice_form Try.underlying23 g1
  obtain ⟨aa, na, ac, e2⟩ := Go.Joins.slice_form Try.underlying23 g2
  obtain ⟨ca, nc, cc, e4⟩ := Go.Joins.slice_form Try.underlying24 g4
  obtain ⟨fu, e3, _, w3⟩ := DataW.trod_int Try.underlying3 g3
  injection e0 with e0 _
  injection e1 with e1 _
  injection e2 with e2 _
  injection e3 with e3 _
  injection e4 with e4 _
  subst e0
  subst e1
  subst e2
  subst e3
  subst e4
  obtain ⟨l0, k0, i0, _, b0⟩ := open_ints1 (w := w) (A := ra) (n := nr) (c := rc) (d := y0.1) (p := y0.2) ⟨n, by simpa [Value.cells] using g0⟩
  obtain ⟨l1, k1, i1, _, b1⟩ := open_ints1 (w := w) (A := wa) (n := nw) (c := wc) (d := y1.1) (p := y1.2) ⟨n, by simpa [Value.cells] using g1⟩
  obtain ⟨l2, k2, i2, _, b2⟩ := open_ints1 (w := w) (A := aa) (n := na) (c := ac) (d := y2.1) (p := y2.2) ⟨n, by simpa [Value.cells] using g2⟩
  obtain ⟨l4, k4, i4, _, b4⟩ := open_inss (w := w) (A := ca) (n := nc) (c := cc) (d := y4.1) (p := y4.2) ⟨n, by simpa [Value.cells] using g4⟩
  exact ⟨⟨l0, l1, l2, fu, l4⟩, ra, nr, rc, wa, nw, wc, aa, na, ac, ca, nc, cc, rfl, ⟨k0.symm, k1.symm, k2.symm, k4.symm, i0, i1, i2, i4⟩, b0, b1, b2, bounds_i64 w3, b4⟩

end
end Go.Proofs.Ytibmfhmeoohdeaa

/-
  How an argument that is a list of blocks reads as plain numbers. No conditions.
-/
namespace Go.Proofs.Ytibmfhmeoohdeaa
open Go.RowKit Go.ChangeShapes Go.WideShapes Go.Deep

section
variable {H : Type} {enc : TypeId × Value → H} {w : World} {base : Nat} {spare : Nat → Bool} {held : Bool}

theorem open_blocks {A : Option Addr} {n c : Nat} {d : DataW H} {p : List MemPlace} (h : DataW.Trod enc Try.prog w base spare held 34 (.slice A n c) d p) :
    ∃ l : Blks, n = l.length ∧ Sl w 8 A l.length c (blksW l) ∧ (∀ b ∈ l, b.length = 8) ∧ l.length ≤ 9223372036854775807 := by
  obtain ⟨fuel, hf⟩ := h
  rcases open_slice Try.underlying34 hf with ⟨hcs, _⟩ | ⟨a, len, cap, m, nf, D, Pl, hcs, _, hl, hm, hmm, _, hi⟩
  · simp [Value.cells] at hcs
    obtain ⟨rfl, rfl, rfl⟩ := hcs
    exact ⟨[], rfl, ⟨rfl, Nat.le_refl _, fun _ => ⟨rfl, rfl⟩, fun h => absurd h (by simp)⟩, by simp, by simp⟩
  · simp [Value.cells] at hcs
    obtain ⟨rfl, rfl, rfl⟩ := hcs
    have hlm : n ≤ m := by rw [hmm]; split <;> omega
    have key : ∀ i, i < n → ∃ y : List Int, y.length = 8 ∧ ∀ j, j < 8 → w.cell? (a.add (i * 8 + j)) = some (.int .i64 (y[j]?.getD 0)) := by
      intro i hil
      obtain ⟨cs', hcs, ht⟩ := hi i (by omega)
      obtain ⟨y, rfl, h8, -⟩ := open_cells Try.underlying43 cBlk ht
      rw [cBlk] at hcs
      obtain ⟨_, _, hat⟩ := World.cells?_some hcs
      refine ⟨y, h8, fun j hj => ?_⟩
      have h0 := hat j (by omega)
      rw [Go.Deep.add_add] at h0
      rw [h0]
      simp [show j < y.length by omega]
    obtain ⟨f, hf⟩ := choose_lt key
    unfold maxLen at hm
    have h8 : ∀ b ∈ (List.range n).map f, b.length = 8 := fun b hb => by
      obtain ⟨i, hi, rfl⟩ := List.mem_map.1 hb
      exact (hf i (by simpa using hi)).1
    have hlen : ((List.range n).map f).length = n := by simp
    refine ⟨(List.range n).map f, hlen.symm, ?_, h8, by rw [hlen]; omega⟩
    rw [hlen]
    refine ⟨by rw [blksW_length _ h8, hlen], hl, (fun h => by cases h), fun hn => ?_⟩
    obtain ⟨b, off, rfl, hlt⟩ := addr_plain ((hf 0 hn).2 0 (by omega))
    refine ⟨b, off, rfl, hlt, fun j hj => ?_⟩
    have hat := (hf (j / 8) (by omega)).2 (j % 8) (by omega)
    have he := blksW_at _ h8 (j / 8) (by rw [hlen]; omega) (j % 8) (by omega)
    have hj8 : j / 8 * 8 + j % 8 = j := by omega
    rw [hj8] at hat he
    rw [Addr.add_lit] at hat
    rw [he, hat, List.getElem?_map, List.getElem?_range (by omega)]
    rfl

end
end Go.Proofs.Ytibmfhmeoohdeaa

/-
  How an argument that is a list of entries reads as plain numbers. No conditions.
-/
namespace Go.Proofs.Ytibmfhmeoohdeaa
open Go.RowKit Go.ChangeShapes Go.WideShapes Go.ChangeAt Go.Deep

section
variable {H : Type} {enc : TypeId × Value → H} {w : World} {base : Nat} {spare : Nat → Bool} {held : Bool}

theorem cEnt : Try.prog.cellsOf 45 = 9 := by kernel_rfl

theorem open_ent {fuel : Nat} {cs : List Value} {x : DataW H × List MemPlace} (h : DataW.trod enc Try.prog w base spare held fuel 45 cs = some x) :
    ∃ e : Ent, cs = (entI e).map (.int .i64) ∧ e.cells.length = 8 := by
  obtain ⟨y0, y1, n, hx, hl, h0, h1⟩ := trod_struct2 Try.underlying45 h
  rw [cEnt] at hl
  have h0' : DataW.trod enc Try.prog w base spare held n 43 ((cs.drop 0).take (Try.prog.cellsOf 43)) = some y0 := h0
  have h1' : DataW.trod enc Try.prog w base spare held n 3 ((cs.drop 8).take (Try.prog.cellsOf 3)) = some y1 := h1
  rw [cBlk, List.drop_zero] at h0'
  rw [cIntO] at h1'
  obtain ⟨y, hy, h8, -⟩ := open_cells Try.underlying43 cBlk h0'
  obtain ⟨s, hs, _, _⟩ := DataW.trod_int Try.underlying3 h1'
  refine ⟨⟨y, s⟩, ?_, h8⟩
  have hd : (cs.drop 8).take 1 = cs.drop 8 := List.take_of_length_le (by simp; omega)
  rw [hd] at hs
  unfold entI
  rw [List.map_append, List.map_cons, List.map_nil, ← hy, ← hs, List.take_append_drop]

theorem open_ents {A : Option Addr} {n c : Nat} {d : DataW H} {p : List MemPlace} (h : DataW.Trod enc Try.prog w base spare held 22 (.slice A n c) d p) :
    ∃ l : List Ent, n = l.length ∧ Ents w A c l ∧ Eight l ∧ l.length ≤ 9223372036854775807 := by
  obtain ⟨fuel, hf⟩ := h
  rcases open_slice Try.underlying22 hf with ⟨hcs, _⟩ | ⟨a, len, cap, m, nf, D, Pl, hcs, _, hl, hm, hmm, _, hi⟩
  · simp [Value.cells] at hcs
    obtain ⟨rfl, rfl, rfl⟩ := hcs
    exact ⟨[], rfl, ⟨rfl, Nat.le_refl _, fun _ => ⟨rfl, rfl⟩, fun h => absurd h (by simp)⟩, (fun e he => by simp at he), by simp⟩
  · simp [Value.cells] at hcs
    obtain ⟨rfl, rfl, rfl⟩ := hcs
    have hlm : n ≤ m := by rw [hmm]; split <;> omega
    have key : ∀ i, i < n → ∃ y : Ent, y.cells.length = 8 ∧ ∀ j, j < 9 → w.cell? (a.add (i * 9 + j)) = some (.int .i64 ((entI y)[j]?.getD 0)) := by
      intro i hil
      obtain ⟨cs', hcs, ht⟩ := hi i (by omega)
      obtain ⟨y, rfl, h8⟩ := open_ent ht
      rw [cEnt] at hcs
      obtain ⟨_, _, hat⟩ := World.cells?_some hcs
      have h9 := entI_length h8
      refine ⟨y, h8, fun j hj => ?_⟩
      have h0 := hat j (by omega)
      rw [Go.Deep.add_add] at h0
      rw [h0]
      simp [show j < (entI y).length by omega]
    letI : Inhabited Ent := ⟨entZ⟩
    obtain ⟨f, hf⟩ := choose_lt key
    unfold maxLen at hm
    have h8 : Eight ((List.range n).map f) := fun b hb => by
      obtain ⟨i, hi, rfl⟩ := List.mem_map.1 hb
      exact (hf i (by simpa using hi)).1
    have hlen : ((List.range n).map f).length = n := by simp
    refine ⟨(List.range n).map f, hlen.symm, ?_, h8, by rw [hlen]; omega⟩
    unfold Ents
    rw [hlen]
    refine ⟨by rw [entsW_length h8, hlen], hl, (fun h => by cases h), fun hn => ?_⟩
    obtain ⟨b, off, rfl, hlt⟩ := addr_plain ((hf 0 hn).2 0 (by omega))
    refine ⟨b, off, rfl, hlt, fun j hj => ?_⟩
    have hat := (hf (j / 9) (by omega)).2 (j % 9) (by omega)
    have he := entsW_at h8 (i := j / 9) (by rw [hlen]; omega) (j := j % 9) (by omega)
    have hj9 : j / 9 * 9 + j % 9 = j := by omega
    rw [hj9] at hat he
    rw [Addr.add_lit] at hat
    rw [he, hat, List.getElem?_map, List.getElem?_range (by omega)]
    rfl

end
end Go.Proofs.Ytibmfhmeoohdeaa
