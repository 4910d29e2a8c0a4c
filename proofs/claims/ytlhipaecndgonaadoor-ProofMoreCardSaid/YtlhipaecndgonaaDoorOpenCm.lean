/-
  How an argument that is a command, a list of bools, or a list of bytes, reads as plain data. No conditions.
-/
import Derived.Test.YtlhipaecndgonaaDoorPrfK
import Derived.Test.YtlhipaecndgonaaDoorOpenIs
import Derived.Test.YtlhipaecndgonaaDoorAsmOp
import Derived.Lib.SmallJoins
namespace Go.Proofs.YtlhipaecndgonaaDoor
open Go.RowKit Go.ChangeShapes Go.WideShapes Go.Deep

section
variable {H : Type} {enc : TypeId × Value → H} {w : World} {base : Nat} {spare : Nat → Bool} {held : Bool}

theorem cCmd : Tryd.prog.cellsOf 25 = 5 := by kernel_rfl
theorem cSli : Tryd.prog.cellsOf 22 = 1 := by kernel_rfl
theorem cSlx : Tryd.prog.cellsOf 23 = 1 := by kernel_rfl

theorem five_of {α : Type} : ∀ {l : List α}, l.length = 5 → ∃ a b c d e, l = [a, b, c, d, e]
  | [a, b, c, d, e], _ => ⟨a, b, c, d, e, rfl⟩

theorem open_cmd {b0 : Nat} {r : Reach} {v : Value} {d : DataW H} {p : List MemPlace} (hv : Value.okWide Tryd.prog w r b0 25 v) (h : DataW.Trod enc Tryd.prog w base spare held 25 v d p) :
    ∃ (c : Cmd) (ra : Option Addr) (nr rc : Nat) (wa : Option Addr) (nw wc : Nat) (aa : Option Addr) (na ac : Nat) (ca : Option Addr) (nc cc : Nat), v = cmV ra nr rc wa nw wc aa na ac c.fuel ca nc cc ∧ CmRaw w c ra nr rc wa nw wc aa na ac ca nc cc ∧
      (∀ x ∈ c.reads, inI64 x) ∧ (∀ x ∈ c.writes, inI64 x) ∧ (∀ x ∈ c.args, inI64 x) ∧ inI64 c.fuel ∧ (∀ x ∈ c.code, inI x) := by
  obtain ⟨cs, rfl, hsz⟩ := okWide_struct Tryd.underlying25 hv
  obtain ⟨fuel, hf⟩ := h
  obtain ⟨xs, n, _, _, hl, hlen, hfs⟩ := DataW.trod_struct Tryd.underlying25 hf
  rw [cCmd] at hsz
  obtain ⟨l⟩ := cs
  obtain ⟨c0, c1, c2, c3, c4, rfl⟩ := five_of (l := l) (by simpa using hsz)
  have g0 : ∃ y, DataW.trod enc Tryd.prog w base spare held n 22 [c0] = some y := ⟨xs[0]'(by rw [hlen]; decide), by
    have := hfs 0 _ rfl
    simpa [Value.cells, cSli, hlen] using this⟩
  have g1 : ∃ y, DataW.trod enc Tryd.prog w base spare held n 22 [c1] = some y := ⟨xs[1]'(by rw [hlen]; decide), by
    have := hfs 1 _ rfl
    simpa [Value.cells, cSli, hlen] using this⟩
  have g2 : ∃ y, DataW.trod enc Tryd.prog w base spare held n 22 [c2] = some y := ⟨xs[2]'(by rw [hlen]; decide), by
    have := hfs 2 _ rfl
    simpa [Value.cells, cSli, hlen] using this⟩
  have g3 : ∃ y, DataW.trod enc Tryd.prog w base spare held n 3 [c3] = some y := ⟨xs[3]'(by rw [hlen]; decide), by
    have := hfs 3 _ rfl
    simpa [Value.cells, cIntO, hlen] using this⟩
  have g4 : ∃ y, DataW.trod enc Tryd.prog w base spare held n 23 [c4] = some y := ⟨xs[4]'(by rw [hlen]; decide), by
    have := hfs 4 _ rfl
    simpa [Value.cells, cSlx, hlen] using this⟩
  obtain ⟨y0, g0⟩ := g0
  obtain ⟨y1, g1⟩ := g1
  obtain ⟨y2, g2⟩ := g2
  obtain ⟨y3, g3⟩ := g3
  obtain ⟨y4, g4⟩ := g4
  obtain ⟨ra, nr, rc, e0⟩ := Go.Joins.slice_form Tryd.underlying22 g0
  obtain ⟨wa, nw, wc, e1⟩ := Go.Joins.slice_form Tryd.underlying22 g1
  obtain ⟨aa, na, ac, e2⟩ := Go.Joins.slice_form Tryd.underlying22 g2
  obtain ⟨ca, nc, cc, e4⟩ := Go.Joins.slice_form Tryd.underlying23 g4
  obtain ⟨fu, e3, _, w3⟩ := DataW.trod_int Tryd.underlying3 g3
  injection e0 with e0 _
  injection e1 with e1 _
  injection e2 with e2 _
  injection e3 with e3 _
  injection e4 with e4 _
  subst e0
  subst e1
  subst e2
  subst e3
  subst e4
  obtain ⟨l0, k0, i0, _, b0⟩ := open_ints1 (w := w) (A := ra) (n := nr) (c := rc) (d := y0.1) (p := y0.2) ⟨n, by simpa [Value.cells] using g0⟩
  obtain ⟨l1, k1, i1, _, b1⟩ := open_ints1 (w := w) (A := wa) (n := nw) (c := wc) (d := y1.1) (p := y1.2) ⟨n, by simpa [Value.cells] using g1⟩
  obtain ⟨l2, k2, i2, _, b2⟩ := open_ints1 (w := w) (A := aa) (n := na) (c := ac) (d := y2.1) (p := y2.2) ⟨n, by simpa [Value.cells] using g2⟩
  obtain ⟨l4, k4, i4, _, b4⟩ := open_inss (w := w) (A := ca) (n := nc) (c := cc) (d := y4.1) (p := y4.2) ⟨n, by simpa [Value.cells] using g4⟩
  exact ⟨⟨l0, l1, l2, fu, l4⟩, ra, nr, rc, wa, nw, wc, aa, na, ac, ca, nc, cc, rfl, ⟨k0.symm, k1.symm, k2.symm, k4.symm, i0, i1, i2, i4⟩, b0, b1, b2, bounds_i64 w3, b4⟩

/-- a slice of bools. -/
def Bools (w : World) (A : Option Addr) (c : Nat) (l : List Bool) : Prop := Sl w 1 A l.length c (l.map .bool)
/-- a slice of bytes. -/
def U8s (w : World) (A : Option Addr) (c : Nat) (l : List Int) : Prop := Sl w 1 A l.length c (l.map (.int .u8))

theorem sl_of {a : Addr} {n c : Nat} (f : Nat → Value) (hl : n ≤ c) (h : ∀ i, i < n → w.cell? (a.add i) = some (f i)) : Sl w 1 (some a) n c ((List.range n).map f) := by
  refine ⟨by simp, hl, fun h => by simp at h, fun hn => ?_⟩
  obtain ⟨b, off, rfl, hlt⟩ := addr_plain (h 0 hn)
  refine ⟨b, off, rfl, hlt, fun j hj => ?_⟩
  have := h j (by simpa using hj)
  rw [Addr.add_lit] at this
  rw [this]
  simp [show j < n by simpa using hj]

theorem open_bools {A : Option Addr} {n c : Nat} {d : DataW H} {p : List MemPlace} (h : DataW.Trod enc Tryd.prog w base spare held 31 (.slice A n c) d p) :
    ∃ l : List Bool, n = l.length ∧ Bools w A c l ∧ l.length ≤ 9223372036854775807 := by
  obtain ⟨fuel, hf⟩ := h
  rcases open_slice Tryd.underlying31 hf with ⟨hcs, _⟩ | ⟨a, len, cap, m, nf, D, Pl, hcs, _, hl, hm, hmm, _, hi⟩
  · simp [Value.cells] at hcs
    obtain ⟨rfl, rfl, rfl⟩ := hcs
    exact ⟨[], rfl, ⟨rfl, Nat.le_refl _, fun _ => ⟨rfl, rfl⟩, fun h => absurd h (by simp)⟩, by simp⟩
  · simp [Value.cells] at hcs
    obtain ⟨rfl, rfl, rfl⟩ := hcs
    have hlm : n ≤ m := by rw [hmm]; split <;> omega
    have hc1 : Tryd.prog.cellsOf 4 = 1 := by kernel_rfl
    have key : ∀ i, i < n → ∃ x : Bool, w.cell? (a.add i) = some (.bool x) := by
      intro i hil
      obtain ⟨cs', hcs, ht⟩ := hi i (by omega)
      obtain ⟨x, rfl, _⟩ := DataW.trod_bool Tryd.underlying4 ht
      rw [hc1] at hcs
      obtain ⟨_, _, hat⟩ := World.cells?_some hcs
      have := hat 0 (by omega)
      rw [Nat.mul_one, Go.Deep.add_add, Nat.add_zero] at this
      exact ⟨x, this⟩
    obtain ⟨f, hf⟩ := choose_lt key
    unfold maxLen at hm
    have hs := sl_of (w := w) (a := a) (c := c) (fun i => .bool (f i)) hl (fun i hi => hf i hi)
    refine ⟨(List.range n).map f, by simp, ?_, by simp; omega⟩
    show Sl w 1 _ ((List.range n).map f).length c _
    rw [List.length_map, List.length_range, List.map_map]
    exact hs

theorem open_u8s {A : Option Addr} {n c : Nat} {d : DataW H} {p : List MemPlace} (h : DataW.Trod enc Tryd.prog w base spare held 37 (.slice A n c) d p) :
    ∃ l : List Int, n = l.length ∧ U8s w A c l ∧ l.length ≤ 9223372036854775807 ∧ ∀ x ∈ l, 0 ≤ x ∧ x ≤ 255 := by
  obtain ⟨fuel, hf⟩ := h
  rcases open_slice Tryd.underlying37 hf with ⟨hcs, _⟩ | ⟨a, len, cap, m, nf, D, Pl, hcs, _, hl, hm, hmm, _, hi⟩
  · simp [Value.cells] at hcs
    obtain ⟨rfl, rfl, rfl⟩ := hcs
    exact ⟨[], rfl, ⟨rfl, Nat.le_refl _, fun _ => ⟨rfl, rfl⟩, fun h => absurd h (by simp)⟩, by simp, by simp⟩
  · simp [Value.cells] at hcs
    obtain ⟨rfl, rfl, rfl⟩ := hcs
    have hlm : n ≤ m := by rw [hmm]; split <;> omega
    have hc1 : Tryd.prog.cellsOf 5 = 1 := by kernel_rfl
    have key : ∀ i, i < n → ∃ x : Int, w.cell? (a.add i) = some (.int .u8 x) ∧ 0 ≤ x ∧ x ≤ 255 := by
      intro i hil
      obtain ⟨cs', hcs, ht⟩ := hi i (by omega)
      obtain ⟨x, rfl, _, wx⟩ := DataW.trod_int Tryd.underlying5 ht
      rw [hc1] at hcs
      obtain ⟨_, _, hat⟩ := World.cells?_some hcs
      have := hat 0 (by omega)
      rw [Nat.mul_one, Go.Deep.add_add, Nat.add_zero] at this
      exact ⟨x, this, bounds_u8 wx⟩
    obtain ⟨f, hf⟩ := choose_lt key
    unfold maxLen at hm
    have hs := sl_of (w := w) (a := a) (c := c) (fun i => .int .u8 (f i)) hl (fun i hi => (hf i hi).1)
    refine ⟨(List.range n).map f, by simp, ?_, by simp; omega, fun x hx => by
      obtain ⟨i, hi, rfl⟩ := List.mem_map.1 hx
      exact (hf i (by simpa using hi)).2⟩
    show Sl w 1 _ ((List.range n).map f).length c _
    rw [List.length_map, List.length_range, List.map_map]
    exact hs

end
end Go.Proofs.YtlhipaecndgonaaDoor
