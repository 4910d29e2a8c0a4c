/-
  How an argument that is a command reads as plain data. No conditions.
-/
import Derived.Test.YtoomadafgkcebaaZCmdM
import Derived.Test.YtoomadafgkcebaaZOpenIs
import Derived.Test.YtoomadafgkcebaaZAsmOp
import Derived.Lib.SmallJoins
namespace Go.Proofs.Ytoomadafgkcebaa
open Go.RowKit Go.ChangeShapes Go.WideShapes Go.Deep

section
variable {H : Type} {enc : TypeId × Value → H} {w : World} {base : Nat} {spare : Nat → Bool} {held : Bool}

theorem cCmd : Try.prog.cellsOf 25 = 5 := by kernel_rfl
theorem cSli : Try.prog.cellsOf 22 = 1 := by kernel_rfl
theorem cSlx : Try.prog.cellsOf 23 = 1 := by kernel_rfl

theorem five_of {α : Type} : ∀ {l : List α}, l.length = 5 → ∃ a b c d e, l = [a, b, c, d, e]
  | [a, b, c, d, e], _ => ⟨a, b, c, d, e, rfl⟩

theorem open_cmd {b0 : Nat} {r : Reach} {v : Value} {d : DataW H} {p : List MemPlace} (hv : Value.okWide Try.prog w r b0 25 v) (h : DataW.Trod enc Try.prog w base spare held 25 v d p) :
    ∃ (c : Cmd) (ra : Option Addr) (nr rc : Nat) (wa : Option Addr) (nw wc : Nat) (aa : Option Addr) (na ac : Nat) (ca : Option Addr) (nc cc : Nat), v = cmV ra nr rc wa nw wc aa na ac c.fuel ca nc cc ∧ CmRaw w c ra nr rc wa nw wc aa na ac ca nc cc ∧
      (∀ x ∈ c.reads, inI64 x) ∧ (∀ x ∈ c.writes, inI64 x) ∧ (∀ x ∈ c.args, inI64 x) ∧ inI64 c.fuel ∧ (∀ x ∈ c.code, inI x) := by
  obtain ⟨cs, rfl, hsz⟩ := okWide_struct Try.underlying25 hv
  obtain ⟨fuel, hf⟩ := h
  obtain ⟨xs, n, _, _, hl, hlen, hfs⟩ := DataW.trod_struct Try.underlying25 hf
  rw [cCmd] at hsz
  obtain ⟨l⟩ := cs
  obtain ⟨c0, c1, c2, c3, c4, rfl⟩ := five_of (l := l) (by simpa using hsz)
  have g0 : ∃ y, DataW.trod enc Try.prog w base spare held n 22 [c0] = some y := ⟨xs[0]'(by rw [hlen]; decide), by
    have := hfs 0 _ rfl
    simpa [Value.cells, cSli, hlen] using this⟩
  have g1 : ∃ y, DataW.trod enc Try.prog w base spare held n 22 [c1] = some y := ⟨xs[1]'(by rw [hlen]; decide), by
    have := hfs 1 _ rfl
    simpa [Value.cells, cSli, hlen] using this⟩
  have g2 : ∃ y, DataW.trod enc Try.prog w base spare held n 22 [c2] = some y := ⟨xs[2]'(by rw [hlen]; decide), by
    have := hfs 2 _ rfl
    simpa [Value.cells, cSli, hlen] using this⟩
  have g3 : ∃ y, DataW.trod enc Try.prog w base spare held n 3 [c3] = some y := ⟨xs[3]'(by rw [hlen]; decide), by
    have := hfs 3 _ rfl
    simpa [Value.cells, cIntO, hlen] using this⟩
  have g4 : ∃ y, DataW.trod enc Try.prog w base spare held n 23 [c4] = some y := ⟨xs[4]'(by rw [hlen]; decide), by
    have := hfs 4 _ rfl
    simpa [Value.cells, cSlx, hlen] using this⟩
  obtain ⟨y0, g0⟩ := g0
  obtain ⟨y1, g1⟩ := g1
  obtain ⟨y2, g2⟩ := g2
  obtain ⟨y3, g3⟩ := g3
  obtain ⟨y4, g4⟩ := g4
  obtain ⟨ra, nr, rc, e0⟩ := Go.Joins.slice_form Try.underlying22 g0
  obtain ⟨wa, nw, wc, e1⟩ := Go.Joins.slice_form Try.underlying22 g1
  obtain ⟨aa, na, ac, e2⟩ := Go.Joins.slice_form Try.underlying22 g2
  obtain ⟨ca, nc, cc, e4⟩ := Go.Joins.slice_form Try.underlying23 g4
  obtain ⟨fu, e3, _, w3⟩ := DataW.trod_int Try.underlying3 g3
  injection e0 with e0 _
  injection e1 with e1 _
  injection e2 with e2 _
  injection e3 with e3 _
  injection e4 with e4 _
  subst e0
  subst e1
  subst e2
  subst e3
  subst e4
  obtain ⟨l0, k0, i0, _, b0⟩ := open_ints1 (w := w) (A := ra) (n := nr) (c := rc) (d := y0.1) (p := y0.2) ⟨n, by simpa [Value.cells] using g0⟩
  obtain ⟨l1, k1, i1, _, b1⟩ := open_ints1 (w := w) (A := wa) (n := nw) (c := wc) (d := y1.1) (p := y1.2) ⟨n, by simpa [Value.cells] using g1⟩
  obtain ⟨l2, k2, i2, _, b2⟩ := open_ints1 (w := w) (A := aa) (n := na) (c := ac) (d := y2.1) (p := y2.2) ⟨n, by simpa [Value.cells] using g2⟩
  obtain ⟨l4, k4, i4, _, b4⟩ := open_inss (w := w) (A := ca) (n := nc) (c := cc) (d := y4.1) (p := y4.2) ⟨n, by simpa [Value.cells] using g4⟩
  exact ⟨⟨l0, l1, l2, fu, l4⟩, ra, nr, rc, wa, nw, wc, aa, na, ac, ca, nc, cc, rfl, ⟨k0.symm, k1.symm, k2.symm, k4.symm, i0, i1, i2, i4⟩, b0, b1, b2, bounds_i64 w3, b4⟩

end
end Go.Proofs.Ytoomadafgkcebaa
