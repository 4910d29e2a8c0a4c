/-
  How an argument that is a pair of bytes reads as plain numbers. No conditions.
-/
import Derived.Test.YtehaknnoplcbcaaWords
import Derived.ProofKit
import Derived.OpenShut
namespace Go.Proofs.Ytehaknnoplcbcaa
open Go.RowKit Go.ChangeShapes Go.WideShapes Go.ChangeAt

section
variable {H : Type} {enc : TypeId × Value → H} {w : World} {base : Nat} {spare : Nat → Bool} {held : Bool}

theorem cU8w : Try.prog.cellsOf 5 = 1 := by kernel_rfl
theorem cTwo8 : Try.prog.cellsOf 48 = 2 := by kernel_rfl

theorem open_two8 {r : Reach} {b0 : Nat} {v : Value} {d : DataW H} {p : List MemPlace} (hv : Value.okWide Try.prog w r b0 48 v) (h : DataW.Trod enc Try.prog w base spare held 48 v d p) :
    ∃ a b : Int, v = .agg #[.int .u8 a, .int .u8 b] ∧ (0 ≤ a ∧ a ≤ 255) ∧ (0 ≤ b ∧ b ≤ 255) := by
  obtain ⟨cs, rfl, hsz, _⟩ : ∃ cs, v = .agg cs ∧ cs.size = Try.prog.cellsOf 48 ∧ Row.okWide Try.prog w r b0 48 cs := by
    simpa [Value.okWide, Try.underlying48] using hv
  obtain ⟨fuel, hf⟩ := h
  simp only [Value.cells] at hf
  obtain ⟨xs, m, _, _, hlen, hxs, hg⟩ := DataW.trod_array Try.underlying48 hf
  rw [cTwo8] at hsz
  obtain ⟨l⟩ := cs
  match l, hsz with
  | [x, y], _ =>
    rw [cU8w] at hg
    have g0 := hg 0 (by decide)
    have g1 := hg 1 (by decide)
    simp only [Nat.zero_mul, Nat.one_mul, List.drop_zero, List.drop_succ_cons, List.take_succ_cons, List.take_zero] at g0 g1
    rw [List.getElem?_eq_getElem (by omega)] at g0 g1
    obtain ⟨a, e0, _, w0⟩ := DataW.trod_int Try.underlying5 g0
    obtain ⟨b, e1, _, w1⟩ := DataW.trod_int Try.underlying5 g1
    injection e0 with e0 _
    injection e1 with e1 _
    subst e0
    subst e1
    exact ⟨a, b, rfl, bounds_u8 w0, bounds_u8 w1⟩

end
end Go.Proofs.Ytehaknnoplcbcaa
