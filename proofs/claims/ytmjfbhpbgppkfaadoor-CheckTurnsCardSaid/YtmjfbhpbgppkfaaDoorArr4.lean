/-
  An argument that is an array of four bytes, opened: four numbers below 256. No conditions.
-/
import Derived.Test.YtmjfbhpbgppkfaaDoorChkT
import Derived.Laws.IdiomArrays
namespace Go.Proofs.YtmjfbhpbgppkfaaDoor
open Go.ChangeShapes Go.WideShapes Go.ChangeAt Go.RowKit

theorem cArr4 : Tryd.prog.cellsOf 29 = 4 := by kernel_rfl
theorem cU8 : Tryd.prog.cellsOf 5 = 1 := by kernel_rfl

theorem byte_of {H : Type} {enc : TypeId × Value → H} {W : World} {base : Nat} {sp : Nat → Bool} {held : Bool} {n : Nat} {c : Value} {y : DataW H × List MemPlace}
    (h : DataW.trod enc Tryd.prog W base sp held n 5 [c] = some y) : ∃ a : Nat, c = .int .u8 (a : Int) ∧ a < 256 := by
  obtain ⟨z, hc, _, wz⟩ := DataW.trod_int Tryd.underlying5 h
  have hb := bounds_u8 wz
  obtain ⟨a, rfl⟩ := Int.eq_ofNat_of_zero_le hb.1
  exact ⟨a, by simpa using hc, by omega⟩

theorem open_bytes4 {H : Type} {enc : TypeId × Value → H} {W : World} {r : Reach} {b0 base : Nat} {sp : Nat → Bool} {held : Bool} {v : Value} {d : DataW H} {p : List MemPlace}
    (hv : Value.okWide Tryd.prog W r b0 29 v) (h : DataW.Trod enc Tryd.prog W base sp held 29 v d p) :
    ∃ a b c e : Nat, v = .agg #[.int .u8 (a : Int), .int .u8 (b : Int), .int .u8 (c : Int), .int .u8 (e : Int)] ∧ ∀ x ∈ [a, b, c, e], x < 256 := by
  obtain ⟨cs, rfl, hsz, _⟩ : ∃ cs, v = .agg cs ∧ cs.size = Tryd.prog.cellsOf 29 ∧ Row.okWide Tryd.prog W r b0 29 cs := by
    simpa [Value.okWide, Tryd.underlying29] using hv
  rw [cArr4] at hsz
  obtain ⟨fuel, hf⟩ := h
  obtain ⟨l⟩ := cs
  have hl : l.length = 4 := by simpa using hsz
  match l, hl with
  | [c0, c1, c2, c3], _ =>
    obtain ⟨y0, y1, y2, y3, m, _, h0, h1, h2, h3⟩ := trod_array4 Tryd.underlying29 cU8 hf
    obtain ⟨a, rfl, ha⟩ := byte_of h0
    obtain ⟨b, rfl, hb⟩ := byte_of h1
    obtain ⟨c, rfl, hc⟩ := byte_of h2
    obtain ⟨e, rfl, he⟩ := byte_of h3
    refine ⟨a, b, c, e, rfl, ?_⟩
    intro x hx
    simp at hx
    rcases hx with rfl | rfl | rfl | rfl <;> assumption

end Go.Proofs.YtmjfbhpbgppkfaaDoor
