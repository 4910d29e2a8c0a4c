/-
  How a cut that is handed in by value reads as a plain cut. No conditions.
-/
import Derived.Test.YthcfncpkeldapaaOpen
import Derived.WideShapes
namespace Go.Proofs.Ythcfncpkeldapaa
open Go.RowKit Go.ChangeShapes Go.WideShapes Go.Deep

section
variable {H : Type} {enc : TypeId × Value → H} {w : World} {base : Nat} {spare : Nat → Bool} {held : Bool}

theorem open_cutv {v : Value} {d : DataW H} {p : List MemPlace} (hv : ∃ cs, v = .agg cs ∧ cs.size = Try.prog.cellsOf 35) (h : DataW.Trod enc Try.prog w base spare held 35 v d p) :
    ∃ (S : Option Addr) (c : Nat) (stay : List Bool) (torn bytes : Int), v = .agg #[.slice S stay.length c, .int .i64 torn, .int .i64 bytes] ∧ Sl w 1 S stay.length c (stay.map Value.bool) ∧ stay.length ≤ 9223372036854775807 := by
  obtain ⟨fuel, hf⟩ := h
  obtain ⟨cs, rfl, _⟩ := hv
  obtain ⟨S, c, stay, torn, bytes, hcs, hS, hl⟩ := open_cut hf
  refine ⟨S, c, stay, torn, bytes, ?_, hS, hl⟩
  have e : cs.toList = [.slice S stay.length c, .int .i64 torn, .int .i64 bytes] := hcs
  rw [← Array.toList_inj.1 (show cs.toList = (#[.slice S stay.length c, .int .i64 torn, .int .i64 bytes] : Array Value).toList from e)]

end
end Go.Proofs.Ythcfncpkeldapaa
