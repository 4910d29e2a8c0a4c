/-
  How an argument that is a block, or a pair of ints, reads as plain numbers. No conditions.
-/
import Derived.Test.YtldljohholgmoaaQWords
import Derived.Test.YtldljohholgmoaaQStr
import Derived.ProofKit
import Derived.OpenShut
namespace Go.Proofs.Ytldljohholgmoaa
open Go.RowKit Go.ChangeShapes Go.WideShapes Go.ChangeAt

section
variable {H : Type} {enc : TypeId × Value → H} {w : World} {base : Nat} {spare : Nat → Bool} {held : Bool}

theorem open_cells {n : Nat} {t : TypeId} (ht : Try.prog.underlying t = some (.array n 3)) (hc : Try.prog.cellsOf t = n) {fuel : Nat} {cs : List Value} {x : DataW H × List MemPlace} (h : DataW.trod enc Try.prog w base spare held fuel t cs = some x) :
    ∃ l : List Int, cs = l.map (.int .i64) ∧ l.length = n ∧ inB l := by
  obtain ⟨xs, m, _, _, hlen, hxs, hf⟩ := DataW.trod_array ht h
  rw [hc] at hlen
  rw [cellsInt] at hf
  have key : ∀ i, i < n → ∃ a : Int, cs[i]? = some (.int .i64 a) ∧ -9223372036854775808 ≤ a ∧ a ≤ 9223372036854775807 := by
    intro i hi
    have g := hf i hi
    have hi' : i < cs.length := by omega
    rw [Nat.mul_one, List.drop_eq_getElem_cons hi', List.take_succ_cons, List.take_zero, List.getElem?_eq_getElem (by omega)] at g
    obtain ⟨a, e0, _, wf⟩ := DataW.trod_int Try.underlying3 g
    injection e0 with e0 _
    have hb := bounds_i64 wf
    exact ⟨a, by rw [List.getElem?_eq_getElem hi', e0], hb.1, hb.2⟩
  refine ⟨cs.map fun v => match v with | .int _ a => a | _ => 0, ?_, by simp [hlen], ?_⟩
  · apply List.ext_getElem?
    intro i
    by_cases hi : i < n
    · obtain ⟨a, ha, _⟩ := key i hi
      simp [ha]
    · rw [List.getElem?_eq_none (by omega), List.getElem?_eq_none (by simp; omega)]
  · intro y hy
    obtain ⟨v, hv, rfl⟩ := List.mem_map.1 hy
    obtain ⟨i, hi, rfl⟩ := List.getElem_of_mem hv
    obtain ⟨a, ha, h1, h2⟩ := key i (by omega)
    rw [List.getElem?_eq_getElem hi] at ha
    injection ha with ha
    rw [ha]
    exact ⟨h1, h2⟩

theorem cBlk : Try.prog.cellsOf 81 = 8 := by kernel_rfl

theorem open_block {r : Reach} {b0 : Nat} {v : Value} {d : DataW H} {p : List MemPlace} (hv : Value.okWide Try.prog w r b0 81 v) (h : DataW.Trod enc Try.prog w base spare held 81 v d p) :
    ∃ b : List Int, v = .agg (bkC b) ∧ b.length = 8 ∧ inB b := by
  obtain ⟨cs, rfl, hsz, _⟩ : ∃ cs, v = .agg cs ∧ cs.size = Try.prog.cellsOf 81 ∧ Row.okWide Try.prog w r b0 81 cs := by
    simpa [Value.okWide, Try.underlying81] using hv
  obtain ⟨fuel, hf⟩ := h
  obtain ⟨l, hl, h8, hb⟩ := open_cells Try.underlying81 cBlk hf
  refine ⟨l, ?_, h8, hb⟩
  simp only [Value.cells] at hl
  rw [bkC, ← hl]

theorem cTwo : Try.prog.cellsOf 24 = 2 := by kernel_rfl

theorem open_two {r : Reach} {b0 : Nat} {v : Value} {d : DataW H} {p : List MemPlace} (hv : Value.okWide Try.prog w r b0 24 v) (h : DataW.Trod enc Try.prog w base spare held 24 v d p) :
    ∃ a b : Int, v = .agg #[.int .i64 a, .int .i64 b] ∧ (-9223372036854775808 ≤ a ∧ a ≤ 9223372036854775807) ∧ (-9223372036854775808 ≤ b ∧ b ≤ 9223372036854775807) := by
  obtain ⟨cs, rfl, hsz, _⟩ : ∃ cs, v = .agg cs ∧ cs.size = Try.prog.cellsOf 24 ∧ Row.okWide Try.prog w r b0 24 cs := by
    simpa [Value.okWide, Try.underlying24] using hv
  obtain ⟨fuel, hf⟩ := h
  obtain ⟨l, hl, h2, hb⟩ := open_cells Try.underlying24 cTwo hf
  match l, h2 with
  | [a, b], _ =>
    refine ⟨a, b, ?_, hb a (by simp), hb b (by simp)⟩
    simp only [Value.cells, List.map_cons, List.map_nil] at hl
    rw [← hl]

end
end Go.Proofs.Ytldljohholgmoaa
