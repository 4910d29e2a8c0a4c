/-
  How an argument that is a list of ints reads as plain numbers. No conditions.
-/
import Derived.Test.YtbgdadofpjjpdaaIntS
import Derived.Test.YtbgdadofpjjpdaaAddr
import Derived.ProofKit
import Derived.Deep.Slices
import Derived.OpenShut
namespace Go.Proofs.Ytbgdadofpjjpdaa
open Go.RowKit Go.ChangeShapes Go.WideShapes Go.Deep

section
variable {H : Type} {enc : TypeId × Value → H} {w : World} {base : Nat} {spare : Nat → Bool} {held : Bool}

def inI64 (x : Int) : Prop := -9223372036854775808 ≤ x ∧ x ≤ 9223372036854775807

theorem Ints.nil (w : World) : Ints w none 0 [] := ⟨rfl, Nat.le_refl _, fun _ => ⟨rfl, rfl⟩, fun h => absurd h (by simp)⟩

theorem open_ints1 {A : Option Addr} {n c : Nat} {d : DataW H} {p : List MemPlace} (h : DataW.Trod enc Try.prog w base spare held 35 (.slice A n c) d p) :
    ∃ l : List Int, n = l.length ∧ Ints w A c l ∧ l.length ≤ 9223372036854775807 ∧ ∀ x ∈ l, inI64 x := by
  obtain ⟨fuel, hf⟩ := h
  rcases open_slice Try.underlying35 hf with ⟨hcs, _⟩ | ⟨a, len, cap, m, nf, D, Pl, hcs, _, hl, hm, hmm, _, hi⟩
  · simp [Value.cells] at hcs
    obtain ⟨rfl, rfl, rfl⟩ := hcs
    exact ⟨[], rfl, Ints.nil w, by simp, by simp⟩
  · simp [Value.cells] at hcs
    obtain ⟨rfl, rfl, rfl⟩ := hcs
    have hlm : n ≤ m := by rw [hmm]; split <;> omega
    have hc1 : Try.prog.cellsOf 3 = 1 := by kernel_rfl
    have key : ∀ i, i < n → ∃ x : Int, w.cell? (a.add i) = some (.int .i64 x) ∧ inI64 x := by
      intro i hil
      obtain ⟨cs', hcs, ht⟩ := hi i (by omega)
      obtain ⟨x, rfl, _, wx⟩ := DataW.trod_int Try.underlying3 ht
      rw [hc1] at hcs
      obtain ⟨_, _, hat⟩ := World.cells?_some hcs
      have := hat 0 (by omega)
      rw [Nat.mul_one, Go.Deep.add_add, Nat.add_zero] at this
      exact ⟨x, this, bounds_i64 wx⟩
    obtain ⟨f, hf⟩ := choose_lt key
    unfold maxLen at hm
    refine ⟨(List.range n).map f, by simp, ⟨by simp, by simpa using hl, fun h => by simp at h, fun hn => ?_⟩, by simp; omega, fun x hx => ?_⟩
    · simp only [List.length_map, List.length_range] at hn
      obtain ⟨b, off, rfl, hlt⟩ := addr_plain (hf 0 hn).1
      refine ⟨b, off, rfl, hlt, fun j hj => ?_⟩
      simp only [List.length_map, List.length_range, Nat.mul_one] at hj
      have := (hf j hj).1
      rw [Addr.add_lit] at this
      rw [this]
      simp [hj]
    · obtain ⟨i, hi, rfl⟩ := List.mem_map.1 hx
      exact (hf i (by simpa using hi)).2

end
end Go.Proofs.Ytbgdadofpjjpdaa
