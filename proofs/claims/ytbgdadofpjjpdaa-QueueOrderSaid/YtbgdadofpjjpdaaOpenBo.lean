/-
  How an argument that is a list of bools reads as plain data. No conditions.
-/
import Derived.Test.YtbgdadofpjjpdaaAddr
import Derived.Test.YtbgdadofpjjpdaaWords
import Derived.ProofKit
import Derived.Deep.Slices
import Derived.OpenShut
namespace Go.Proofs.Ytbgdadofpjjpdaa
open Go.RowKit Go.ChangeShapes Go.WideShapes Go.Deep

section
variable {H : Type} {enc : TypeId × Value → H} {w : World} {base : Nat} {spare : Nat → Bool} {held : Bool}

/-- a slice of bools. -/
def Bools (w : World) (A : Option Addr) (c : Nat) (l : List Bool) : Prop := Sl w 1 A l.length c (l.map .bool)
theorem sl_of {a : Addr} {n c : Nat} (f : Nat → Value) (hl : n ≤ c) (h : ∀ i, i < n → w.cell? (a.add i) = some (f i)) : Sl w 1 (some a) n c ((List.range n).map f) := by
  refine ⟨by simp, hl, fun h => by simp at h, fun hn => ?_⟩
  obtain ⟨b, off, rfl, hlt⟩ := addr_plain (h 0 hn)
  refine ⟨b, off, rfl, hlt, fun j hj => ?_⟩
  have := h j (by simpa using hj)
  rw [Addr.add_lit] at this
  rw [this]
  simp [show j < n by simpa using hj]

theorem open_bools {A : Option Addr} {n c : Nat} {d : DataW H} {p : List MemPlace} (h : DataW.Trod enc Try.prog w base spare held 36 (.slice A n c) d p) :
    ∃ l : List Bool, n = l.length ∧ Bools w A c l ∧ l.length ≤ 9223372036854775807 := by
  obtain ⟨fuel, hf⟩ := h
  rcases open_slice Try.underlying36 hf with ⟨hcs, _⟩ | ⟨a, len, cap, m, nf, D, Pl, hcs, _, hl, hm, hmm, _, hi⟩
  · simp [Value.cells] at hcs
    obtain ⟨rfl, rfl, rfl⟩ := hcs
    exact ⟨[], rfl, ⟨rfl, Nat.le_refl _, fun _ => ⟨rfl, rfl⟩, fun h => absurd h (by simp)⟩, by simp⟩
  · simp [Value.cells] at hcs
    obtain ⟨rfl, rfl, rfl⟩ := hcs
    have hlm : n ≤ m := by rw [hmm]; split <;> omega
    have hc1 : Try.prog.cellsOf 4 = 1 := by kernel_rfl
    have key : ∀ i, i < n → ∃ x : Bool, w.cell? (a.add i) = some (.bool x) := by
      intro i hil
      obtain ⟨cs', hcs, ht⟩ := hi i (by omega)
      obtain ⟨x, rfl, _⟩ := DataW.trod_bool Try.underlying4 ht
      rw [hc1] at hcs
      obtain ⟨_, _, hat⟩ := World.cells?_some hcs
      have := hat 0 (by omega)
      rw [Nat.mul_one, Go.Deep.add_add, Nat.add_zero] at this
      exact ⟨x, this⟩
    obtain ⟨f, hf⟩ := choose_lt key
    unfold maxLen at hm
    have hs := sl_of (w := w) (a := a) (c := c) (fun i => .bool (f i)) hl (fun i hi => hf i hi)
    refine ⟨(List.range n).map f, by simp, ?_, by simp; omega⟩
    show Sl w 1 _ ((List.range n).map f).length c _
    rw [List.length_map, List.length_range, List.map_map]
    exact hs

end
end Go.Proofs.Ytbgdadofpjjpdaa
