/-
  How an argument that is a list of blocks reads as plain numbers. No conditions.
-/
import Derived.Test.YtoomadafgkcebaaZOpenBk
import Derived.Test.YtoomadafgkcebaaZOpenCm
import Derived.Test.YtoomadafgkcebaaZMchC
import Derived.Test.YtoomadafgkcebaaZAddr
import Derived.Deep.Slices
namespace Go.Proofs.Ytoomadafgkcebaa
open Go.RowKit Go.ChangeShapes Go.WideShapes Go.Deep

section
variable {H : Type} {enc : TypeId × Value → H} {w : World} {base : Nat} {spare : Nat → Bool} {held : Bool}

theorem open_blocks {A : Option Addr} {n c : Nat} {d : DataW H} {p : List MemPlace} (h : DataW.Trod enc Try.prog w base spare held 26 (.slice A n c) d p) :
    ∃ l : Blks, n = l.length ∧ Sl w 8 A l.length c (blksW l) ∧ (∀ b ∈ l, b.length = 8) ∧ l.length ≤ 9223372036854775807 := by
  obtain ⟨fuel, hf⟩ := h
  rcases open_slice Try.underlying26 hf with ⟨hcs, _⟩ | ⟨a, len, cap, m, nf, D, Pl, hcs, _, hl, hm, hmm, _, hi⟩
  · simp [Value.cells] at hcs
    obtain ⟨rfl, rfl, rfl⟩ := hcs
    exact ⟨[], rfl, ⟨rfl, Nat.le_refl _, fun _ => ⟨rfl, rfl⟩, fun h => absurd h (by simp)⟩, by simp, by simp⟩
  · simp [Value.cells] at hcs
    obtain ⟨rfl, rfl, rfl⟩ := hcs
    have hlm : n ≤ m := by rw [hmm]; split <;> omega
    have key : ∀ i, i < n → ∃ y : List Int, y.length = 8 ∧ ∀ j, j < 8 → w.cell? (a.add (i * 8 + j)) = some (.int .i64 (y[j]?.getD 0)) := by
      intro i hil
      obtain ⟨cs', hcs, ht⟩ := hi i (by omega)
      obtain ⟨y, rfl, h8, -⟩ := open_cells Try.underlying47 cBlk ht
      rw [cBlk] at hcs
      obtain ⟨_, _, hat⟩ := World.cells?_some hcs
      refine ⟨y, h8, fun j hj => ?_⟩
      have h0 := hat j (by omega)
      rw [Go.Deep.add_add] at h0
      rw [h0]
      simp [show j < y.length by omega]
    obtain ⟨f, hf⟩ := choose_lt key
    unfold maxLen at hm
    have h8 : ∀ b ∈ (List.range n).map f, b.length = 8 := fun b hb => by
      obtain ⟨i, hi, rfl⟩ := List.mem_map.1 hb
      exact (hf i (by simpa using hi)).1
    have hlen : ((List.range n).map f).length = n := by simp
    refine ⟨(List.range n).map f, hlen.symm, ?_, h8, by rw [hlen]; omega⟩
    rw [hlen]
    refine ⟨by rw [blksW_length _ h8, hlen], hl, (fun h => by cases h), fun hn => ?_⟩
    obtain ⟨b, off, rfl, hlt⟩ := addr_plain ((hf 0 hn).2 0 (by omega))
    refine ⟨b, off, rfl, hlt, fun j hj => ?_⟩
    have hat := (hf (j / 8) (by omega)).2 (j % 8) (by omega)
    have he := blksW_at _ h8 (j / 8) (by rw [hlen]; omega) (j % 8) (by omega)
    have hj8 : j / 8 * 8 + j % 8 = j := by omega
    rw [hj8] at hat he
    rw [Addr.add_lit] at hat
    rw [he, hat, List.getElem?_map, List.getElem?_range (by omega)]
    rfl

end
end Go.Proofs.Ytoomadafgkcebaa
