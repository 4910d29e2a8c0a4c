/-
  A string's bytes as a list of numbers. No conditions.
-/
import Derived.Test.YtbgdadofpjjpdaaRows
namespace Go.Proofs.Ytbgdadofpjjpdaa

/-- a string's bytes, as numbers. -/
def bL (s : ByteArray) : List Nat := s.data.toList.map (·.toNat)

theorem bL_length (s : ByteArray) : (bL s).length = s.size := by simp [bL]
theorem bL_lt (s : ByteArray) : ∀ b ∈ bL s, b < 256 := by
  intro b hb
  obtain ⟨x, _, rfl⟩ := List.mem_map.1 hb
  exact x.toNat_lt
theorem bL_get (s : ByteArray) (i : Nat) (h : i < s.size) : (bL s)[i]? = some (s[i]'h).toNat := by
  have : s.data.toList[i]? = some (s[i]'h) := by
    rw [Array.getElem?_toList]
    exact Array.getElem?_eq_getElem h
  simp [bL, this]
theorem bL_take (s : ByteArray) (i : Nat) (h : i < s.size) : (bL s).take (i + 1) = (bL s).take i ++ [(s[i]'h).toNat] := by
  rw [List.take_add_one, bL_get s i h]
  rfl
theorem bL_take_lt (s : ByteArray) (i : Nat) : ∀ b ∈ (bL s).take i, b < 256 := fun b hb => bL_lt s b (List.mem_of_mem_take hb)
theorem bL_append (s t : ByteArray) : bL (s ++ t) = bL s ++ bL t := by simp [bL]

end Go.Proofs.Ytbgdadofpjjpdaa
