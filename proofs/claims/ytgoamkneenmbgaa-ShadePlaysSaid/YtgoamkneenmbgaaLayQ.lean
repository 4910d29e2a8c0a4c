/-
  There and back, on plain numbers: what is read of the bytes of numbers is those numbers; numbers from 0 on rise as their bytes do. No conditions but those that stand there.
-/
import Derived.Test.YtgoamkneenmbgaaLayN
import Derived.Lib.SmallJoins
namespace Go.Proofs.Ytgoamkneenmbgaa
open Go.RowKit

theorem uOf_lt (n : Int) : uOf n < 18446744073709551616 := by unfold uOf; omega

theorem byteN_step (n : Int) (k : Nat) (h : k < 8) : uOf n / 2 ^ (8 * (8 - k)) * 256 + byteN n k = uOf n / 2 ^ (8 * (7 - k)) := by
  have e : 8 * (8 - k) = 8 * (7 - k) + 8 := by omega
  rw [byteN, e, Nat.pow_add, ← Nat.div_div_eq_div_mul]
  generalize uOf n / 2 ^ (8 * (7 - k)) = x
  omega

/-- the bytes of a number stand there. -/
def Stands (s : ByteArray) (p : Nat) (n : Int) : Prop := ∀ k, k < 8 → (bL s)[p + k]? = some (byteN n k)

theorem byte_there {s : ByteArray} {p b : Nat} (h : (bL s)[p]? = some b) : byteV s ⟨(p : Int), false⟩ = b ∧ byteR s ⟨(p : Int), false⟩ = ⟨((p + 1 : Nat) : Int), false⟩ := by
  have hp : p < s.size := by
    rcases Nat.lt_or_ge p s.size with h1 | h1
    · exact h1
    · rw [List.getElem?_eq_none (by rw [bL_length]; exact h1)] at h; cases h
  refine ⟨?_, by rw [byteR_of hp]; simp⟩
  rw [byteV_of hp]
  rw [bL_get s p hp] at h
  exact Option.some.inj h

theorem it_numB {s : ByteArray} {p : Nat} {n : Int} (h : Stands s p n) : ∀ k, k ≤ 8 → itR s k ⟨(p : Int), false⟩ = ⟨((p + k : Nat) : Int), false⟩ ∧ itU s k ⟨(p : Int), false⟩ = uOf n / 2 ^ (8 * (8 - k))
  | 0, _ => ⟨rfl, by
      have := uOf_lt n
      show 0 = uOf n / 2 ^ 64
      omega⟩
  | k + 1, hk => by
    obtain ⟨h1, h2⟩ := it_numB h k (by omega)
    obtain ⟨h3, h4⟩ := byte_there (h k (by omega))
    have hb := byteN_step n k (by omega)
    rw [itR, h1, h4, itU, h1, h2, h3]
    refine ⟨rfl, ?_⟩
    have hlt : uOf n / 2 ^ (8 * (8 - k)) < 72057594037927936 := by
      have := uOf_lt n
      have e : 2 ^ (8 * (8 - k)) = 2 ^ (8 * (7 - k)) * 256 := by rw [show 8 * (8 - k) = 8 * (7 - k) + 8 by omega, Nat.pow_add]
      have h1 : 1 ≤ 2 ^ (8 * (7 - k)) := Nat.one_le_two_pow
      rw [Nat.div_lt_iff_lt_mul (by omega)]
      omega
    rw [show 8 * (8 - (k + 1)) = 8 * (7 - k) by omega, ← hb]
    omega

theorem sgn_uOf (n : Int) (h : -9223372036854775808 ≤ n ∧ n ≤ 9223372036854775807) : sgn (uOf n) = n := by
  unfold sgn uOf wrap64
  omega

theorem num_back {s : ByteArray} {p : Nat} {n : Int} (h : Stands s p n) (hn : -9223372036854775808 ≤ n ∧ n ≤ 9223372036854775807) :
    numV s ⟨(p : Int), false⟩ = n ∧ numR s ⟨(p : Int), false⟩ = ⟨((p + 8 : Nat) : Int), false⟩ := by
  obtain ⟨h1, h2⟩ := it_numB h 8 (Nat.le_refl _)
  have hR : numR s ⟨(p : Int), false⟩ = ⟨((p + 8 : Nat) : Int), false⟩ := h1
  refine ⟨?_, hR⟩
  rw [numV, hR, if_neg (by simp), h2]
  have : uOf n / 2 ^ (8 * (8 - 8)) = uOf n := by simp
  rw [this, sgn_uOf n hn]

theorem itN_back {s : ByteArray} {p : Nat} {l : List Int} (h : ∀ i, i < l.length → Stands s (p + 8 * i) (l[i]?.getD 0)) (hn : ∀ x ∈ l, -9223372036854775808 ≤ x ∧ x ≤ 9223372036854775807) :
    ∀ i, i ≤ l.length → itN s i ⟨(p : Int), false⟩ = ⟨((p + 8 * i : Nat) : Int), false⟩
  | 0, _ => rfl
  | i + 1, hi => by
    have hx : l[i]?.getD 0 ∈ l := by
      rw [List.getElem?_eq_getElem (by omega)]
      exact List.getElem_mem _
    rw [itN, itN_back h hn i (by omega), (num_back (h i (by omega)) (hn _ hx)).2]
    rfl

theorem numsOf_back {s : ByteArray} {p : Nat} {l : List Int} (h : ∀ i, i < l.length → Stands s (p + 8 * i) (l[i]?.getD 0)) (hn : ∀ x ∈ l, -9223372036854775808 ≤ x ∧ x ≤ 9223372036854775807) :
    numsOf s l.length ⟨(p : Int), false⟩ = l := by
  apply List.ext_getElem?
  intro i
  by_cases hi : i < l.length
  · have hx : l[i]?.getD 0 ∈ l := by
      rw [List.getElem?_eq_getElem hi]
      exact List.getElem_mem _
    have := (num_back (h i hi) (hn _ hx)).1
    rw [numsOf, List.getElem?_map, List.getElem?_range hi]
    simp only [Option.map_some]
    rw [itN_back h hn i (by omega), this, List.getElem?_eq_getElem hi]
    rfl
  · rw [List.getElem?_eq_none (by rw [numsOf_length]; omega), List.getElem?_eq_none (by omega)]

/-- where a list of numbers stands, it is read. -/
theorem nums_back {s : ByteArray} {p : Nat} {l : List Int} {most : Int} (hc : (bL s)[p]? = some l.length) (h : ∀ i, i < l.length → Stands s (p + 1 + 8 * i) (l[i]?.getD 0)) (hn : ∀ x ∈ l, -9223372036854775808 ≤ x ∧ x ≤ 9223372036854775807)
    (hm : (l.length : Int) ≤ most) : numsL s most ⟨(p : Int), false⟩ = l ∧ numsR s most ⟨(p : Int), false⟩ = ⟨((p + 1 + 8 * l.length : Nat) : Int), false⟩ := by
  obtain ⟨h1, h2⟩ := byte_there hc
  have hA : numsA s most ⟨(p : Int), false⟩ = ⟨((p + 1 : Nat) : Int), false⟩ := by
    rw [numsA, h1, h2, if_neg (by simp; omega)]
  have hR : numsR s most ⟨(p : Int), false⟩ = ⟨((p + 1 + 8 * l.length : Nat) : Int), false⟩ := by
    rw [numsR, hA, h1, itN_back h hn _ (Nat.le_refl _)]
  refine ⟨?_, hR⟩
  rw [numsL, hR, if_neg (by simp), hA, h1, numsOf_back h hn]

/-- a list that is too long is none. -/
theorem nums_much {s : ByteArray} {p : Nat} {n : Nat} {most : Int} (hc : (bL s)[p]? = some n) (hm : most < (n : Int)) : numsL s most ⟨(p : Int), false⟩ = [] ∧ (numsR s most ⟨(p : Int), false⟩).bad = true := by
  obtain ⟨h1, h2⟩ := byte_there hc
  have hA : numsA s most ⟨(p : Int), false⟩ = ⟨((p + 1 : Nat) : Int), true⟩ := by rw [numsA_much (by rw [h1]; exact hm), h2]
  have hR : (numsR s most ⟨(p : Int), false⟩).bad = true := by rw [numsR, hA, itN_bad rfl]
  exact ⟨by rw [numsL, if_pos hR], hR⟩

theorem numB_at (n : Int) (k : Nat) (h : k < 8) : (numB n)[k]? = some (byteN n k) := by simp [numB, h]

theorem flat_at (l : List Int) (i k : Nat) (hi : i < l.length) (hk : k < 8) : (l.flatMap numB)[8 * i + k]? = some (byteN (l[i]?.getD 0) k) := by
  induction l generalizing i with
  | nil => simp at hi
  | cons x l ih =>
    cases i with
    | zero => rw [List.flatMap_cons, List.getElem?_append_left (by rw [numB_length]; omega)]; simpa using numB_at x k hk
    | succ i =>
      rw [List.flatMap_cons, List.getElem?_append_right (by rw [numB_length]; omega), numB_length, show 8 * (i + 1) + k - 8 = 8 * i + k by omega, ih i (by simpa using hi)]
      simp

theorem numsB_small {l : List Int} (h : l.length ≤ 255) : numsB l = l.length :: l.flatMap numB := by
  rw [numsB, List.take_of_length_le h, Nat.min_eq_left h]

theorem numB_lt (n : Int) : ∀ b ∈ numB n, b < 256 := by
  intro b hb
  obtain ⟨k, _, rfl⟩ := List.mem_map.1 hb
  exact byteN_lt n k
theorem flat_lt (l : List Int) : ∀ b ∈ l.flatMap numB, b < 256 := by
  intro b hb
  obtain ⟨x, _, hx⟩ := List.mem_flatMap.1 hb
  exact numB_lt x b hx
theorem numsB_lt (l : List Int) : ∀ b ∈ numsB l, b < 256 := by
  intro b hb
  rcases List.mem_cons.1 hb with rfl | hb
  · omega
  · exact flat_lt _ b hb

end Go.Proofs.Ytgoamkneenmbgaa
