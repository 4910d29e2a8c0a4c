/-
  Rows of records of so many cells each: their length, a place of one, the first so many, one set. They name no function and no type of the program. No conditions but those that stand there.
-/
import Derived.Test.YtldljohholgmoaaZSetLw
namespace Go.Proofs.Ytldljohholgmoaa
open Go.RowKit

section
variable {α : Type} {f : α → List Value} {k : Nat}

theorem recs_length (hf : ∀ x, (f x).length = k) : ∀ l : List α, (l.flatMap f).length = l.length * k
  | [] => by simp
  | x :: l => by rw [List.flatMap_cons, List.length_append, recs_length hf l, hf, List.length_cons, Nat.add_mul]; omega

theorem recs_at (hf : ∀ x, (f x).length = k) : ∀ (l : List α) (i : Nat) (x : α), l[i]? = some x → ∀ j, j < k → (l.flatMap f)[i * k + j]? = (f x)[j]?
  | [], i, x, h, _, _ => by simp at h
  | y :: l, 0, x, h, j, hj => by
    simp at h
    subst h
    rw [List.flatMap_cons, Nat.zero_mul, Nat.zero_add, List.getElem?_append_left (by rw [hf]; exact hj)]
  | y :: l, i + 1, x, h, j, hj => by
    have ih := recs_at hf l i x (by simpa using h) j hj
    rw [List.flatMap_cons, List.getElem?_append_right (by rw [hf, Nat.add_mul]; omega), hf, show (i + 1) * k + j - k = i * k + j by rw [Nat.add_mul]; omega, ih]

theorem recs_take (hf : ∀ x, (f x).length = k) : ∀ (l : List α) (n : Nat), (l.flatMap f).take (n * k) = (l.take n).flatMap f
  | [], n => by simp
  | x :: l, 0 => by simp
  | x :: l, n + 1 => by
    rw [List.flatMap_cons, List.take_succ_cons, List.flatMap_cons, ← recs_take hf l n, show (n + 1) * k = (f x).length + n * k by rw [hf, Nat.add_mul]; omega, List.take_length_add_append]

theorem recs_set (hf : ∀ x, (f x).length = k) (l : List α) {i : Nat} (hi : i < l.length) (y : α) : setL (l.flatMap f) (i * k) (f y) = (l.set i y).flatMap f := by
  have hl := recs_length hf l
  have hl' := recs_length hf (l.set i y)
  rw [List.length_set] at hl'
  apply List.ext_getElem?
  intro m
  by_cases hm : m < l.length * k
  · have hk : 0 < k := by
      rcases Nat.eq_zero_or_pos k with h | h
      · rw [h] at hm; omega
      · exact h
    have hp : m / k < l.length := Nat.div_lt_of_lt_mul (by rw [Nat.mul_comm]; exact hm)
    have hq : m % k < k := Nat.mod_lt _ hk
    have e : m = m / k * k + m % k := by rw [Nat.mul_comm]; exact (Nat.div_add_mod m k).symm
    rw [setL_at _ _ _ _ (by omega), hf]
    by_cases hij : m / k = i
    · have e2 := recs_at hf (l.set i y) i y (by rw [List.getElem?_set_self hi]) (m % k) hq
      rw [hij] at e
      rw [if_pos (by omega), show m - i * k = m % k by omega, ← e2, ← e]
    · have hx : l[m / k]? = some l[m / k] := List.getElem?_eq_getElem hp
      have e1 := recs_at hf l (m / k) _ hx (m % k) hq
      have e2 := recs_at hf (l.set i y) (m / k) l[m / k] (by rw [List.getElem?_set_ne (Ne.symm hij)]; exact hx) (m % k) hq
      rw [← e] at e1 e2
      rw [if_neg, e1, e2]
      rintro ⟨h1, h2⟩
      apply hij
      refine Nat.div_eq_of_lt_le h1 ?_
      rw [Nat.add_mul, Nat.one_mul]
      exact h2
  · rw [List.getElem?_eq_none (by rw [setL_length]; omega), List.getElem?_eq_none (by omega)]

/-- one cell of a record set. -/
theorem recs_set1 (hf : ∀ x, (f x).length = k) (l : List α) {i : Nat} {x y : α} (hx : l[i]? = some x) {j : Nat} (hj : j < k) {u : Value} (hy : f y = (f x).set j u) : (l.flatMap f).set (i * k + j) u = (l.set i y).flatMap f := by
  have hi : i < l.length := by
    rcases Nat.lt_or_ge i l.length with h | h
    · exact h
    · rw [List.getElem?_eq_none h] at hx; cases hx
  have hl := recs_length hf l
  have hik : i * k + j < l.length * k := by
    have h := Nat.mul_le_mul_right k (show i + 1 ≤ l.length from hi)
    rw [Nat.add_mul, Nat.one_mul] at h
    omega
  rw [← recs_set hf l hi y]
  apply List.ext_getElem?
  intro m
  by_cases hm : m < l.length * k
  · rw [setL_at _ _ _ _ (by omega), hf]
    by_cases hin : i * k ≤ m ∧ m < i * k + k
    · rw [if_pos hin, hy]
      have e1 := recs_at hf l i x hx (m - i * k) (by omega)
      rw [show i * k + (m - i * k) = m by omega] at e1
      by_cases hmj : m = i * k + j
      · rw [hmj, List.getElem?_set_self (by omega), show i * k + j - i * k = j by omega, List.getElem?_set_self (by rw [hf]; exact hj)]
      · rw [List.getElem?_set_ne (by omega), e1, List.getElem?_set_ne (by omega)]
    · rw [if_neg hin, List.getElem?_set_ne (by omega)]
  · rw [List.getElem?_eq_none (by rw [List.length_set]; omega), List.getElem?_eq_none (by rw [setL_length]; omega)]

theorem recs_one (h1 : ∀ x, ∀ u ∈ f x, u.oneCell' = true) (l : List α) : ∀ u ∈ l.flatMap f, u.oneCell' = true := by
  intro u hu
  obtain ⟨x, _, hx⟩ := List.mem_flatMap.1 hu
  exact h1 x u hx

/-- where a record lies in a slice of such. -/
theorem Sl.recs {w : World} {A : Option Addr} {n c : Nat} {l : List α} (h : Sl w k A n c (l.flatMap f)) (hf : ∀ x, (f x).length = k) (hk : 0 < k) {i : Nat} {x : α} (hx : l[i]? = some x) :
    ∃ b off, A = some ⟨b, off, none⟩ ∧ b < w.heap.size ∧ ∀ j, j < k → w.cell? ⟨b, off + i * k + j, none⟩ = (f x)[j]? := by
  have hi : i < l.length := by
    rcases Nat.lt_or_ge i l.length with h | h
    · exact h
    · rw [List.getElem?_eq_none h] at hx; cases hx
  have hl := h.1
  rw [recs_length hf] at hl
  have hln : l.length = n := Nat.eq_of_mul_eq_mul_right hk hl
  obtain ⟨b, off, rfl, hb, hc⟩ := h.2.2.2 (by omega)
  refine ⟨b, off, rfl, hb, fun j hj => ?_⟩
  have hik : i * k + j < n * k := by
    have h := Nat.mul_le_mul_right k (show i + 1 ≤ n by omega)
    rw [Nat.add_mul, Nat.one_mul] at h
    omega
  rw [Nat.add_assoc, hc _ hik, recs_at hf l i x hx j hj]

end
end Go.Proofs.Ytldljohholgmoaa
