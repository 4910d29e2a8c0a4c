/-
  Behind Start each sector is as it was sure, or is a loose write's data, or a torn write is among its own. No conditions.
-/
import Derived.Test.YthcfncpkeldapaaReadsWalk
namespace Go.Proofs.Ythcfncpkeldapaa
open Go.RowKit

/-- One of the first k writes is to this sector, and is what it holds, or is the torn one. -/
def Good (l : List (Int × ByteArray)) (torn : Int) (at_ : Nat) (y : ByteArray) (i : Nat) : Prop :=
  ∃ x, l[i]? = some x ∧ x.1 = (at_ : Int) ∧ (x.2 = y ∨ (i : Int) = torn)

theorem startTo_fits (sec : List ByteArray) (l : List (Int × ByteArray)) (stay : List Bool) (torn bytes : Int) (at_ : Nat) (ha : at_ < sec.length) (hl : ∀ x ∈ l, 0 ≤ x.1 ∧ x.1 < sec.length) (k : Nat) :
    (startTo sec l stay torn bytes k).getD at_ ByteArray.empty = sec.getD at_ ByteArray.empty ∨
      ∃ i, i < k ∧ Good l torn at_ ((startTo sec l stay torn bytes k).getD at_ ByteArray.empty) i := by
  induction k with
  | zero => exact .inl rfl
  | succ k ih =>
    have hlen : at_ < (startTo sec l stay torn bytes k).length := by rw [startTo_length]; exact ha
    -- whatever the last write does, if this sector is as it was before it, all is as before
    have back : (startTo sec l stay torn bytes (k + 1)).getD at_ ByteArray.empty = (startTo sec l stay torn bytes k).getD at_ ByteArray.empty →
        ((startTo sec l stay torn bytes (k + 1)).getD at_ ByteArray.empty = sec.getD at_ ByteArray.empty ∨
          ∃ i, i < k + 1 ∧ Good l torn at_ ((startTo sec l stay torn bytes (k + 1)).getD at_ ByteArray.empty) i) := by
      intro e
      rw [e]
      rcases ih with h | ⟨i, hi, hg⟩
      · exact .inl h
      · exact .inr ⟨i, by omega, hg⟩
    cases hx : l[k]? with
    | none => exact back (by rw [startTo, hx])
    | some x =>
      obtain ⟨h0, _⟩ := hl x (List.mem_of_getElem? hx)
      by_cases hat : x.1 = (at_ : Int)
      · by_cases ht : (k : Int) = torn
        · exact .inr ⟨k, by omega, x, hx, hat, .inr ht⟩
        · by_cases hs : stay.getD (k % stay.length) false = true
          · refine .inr ⟨k, by omega, x, hx, hat, .inl ?_⟩
            rw [startTo, hx]
            simp only [if_neg ht, if_pos hs]
            rw [List.getD_eq_getElem?_getD, hat, Int.toNat_natCast, List.getElem?_set_self hlen]
            rfl
          · refine back ?_
            rw [startTo, hx]
            simp only [if_neg ht, if_neg hs]
      · refine back ?_
        have hne : x.1.toNat ≠ at_ := by omega
        rw [startTo, hx]
        simp only
        split
        · simp only [List.getD_eq_getElem?_getD]; rw [List.getElem?_set_ne hne]
        · split
          · simp only [List.getD_eq_getElem?_getD]; rw [List.getElem?_set_ne hne]
          · rfl

/-- Puts behind a flush: the loose writes alone grow; nothing is refused for want of power. -/
def doPut (D : Dk) (x : ActD) : Dk := if x.kind = 0 then (putD D x.at_ x.data).1 else D

def putsD (D : Dk) (l : List ActD) : Dk := l.foldl doPut D

theorem putsD_snoc (D : Dk) (l : List ActD) (k : Nat) (h : k < l.length) : putsD D (l.take (k + 1)) = doPut (putsD D (l.take k)) l[k] := by
  unfold putsD
  rw [List.take_succ_eq_append_getElem h, List.foldl_append]
  rfl

/-- What holds of the device while puts alone are made. -/
structure PutsInv (s : List ByteArray) (k : Nat) (D : Dk) : Prop where
  ok : D.ok
  sec : D.sec = s
  down : D.down = false
  left : D.left = -1
  len : D.loose.length ≤ k

theorem puts_step {s : List ByteArray} {k : Nat} {D : Dk} (h : PutsInv s k D) (x : ActD) : PutsInv s (k + 1) (doPut D x) := by
  unfold doPut
  split
  · have h1 := putD_ok D x.at_ x.data h.ok
    have h2 := putD_len D x.at_ x.data
    have h3 := putD_sec D x.at_ x.data
    have hl := h.len
    refine ⟨h1, h3.trans h.sec, ?_, ?_, by omega⟩
    · unfold putD
      split
      · exact h.down
      · split
        · exact h.down
        · split
          · rename_i h4; rw [h.down, h.left] at h4; simp at h4
          · exact h.down
    · unfold putD
      split
      · exact h.left
      · split
        · exact h.left
        · split
          · exact h.left
          · show leftD D.left = -1
            rw [h.left]; rfl
  · exact ⟨h.ok, h.sec, h.down, h.left, by have := h.len; omega⟩

theorem puts_inv {s : List ByteArray} {D : Dk} (h : PutsInv s 0 D) (l : List ActD) (k : Nat) (hk : k ≤ l.length) : PutsInv s k (putsD D (l.take k)) := by
  induction k with
  | zero => exact h
  | succ k ih =>
    rw [putsD_snoc D l k (by omega)]
    exact puts_step (ih (by omega)) _

end Go.Proofs.Ythcfncpkeldapaa
