/-
  Bytes as a string, on plain numbers; rows the first of which are filled. No conditions but that bytes are below 256.
-/
import Derived.Test.YtgoamkneenmbgaaStr
import Derived.WalkKit
namespace Go.Proofs.Ytgoamkneenmbgaa
open Go.RowKit

/-- the string of some bytes. -/
def strL (l : List Nat) : ByteArray := ⟨(l.map UInt8.ofNat).toArray⟩

theorem bL_strL (l : List Nat) (h : ∀ b ∈ l, b < 256) : bL (strL l) = l := by
  unfold bL strL
  simp only [List.map_map]
  conv => rhs; rw [← List.map_id l]
  apply List.map_congr_left
  intro b hb
  have := h b hb
  simp only [Function.comp_apply, id_eq]
  rw [UInt8.toNat_ofNat']
  omega

theorem strL_size (l : List Nat) : (strL l).size = l.length := by
  show ((l.map UInt8.ofNat).toArray).size = _
  simp

theorem fold_strL (l : List Nat) : (l.map fun n : Nat => (n : Int)).foldl (fun r n => r.push (UInt8.ofNat n.toNat)) ByteArray.empty = strL l := by
  have : ∀ (l : List Nat) (r : ByteArray), (l.map fun n : Nat => (n : Int)).foldl (fun r n => r.push (UInt8.ofNat n.toNat)) r = ⟨r.data ++ (l.map UInt8.ofNat).toArray⟩ := by
    intro l
    induction l with
    | nil => intro r; apply ByteArray.ext; simp
    | cons b l ih =>
      intro r
      rw [List.map_cons, List.foldl_cons, ih]
      apply ByteArray.ext
      simp
  rw [this]
  apply ByteArray.ext
  simp [strL]

/-- the first i as x has them, the others as y. -/
def mixF (N i : Nat) (x y : Nat → Nat) : List Nat := (List.range N).map fun j => if j < i then x j else y j

theorem mixF_length (N i : Nat) (x y : Nat → Nat) : (mixF N i x y).length = N := by simp [mixF]
theorem mixF_at (N i : Nat) (x y : Nat → Nat) (j : Nat) (h : j < N) : (mixF N i x y)[j]? = some (if j < i then x j else y j) := by simp [mixF, h]
theorem mixF_set (N i : Nat) (x y : Nat → Nat) (h : i < N) : (mixF N i x y).set i (x i) = mixF N (i + 1) x y := by
  apply List.ext_getElem?
  intro j
  by_cases hj : j < N
  · by_cases hij : i = j
    · subst hij
      rw [List.getElem?_set_self (by rw [mixF_length]; exact h), mixF_at _ _ _ _ _ h, if_pos (by omega)]
    · rw [List.getElem?_set_ne hij, mixF_at _ _ _ _ _ hj, mixF_at _ _ _ _ _ hj]
      by_cases hji : j < i
      · rw [if_pos hji, if_pos (by omega)]
      · rw [if_neg hji, if_neg (by omega)]
  · rw [List.getElem?_eq_none (by simp [mixF]; omega), List.getElem?_eq_none (by simp [mixF]; omega)]
theorem mixF_full (N : Nat) (x y : Nat → Nat) : mixF N N x y = (List.range N).map x := by
  unfold mixF
  apply List.map_congr_left
  intro j hj
  rw [if_pos (by simpa using hj)]

theorem mixF_nought (N : Nat) (x : Nat → Nat) : mixF N 0 x (fun _ => 0) = List.replicate N 0 := by
  apply List.ext_getElem?
  intro j
  by_cases hj : j < N
  · rw [mixF_at _ _ _ _ _ hj, if_neg (by omega), List.getElem?_replicate, if_pos hj]
  · rw [List.getElem?_eq_none (by simp [mixF]; omega), List.getElem?_eq_none (by simp; omega)]

end Go.Proofs.Ytgoamkneenmbgaa
