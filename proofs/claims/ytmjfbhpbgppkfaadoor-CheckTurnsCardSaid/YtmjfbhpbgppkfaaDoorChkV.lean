/-
  Plain facts for CheckTurns: bytes of which up to four side by side are turned; and what []byte of a string lays. No conditions but that bytes are below 256.
-/
import Derived.Test.YtmjfbhpbgppkfaaDoorChkW
import Derived.Test.YtmjfbhpbgppkfaaDoorByt
import Derived.StillTailTactics
namespace Go.Proofs.YtmjfbhpbgppkfaaDoor
open Go.RowKit

theorem bytesWorld_below (w : World) (e : TypeId) (s : ByteArray) : Below w.heap.size w (Lib.bytesWorld w e s) :=
  ⟨rfl, rfl, rfl, by rw [Lib.bytesWorld_size]; omega, fun k hk => Lib.bytesWorld_at_old w e s k hk⟩

theorem bytesWorld_by (w : World) (e : TypeId) (s : ByteArray) : By (Lib.bytesWorld w e s) w.heap.size (bL s) := by
  refine ⟨by rw [Lib.bytesWorld_size]; omega, fun j hj => ?_, fun j hj => ?_⟩
  · have hj' : j < s.size := by rwa [bL_length] at hj
    rw [Lib.bytesWorld_cell w e s j hj', bL_get s j hj']
    have : s.data.toList.getD j 0 = s[j]'hj' := by
      have h2 : j < s.data.toList.length := by simpa using hj'
      rw [List.getD_eq_getElem?_getD, List.getElem?_eq_getElem h2]
      rfl
    rw [this]
    rfl
  · have hj' : j < s.size := by rwa [bL_length] at hj
    have hsz : s.size ≤ (Lib.bytesCells w e s).size := by simp [Lib.bytesCells]
    simp only [World.frozen?, Lib.bytesWorld_at_new]
    simp
    omega

/-- the bytes as they were turned, and as they were. -/
def newF (s : ByteArray) (k : Nat) (by_ : List Nat) : Nat → Nat := fun j => if j < k then (bL s)[j]?.getD 0 else (bL s)[j]?.getD 0 ^^^ by_[j - k]?.getD 0
def oldF (s : ByteArray) : Nat → Nat := fun j => (bL s)[j]?.getD 0
/-- is one of the first i another than nought? -/
def othN (by_ : List Nat) (i : Nat) : Bool := (List.range i).any fun j => by_[j]?.getD 0 != 0

theorem othN_succ (by_ : List Nat) (i : Nat) : othN by_ (i + 1) = (othN by_ i || by_[i]?.getD 0 != 0) := by
  simp [othN, List.range_succ]

theorem mix_start (s : ByteArray) (k : Nat) (by_ : List Nat) : mixF s.size k (newF s k by_) (oldF s) = bL s := by
  apply List.ext_getElem?
  intro j
  by_cases hj : j < s.size
  · rw [mixF_at _ _ _ _ _ hj, bL_get s j hj]
    by_cases hjk : j < k
    · rw [if_pos hjk, newF, if_pos hjk, bL_get s j hj]; rfl
    · rw [if_neg hjk, oldF, bL_get s j hj]; rfl
  · rw [List.getElem?_eq_none (by rw [mixF_length]; omega), List.getElem?_eq_none (by rw [bL_length]; omega)]

theorem xor_cancel (a b : Nat) : a ^^^ b ^^^ a = b := by rw [Nat.xor_comm, ← Nat.xor_assoc, Nat.xor_self, Nat.zero_xor]

theorem xorL_get : ∀ (l m : List Nat) (j : Nat), l.length = m.length → j < l.length → (xorL l m)[j]? = some (l[j]?.getD 0 ^^^ m[j]?.getD 0)
  | [], _, j, _, h => by simp at h
  | _ :: _, [], _, h, _ => by simp at h
  | x :: l, y :: m, 0, _, _ => by simp [xorL]
  | x :: l, y :: m, j + 1, h, hj => by
    rw [xorL, List.getElem?_cons_succ, xorL_get l m j (by simpa using h) (by simpa using hj)]
    simp

theorem mix_diff (s : ByteArray) (k m : Nat) (by_ : List Nat) (h : k + m ≤ s.size) :
    xorL (mixF s.size (k + m) (newF s k by_) (oldF s)) (bL s) = List.replicate k 0 ++ ((List.range m).map (fun j => by_[j]?.getD 0) ++ List.replicate (s.size - (k + m)) 0) := by
  have hl : (mixF s.size (k + m) (newF s k by_) (oldF s)).length = (bL s).length := by rw [mixF_length, bL_length]
  apply List.ext_getElem?
  intro j
  by_cases hj : j < s.size
  · rw [xorL_get _ _ j hl (by rw [mixF_length]; exact hj), mixF_at _ _ _ _ _ hj, bL_get s j hj]
    simp only [Option.getD_some]
    by_cases hjk : j < k
    · rw [if_pos (by omega), newF, if_pos hjk, bL_get s j hj, List.getElem?_append_left (by simpa using hjk)]
      simp [hjk]
    · by_cases hjm : j < k + m
      · rw [if_pos hjm, newF, if_neg hjk, bL_get s j hj, List.getElem?_append_right (by simp; omega), List.getElem?_append_left (by simp; omega)]
        have : j - k < m := by omega
        simp [this, xor_cancel]
      · rw [if_neg hjm, oldF, bL_get s j hj, List.getElem?_append_right (by simp; omega), List.getElem?_append_right (by simp; omega)]
        have : j - k - m < s.size - (k + m) := by omega
        simp [this]
  · rw [List.getElem?_eq_none (by rw [xorL_length _ _ hl, mixF_length]; omega), List.getElem?_eq_none (by simp; omega)]

/-- what the statement says, on plain numbers. -/
theorem turns_agree (s : ByteArray) (k m : Nat) (by_ : List Nat) (h : k + m ≤ s.size) (hm : m ≤ 4) (hb : ∀ b ∈ by_, b < 256) :
    (!(sumN 0 (mixF s.size (k + m) (newF s k by_) (oldF s)) == sumN 0 (bL s))) = othN by_ m := by
  have h1 := sumN_eq (mixF s.size (k + m) (newF s k by_) (oldF s)) (bL s) (by rw [mixF_length, bL_length])
  rw [mix_diff s k m by_ h, turned _ _ _ (by simpa using hm) (by
    intro b hb'
    obtain ⟨j, _, rfl⟩ := List.mem_map.1 hb'
    cases hj : by_[j]? with
    | none => decide
    | some v => exact hb v (List.mem_of_getElem? hj))] at h1
  by_cases he : sumN 0 (mixF s.size (k + m) (newF s k by_) (oldF s)) = sumN 0 (bL s)
  · have h2 := h1.1 he
    rw [he, beq_self_eq_true]
    symm
    simp only [Bool.not_true, othN, List.any_eq_false]
    intro j hj
    have := h2 _ (List.mem_map.2 ⟨j, hj, rfl⟩)
    simp [this]
  · have h2 : othN by_ m = true := by
      cases ho : othN by_ m with
      | true => rfl
      | false =>
        exfalso
        apply he
        apply h1.2
        intro b hb'
        obtain ⟨j, hj, rfl⟩ := List.mem_map.1 hb'
        simp only [othN, List.any_eq_false] at ho
        have := ho j hj
        simpa using this
    rw [h2]
    simp [he]

end Go.Proofs.YtmjfbhpbgppkfaaDoor
