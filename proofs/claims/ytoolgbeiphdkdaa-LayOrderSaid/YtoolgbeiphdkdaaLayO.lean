/-
  The walk of LayOrder: true, in whatever memory.
-/
import Derived.Test.YtoolgbeiphdkdaaLayW
import Derived.Test.YtoolgbeiphdkdaaLayQ
import Derived.Lib.Strings
namespace Go.Proofs.Ytoolgbeiphdkdaa
open Go.RowKit

/-- bytes as one number. -/
def valN : List Nat → Nat
  | [] => 0
  | b :: l => b * 256 ^ l.length + valN l

theorem valN_lt : ∀ l : List Nat, (∀ b ∈ l, b < 256) → valN l < 256 ^ l.length
  | [], _ => by simp [valN]
  | b :: l, h => by
    have hb := h b (by simp)
    have ih := valN_lt l (fun c hc => h c (by simp [hc]))
    rw [valN, List.length_cons, Nat.pow_succ]
    have : (b + 1) * 256 ^ l.length ≤ 256 * 256 ^ l.length := Nat.mul_le_mul_right _ (by omega)
    rw [Nat.add_mul] at this
    omega

theorem valN_snoc : ∀ (l : List Nat) (b : Nat), valN (l ++ [b]) = valN l * 256 + b
  | [], b => by simp [valN]
  | c :: l, b => by
    rw [List.cons_append, valN, valN, valN_snoc l b, List.length_append, List.length_singleton, Nat.pow_succ, Nat.add_mul, Nat.mul_assoc]
    omega

theorem valN_numB (n : Int) : valN (numB n) = uOf n := by
  have key : ∀ k, k ≤ 8 → valN ((numB n).take k) = uOf n / 2 ^ (8 * (8 - k)) := by
    intro k
    induction k with
    | zero =>
      intro _
      have := uOf_lt n
      show 0 = uOf n / 2 ^ 64
      omega
    | succ k ih =>
      intro hk
      rw [numB_take n k (by omega), valN_snoc, ih (by omega), byteN_step n k (by omega)]
      rw [show 8 * (8 - (k + 1)) = 8 * (7 - k) by omega]
  have := key 8 (Nat.le_refl _)
  rw [List.take_of_length_le (by rw [numB_length]; omega)] at this
  rw [this]
  simp

theorem less_valN : ∀ (l m : List Nat), l.length = m.length → (∀ b ∈ l, b < 256) → (∀ b ∈ m, b < 256) → Op.bytesLess (l.map UInt8.ofNat) (m.map UInt8.ofNat) = decide (valN l < valN m)
  | [], [], _, _, _ => by simp [Op.bytesLess, valN]
  | [], _ :: _, h, _, _ => by simp at h
  | _ :: _, [], h, _, _ => by simp at h
  | b :: l, c :: m, h, hb, hc => by
    have hl : l.length = m.length := by simpa using h
    have ih := less_valN l m hl (fun x hx => hb x (by simp [hx])) (fun x hx => hc x (by simp [hx]))
    have b1 := hb b (by simp)
    have c1 := hc c (by simp)
    have v1 := valN_lt l (fun x hx => hb x (by simp [hx]))
    have v2 := valN_lt m (fun x hx => hc x (by simp [hx]))
    rw [List.map_cons, List.map_cons, Op.bytesLess, ih, valN, valN, ← hl]
    rw [← hl] at v2
    have e1 : (UInt8.ofNat b < UInt8.ofNat c) ↔ b < c := by
      rw [UInt8.lt_iff_toNat_lt, UInt8.toNat_ofNat', UInt8.toNat_ofNat']
      omega
    have e2 : (UInt8.ofNat b == UInt8.ofNat c) = decide (b = c) := by
      rw [Bool.eq_iff_iff]
      simp only [beq_iff_eq, decide_eq_true_eq]
      constructor
      · intro h
        have := congrArg UInt8.toNat h
        rw [UInt8.toNat_ofNat', UInt8.toNat_ofNat'] at this
        omega
      · rintro rfl; rfl
    rw [e2]
    generalize 256 ^ l.length = P at *
    rcases Nat.lt_trichotomy b c with hlt | rfl | hgt
    · have : (b + 1) * P ≤ c * P := Nat.mul_le_mul_right _ hlt
      rw [Nat.add_mul] at this
      have hd : valN l + b * P < valN m + c * P := by omega
      simp [e1, hlt]
      omega
    · simp [e1]
    · have : (c + 1) * P ≤ b * P := Nat.mul_le_mul_right _ hgt
      rw [Nat.add_mul] at this
      have h1 : ¬ b < c := by omega
      have h2 : ¬ b = c := by omega
      simp [e1, h1, h2]
      omega

theorem num_less (a b : Int) (ha : 0 ≤ a) (hb : 0 ≤ b) (ha' : a ≤ 9223372036854775807) (hb' : b ≤ 9223372036854775807) :
    Op.bytesLess (strL (numB a)).toList (strL (numB b)).toList = decide (a < b) := by
  rw [Lib.toList_data, Lib.toList_data]
  show Op.bytesLess ((numB a).map UInt8.ofNat) ((numB b).map UInt8.ofNat) = _
  rw [less_valN _ _ (by rw [numB_length, numB_length]) (numB_lt a) (numB_lt b), valN_numB, valN_numB]
  have e1 : uOf a < uOf b ↔ a < b := by unfold uOf; omega
  simp [e1]

set_option maxHeartbeats 1000000 in
theorem layOrder_main (a b : Int) (w : World) (ha : 0 ≤ a) (hb : 0 ≤ b) (ha' : a ≤ 9223372036854775807) (hb' : b ≤ 9223372036854775807) :
    Calls Try.prog 6 #[.int .i64 a, .int .i64 b] w
      fun e w' => e = .returned (.bool true) ∧ Below w.heap.size w w' := by
  have d1 : ¬ a < 0 := by omega
  have d2 : ¬ b < 0 := by omega
  have hle := num_less a b ha hb ha' hb'
  have hsz : (strL (numB a)).size = 8 := by rw [strL_size, numB_length]
  have c1 := num_str a
  have c2 := num_str b
  generalize strL (numB a) = A at *
  generalize strL (numB b) = B at *
  go_enter Try.func6, Try.ntmps6
  go_wp2_with (go_at_call 8; go_must ((with_reducible refine (awake3 _).mono ?_); rintro e w1 ⟨rfl, hb1⟩))
  refine (c1 _).mono ?_
  rintro e w2 ⟨rfl, hb2⟩
  go_wp2_with fail
  refine (c2 _).mono ?_
  rintro e w3 ⟨rfl, hb3⟩
  go_wp2_with fail
  refine (c1 _).mono ?_
  rintro e w4 ⟨rfl, hb4⟩
  go_wp2
  go_ret
  exact ⟨rfl, bnext (bnext (bnext hb1 hb2) hb3) hb4⟩

theorem layOrder_walk (a b : Int) (w : World) (ha' : a ≤ 9223372036854775807) (hb' : b ≤ 9223372036854775807) :
    Calls Try.prog 6 #[.int .i64 a, .int .i64 b] w
      fun e w' => e = .returned (.bool true) ∧ Below w.heap.size w w' := by
  by_cases ha : 0 ≤ a
  · by_cases hb : 0 ≤ b
    · exact layOrder_main a b w ha hb ha' hb'
    · have d1 : ¬ a < 0 := by omega
      have d2 : b < 0 := by omega
      go_enter Try.func6, Try.ntmps6
      go_wp2_with (go_at_call 8; go_must ((with_reducible refine (awake3 _).mono ?_); rintro e w1 ⟨rfl, hb1⟩))
      go_ret
      exact ⟨rfl, hb1⟩
  · have d1 : a < 0 := by omega
    go_enter Try.func6, Try.ntmps6
    go_wp2_with (go_at_call 8; go_must ((with_reducible refine (awake3 _).mono ?_); rintro e w1 ⟨rfl, hb1⟩))
    go_ret
    exact ⟨rfl, hb1⟩

end Go.Proofs.Ytoolgbeiphdkdaa
