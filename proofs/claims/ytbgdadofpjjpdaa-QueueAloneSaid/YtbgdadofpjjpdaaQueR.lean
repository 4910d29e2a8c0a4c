/-
  Who waits for a block, on plain numbers: readers, a writer behind them, readers behind it (the law QueueReads). No conditions but those that stand there.
-/
import Derived.Test.YtbgdadofpjjpdaaQueP
namespace Go.Proofs.Ytbgdadofpjjpdaa

def lineK (i n m : Nat) : Keys := readersK i n 0 ++ (100, true) :: readersK 0 m 200

theorem line_ask (n m : Nat) : askN (grK (lineK 0 n m)) (200 + (m : Int)) false = grK (lineK 0 n (m + 1)) := by
  rw [ask_gr]
  unfold lineK
  rw [List.append_assoc, List.cons_append, readers_snoc (Nat.zero_le m)]
theorem readers_ask (n : Nat) : askN (grK (readersK 0 n 0)) (n : Int) false = grK (readersK 0 (n + 1) 0) := by
  rw [ask_gr, ← readers_snoc (Nat.zero_le n), Int.zero_add]
theorem writer_ask (n : Nat) : askN (grK (readersK 0 n 0)) 100 true = grK (lineK 0 n 0) := by
  rw [ask_gr]
  rfl

theorem line_give {i n : Nat} (h : i < n) (hn : n ≤ 20) (m : Nat) : giveN (grK (lineK i n m)) (i : Int) = grK (lineK (i + 1) n m) := by
  rw [give_gr]
  unfold lineK
  have e := readers_drop h 0
  rw [Int.zero_add] at e
  rw [List.filter_append, e, List.filter_cons_of_pos (by simp only [ne_eq, decide_eq_true_eq]; omega), filter_apart]
  intro x hx
  obtain ⟨k, -, -, rfl⟩ := readers_mem hx
  simp only [ne_eq]
  omega

theorem line_first {i n : Nat} (h : i < n) (m : Nat) : hasS (grK (lineK i n m)) (i : Int) = true := by
  rw [hasS_gr]
  refine ⟨0, by unfold lineK; rw [List.length_append, List.length_cons]; omega, ?_, has_zero _⟩
  unfold keyAt lineK
  rw [List.getElem?_append_left (by rw [readers_length]; omega)]
  unfold readersK
  rw [List.getElem?_map, List.getElem?_range (by omega)]
  simp

theorem line_length (i n m : Nat) : (lineK i n m).length = (n - i) + 1 + m := by
  unfold lineK
  rw [List.length_append, List.length_cons, readers_length, readers_length]
  omega

theorem line_at_writer (i n m : Nat) : keyAt (lineK i n m) (n - i) = (100, true) := by
  unfold keyAt lineK
  rw [List.getElem?_append_right (by rw [readers_length]; omega), readers_length, Nat.sub_self]
  rfl
theorem line_at_read {i n m k : Nat} (h : k < n - i) : keyAt (lineK i n m) k = (((i + k : Nat) : Int), false) := by
  unfold keyAt lineK
  rw [List.getElem?_append_left (by rw [readers_length]; omega)]
  unfold readersK
  rw [List.getElem?_map, List.getElem?_range h]
  simp
theorem line_at_behind {i n m k : Nat} (h : n - i < k) (hk : k < n - i + 1 + m) : keyAt (lineK i n m) k = (200 + ((k - (n - i) - 1 : Nat) : Int), false) := by
  unfold keyAt lineK
  rw [List.getElem?_append_right (by rw [readers_length]; omega), readers_length]
  obtain ⟨j, rfl⟩ := Nat.exists_eq_add_of_lt h
  rw [show n - i + j + 1 - (n - i) = j + 1 by omega, List.getElem?_cons_succ]
  unfold readersK
  rw [List.getElem?_map, List.getElem?_range (by omega)]
  simp only [Option.map_some, Option.getD_some, Nat.zero_add]
  rw [show j + 1 - 1 = j by omega]

/-- behind readers no writer has it. -/
theorem line_writer {i n : Nat} (h : i < n) (hn : n ≤ 20) (m : Nat) : hasS (grK (lineK i n m)) 100 = false := by
  rw [Bool.eq_false_iff, ne_eq, hasS_gr]
  rintro ⟨k, hk, hs, hh⟩
  rw [line_length] at hk
  rcases Nat.lt_trichotomy k (n - i) with g | rfl | g
  · rw [line_at_read g] at hs
    simp only at hs
    omega
  · have := excl_first (by rw [line_length]; omega) hh (by rw [line_at_writer])
    omega
  · rw [line_at_behind g hk] at hs
    simp only at hs
    omega

theorem alone_writer (n m : Nat) : hasS (grK (lineK n n m)) 100 = true := by
  rw [hasS_gr]
  refine ⟨0, by rw [line_length]; omega, ?_, has_zero _⟩
  have := line_at_writer n n m
  rw [Nat.sub_self] at this
  rw [this]

/-- behind a writer nobody has it. -/
theorem behind_writer {k m : Nat} (n : Nat) (_ : k < m) : hasS (grK (lineK n n m)) (200 + (k : Int)) = false := by
  rw [Bool.eq_false_iff, ne_eq, hasS_gr]
  rintro ⟨j, hj, hs, hh⟩
  rw [line_length] at hj
  have h0 := line_at_writer n n m
  rw [Nat.sub_self] at h0
  cases j with
  | zero =>
    rw [h0] at hs
    simp only at hs
    omega
  | succ j =>
    rw [excl_alone (by rw [line_length]; omega) (by rw [h0]) (by omega)] at hh
    cases hh

theorem writer_give (n m : Nat) : giveN (grK (lineK n n m)) 100 = grK (readersK 0 m 200) := by
  rw [give_gr]
  unfold lineK
  rw [show readersK n n 0 = [] by unfold readersK; rw [Nat.sub_self]; rfl, List.nil_append, List.filter_cons_of_neg (by simp), filter_apart]
  intro x hx
  obtain ⟨k, -, -, rfl⟩ := readers_mem hx
  simp only [ne_eq]
  omega

theorem all_readers {k m : Nat} (h : k < m) : hasS (grK (readersK 0 m 200)) (200 + (k : Int)) = true := by
  rw [hasS_gr]
  refine ⟨k, by rw [readers_length]; omega, ?_, ?_⟩
  · unfold keyAt readersK
    rw [List.getElem?_map, List.getElem?_range (by omega)]
    simp
  · unfold hasK
    rw [readers_free]
    simp

end Go.Proofs.Ytbgdadofpjjpdaa
