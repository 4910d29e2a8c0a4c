/-
  The kinds' table in memory; what asm's isKind, isJump, Takes, Word and Of answer, in whatever memory that has the table. No conditions but those that stand there.
-/
import Derived.Test.YtjbhhlhaikmecaaDoorAsmR
import Derived.Test.YtjbhhlhaikmecaaDoorTokX
namespace Go.Proofs.YtjbhhlhaikmecaaDoor
open Go.RowKit

/-- the kinds' table lies in memory. -/
structure HasKinds (w : World) : Prop where
  lt : 0 < w.heap.size
  word : ∀ i, i < 18 → w.cell? ⟨0, i * 2, none⟩ = some (.string (strL (namesN.getD i [])))
  takes : ∀ i : Nat, i < 18 → w.cell? ⟨0, i * 2 + 1, none⟩ = some (.int .i64 (takesN (i : Int) : Nat))

theorem HasKinds.below {B : Nat} {w w' : World} (h : HasKinds w) (hb : Below B w w') (hB : 0 < B) : HasKinds w' :=
  ⟨Nat.lt_of_lt_of_le h.lt hb.size, fun i hi => (World.cell?_of_block (hb.block _ hB)).trans (h.word i hi), fun i hi => (World.cell?_of_block (hb.block _ hB)).trans (h.takes i hi)⟩

theorem HasKinds.belowS {w w' : World} (h : HasKinds w) (hb : Below w.heap.size w w') : HasKinds w' := h.below hb h.lt

theorem isKind_is (op : Int) (b : Bool) (h : decide (1 ≤ op ∧ op ≤ 17) = b) (w : World) :
    Calls Tryd.prog 26 #[.int .i64 op] w fun e w' => e = .returned (.bool b) ∧ w = w' := by
  by_cases h1 : 1 ≤ op
  · by_cases h2 : op < 18
    · obtain rfl : true = b := by rw [← h, decide_eq_true (show 1 ≤ op ∧ op ≤ 17 by omega)]
      clear h
      go_enter Tryd.func26, Tryd.ntmps26
      go_wp2
      go_ret
      exact ⟨rfl, rfl⟩
    · obtain rfl : false = b := by rw [← h, decide_eq_false (show ¬ (1 ≤ op ∧ op ≤ 17) by omega)]
      clear h
      go_enter Tryd.func26, Tryd.ntmps26
      go_wp2
      go_ret
      exact ⟨rfl, rfl⟩
  · obtain rfl : false = b := by rw [← h, decide_eq_false (show ¬ (1 ≤ op ∧ op ≤ 17) by omega)]
    clear h
    go_enter Tryd.func26, Tryd.ntmps26
    go_wp2
    go_ret
    exact ⟨rfl, rfl⟩

theorem isJump_is (op : Int) (b : Bool) (h : decide (jumpsN op) = b) (w : World) :
    Calls Tryd.prog 29 #[.int .i64 op] w fun e w' => e = .returned (.bool b) ∧ w = w' := by
  by_cases h1 : op = 13
  · subst h1
    obtain rfl : true = b := by rw [← h]; rfl
    go_enter Tryd.func29, Tryd.ntmps29
    go_wp2
    go_ret
    exact ⟨rfl, rfl⟩
  · have e1 : (op == 13) = false := by simp; omega
    by_cases h2 : op = 14
    · subst h2
      obtain rfl : true = b := by rw [← h]; rfl
      go_enter Tryd.func29, Tryd.ntmps29
      go_wp2
      go_ret
      exact ⟨rfl, rfl⟩
    · have e2 : (op == 14) = false := by simp; omega
      obtain rfl : false = b := by rw [← h, decide_eq_false (show ¬ jumpsN op by unfold jumpsN; omega)]
      clear h
      go_enter Tryd.func29, Tryd.ntmps29
      go_wp2
      go_ret
      exact ⟨rfl, rfl⟩

theorem takes_none {op : Int} (h : ¬ (1 ≤ op ∧ op ≤ 17)) : takesN op = 0 := by
  unfold takesN
  rw [if_neg (by omega), if_neg (by omega)]

theorem takes_any (op : Int) (w : World) (hT : HasKinds w) :
    Calls Tryd.prog 12 #[.int .i64 op] w fun e w' => e = .returned (.int .i64 (takesN op : Nat)) ∧ w = w' := by
  by_cases h : 1 ≤ op ∧ op ≤ 17
  · have hk := Lib.hid (isKind_is op true (decide_eq_true h) w)
    obtain ⟨i, rfl⟩ := Int.eq_ofNat_of_zero_le (show 0 ≤ op by omega)
    have c1 := hT.takes i (by omega)
    have d1 : (i : Int) < 18 := by omega
    clear h hT
    go_enter Tryd.func12, Tryd.ntmps12
    go_wp2_with (go_at_call 26; go_must ((with_reducible refine hk.out.mono ?_); rintro e w1 ⟨rfl, rfl⟩))
    go_ret
    exact ⟨rfl, rfl⟩
  · have hk := Lib.hid (isKind_is op false (decide_eq_false h) w)
    rw [takes_none h]
    clear h hT
    go_enter Tryd.func12, Tryd.ntmps12
    go_wp2_with (go_at_call 26; go_must ((with_reducible refine hk.out.mono ?_); rintro e w1 ⟨rfl, rfl⟩))
    go_ret
    exact ⟨rfl, rfl⟩

theorem word_any (op : Int) (w : World) (hT : HasKinds w) :
    Calls Tryd.prog 14 #[.int .i64 op] w fun e w' => e = .returned (.string (strL (wordN op))) ∧ w = w' := by
  by_cases h : 1 ≤ op ∧ op ≤ 17
  · have hk := Lib.hid (isKind_is op true (decide_eq_true h) w)
    have hw : wordN op = namesN.getD op.toNat [] := by rw [wordN, if_pos h]
    rw [hw]
    obtain ⟨i, rfl⟩ := Int.eq_ofNat_of_zero_le (show 0 ≤ op by omega)
    rw [Int.toNat_natCast]
    have c1 := hT.word i (by omega)
    have d1 : (i : Int) < 18 := by omega
    clear h hT hw
    generalize namesN.getD i [] = N at *
    go_enter Tryd.func14, Tryd.ntmps14
    go_wp2_with (go_at_call 26; go_must ((with_reducible refine hk.out.mono ?_); rintro e w1 ⟨rfl, rfl⟩))
    go_ret
    exact ⟨rfl, rfl⟩
  · have hk := Lib.hid (isKind_is op false (decide_eq_false h) w)
    rw [show wordN op = [] by rw [wordN, if_neg h]]
    clear h hT
    go_enter Tryd.func14, Tryd.ntmps14
    go_wp2_with (go_at_call 26; go_must ((with_reducible refine hk.out.mono ?_); rintro e w1 ⟨rfl, rfl⟩))
    go_ret
    exact ⟨rfl, rfl⟩

theorem names_lt : ∀ i, i < 18 → ∀ c ∈ namesN.getD i [], c < 256 := by decide
theorem strL_bL (s : ByteArray) : strL (bL s) = s := by
  apply ByteArray.ext
  apply Array.ext'
  simp only [strL, bL, List.map_map]
  conv => rhs; rw [← List.map_id s.data.toList]
  apply List.map_congr_left
  intro x _
  simp
theorem str_ne {a b : ByteArray} (h : a ≠ b) : (a.toList == b.toList) = false := by
  rw [beq_eq_false_iff_ne, Lib.toList_data, Lib.toList_data]
  exact fun e => h (ByteArray.ext (Array.ext' e))
theorem of_at {i : Nat} {l : List Nat} (h1 : 1 ≤ i) (h2 : i < 18) (h : namesN.getD i [] = l) : ofN l = i := by
  have := of_word_nat (i - 1) (by omega)
  rw [show i - 1 + 1 = i by omega, h] at this
  rw [this]
  omega
theorem of_no {l : List Nat} (h : ∀ i, 1 ≤ i → i < 18 → namesN.getD i [] ≠ l) : ofN l = 0 := by
  by_cases h0 : ofN l = 0
  · exact h0
  · obtain ⟨h1, h2, h3⟩ := of_some h0
    have := h (ofN l).toNat (by omega) (by omega)
    rw [wordN, if_pos ⟨h1, h2⟩] at h3
    exact absurd h3 this

set_option maxHeartbeats 1000000 in
theorem of_any (s : ByteArray) (w : World) (hT : HasKinds w) :
    Calls Tryd.prog 16 #[.string s] w fun e w' => e = .returned (.int .i64 (ofN (bL s))) ∧ w = w' := by
  have hT' := Lib.hid hT
  clear hT
  go_enter Tryd.func16, Tryd.ntmps16
  go_wp2
  go_loop [4] (fun cc => ∃ i : Nat, i ≤ 18 ∧ cc = .int .i64 i ∧ Hid (∀ j, 1 ≤ j → j < i → namesN.getD j [] ≠ bL s)) (fun cc => 18 - (intOf cc).toNat)
  case atStart => exact ⟨0, by omega, rfl, Lib.hid (fun j h1 h2 => by omega)⟩
  case round =>
    obtain ⟨i, hi, rfl, HN⟩ := hrel
    by_cases hlt : i < 18
    · have d0 : (i : Int) < 18 := by omega
      have c1 := hT'.out.word i hlt
      by_cases h1 : 1 ≤ i
      · have hk := Lib.hid (isKind_is i true (decide_eq_true (by omega)) w)
        by_cases he : namesN.getD i [] = bL s
        · have e1 : strL (namesN.getD i []) = s := by rw [he, strL_bL]
          have he' := Lib.hid (of_at h1 hlt he)
          rw [e1] at c1
          clear he e1
          go_wp2_with (go_at_call 26; go_must ((with_reducible refine hk.out.mono ?_); rintro e w1 ⟨rfl, rfl⟩))
          go_ret
          rw [he'.out]
          exact ⟨rfl, rfl⟩
        · have e1 : strL (namesN.getD i []) ≠ s := fun h => he (by rw [← h, bL_strL _ (names_lt i hlt)])
          have e2 := str_ne e1
          have HN2 : Hid (∀ j, 1 ≤ j → j < i + 1 → namesN.getD j [] ≠ bL s) := Lib.hid (fun j a b => by
            rcases Nat.lt_or_eq_of_le (Nat.le_of_lt_succ b) with q | q
            · exact HN.out j a q
            · subst q; exact he)
          clear he e1
          generalize strL (namesN.getD i []) = N at *
          go_wp2_with (go_at_call 26; go_must ((with_reducible refine hk.out.mono ?_); rintro e w1 ⟨rfl, rfl⟩))
          go_round
          case rel => exact ⟨i + 1, by omega, by go_num, HN2⟩
          case measure => simp [intOf]; omega
      · obtain rfl : i = 0 := by omega
        have hk := Lib.hid (isKind_is 0 false (by decide) w)
        go_wp2_with (go_at_call 26; go_must ((with_reducible refine hk.out.mono ?_); rintro e w1 ⟨rfl, rfl⟩))
        go_round
        case rel => exact ⟨1, by omega, rfl, Lib.hid (fun j h1 h2 => by omega)⟩
        case measure => simp [intOf]
    · have hz : Hid (ofN (bL s) = 0) := Lib.hid (of_no fun j a b => HN.out j a (by omega))
      go_wp2
      go_ret
      rw [hz.out]
      exact ⟨rfl, rfl⟩

end Go.Proofs.YtjbhhlhaikmecaaDoor
