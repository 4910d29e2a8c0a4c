/-
  What the reference's names, Takes, jumps, Word, Of, label and digits of layer 5 answer, in whatever memory. No conditions but those that stand there.
-/
import Derived.Test.YtjbhhlhaikmecaaDoorAsmA
namespace Go.Proofs.YtjbhhlhaikmecaaDoor
open Go.RowKit

/-- the words, as the reference builds them. -/
def namesRow : Array Value := #[.string ⟨#[]⟩, .string ⟨#[112, 117, 115, 104]⟩, .string ⟨#[108, 111, 97, 100]⟩, .string ⟨#[107, 101, 101, 112]⟩, .string ⟨#[103, 101, 116]⟩, .string ⟨#[112, 117, 116]⟩, .string ⟨#[97, 114, 103]⟩, .string ⟨#[97, 100, 100]⟩, .string ⟨#[115, 117, 98]⟩, .string ⟨#[109, 117, 108]⟩, .string ⟨#[100, 105, 118]⟩, .string ⟨#[108, 101, 115, 115]⟩, .string ⟨#[115, 97, 109, 101]⟩, .string ⟨#[115, 107, 105, 112]⟩, .string ⟨#[103, 111]⟩, .string ⟨#[101, 109, 105, 116]⟩, .string ⟨#[115, 116, 111, 112]⟩, .string ⟨#[101, 110, 100]⟩]
theorem infoNames : (Tryd.prog.info? 53).map (·.size) = some namesRow.size := by kernel_rfl

theorem rnames_any (w : World) :
    Calls Tryd.prog 27 #[] w fun e w' => e = .returned (.agg namesRow) ∧ Below w.heap.size w w' := by
  go_enter Tryd.func27, Tryd.ntmps27
  go_wp2
  exact bodyPost_ret (v := .agg namesRow) (results_cell_row rfl _ _ w.heap.size 53 _ (0, 0) _ rfl (Bk.new _ _ _) Tryd.underlying53 rfl infoNames) rfl ⟨rfl, (Below.refl _ _).alloc (Nat.le_refl _) _⟩

theorem names_at (i : Nat) (h : i < 18) (W : World) : (Instr.index 53 (.agg namesRow) (.int .i64 (i : Int))).run Tryd.prog W = .ok (.string (strL (namesN.getD i []))) W := by
  rcases (show i = 0 ∨ i = 1 ∨ i = 2 ∨ i = 3 ∨ i = 4 ∨ i = 5 ∨ i = 6 ∨ i = 7 ∨ i = 8 ∨ i = 9 ∨ i = 10 ∨ i = 11 ∨ i = 12 ∨ i = 13 ∨ i = 14 ∨ i = 15 ∨ i = 16 ∨ i = 17 by omega) with rfl | rfl | rfl | rfl | rfl | rfl | rfl | rfl | rfl | rfl | rfl | rfl | rfl | rfl | rfl | rfl | rfl | rfl <;> kernel_rfl

theorem rjumps_is (op : Int) (b : Bool) (h : decide (jumpsN op) = b) (w : World) :
    Calls Tryd.prog 25 #[.int .i64 op] w fun e w' => e = .returned (.bool b) ∧ w = w' := by
  by_cases h1 : op = 13
  · subst h1
    obtain rfl : true = b := by rw [← h]; rfl
    go_enter Tryd.func25, Tryd.ntmps25
    go_wp2
    go_ret
    exact ⟨rfl, rfl⟩
  · have e1 : (op == 13) = false := by simp; omega
    by_cases h2 : op = 14
    · subst h2
      obtain rfl : true = b := by rw [← h]; rfl
      go_enter Tryd.func25, Tryd.ntmps25
      go_wp2
      go_ret
      exact ⟨rfl, rfl⟩
    · have e2 : (op == 14) = false := by simp; omega
      obtain rfl : false = b := by rw [← h, decide_eq_false (show ¬ jumpsN op by unfold jumpsN; omega)]
      clear h
      go_enter Tryd.func25, Tryd.ntmps25
      go_wp2
      go_ret
      exact ⟨rfl, rfl⟩

theorem rtakes_any (op : Int) (w : World) :
    Calls Tryd.prog 13 #[.int .i64 op] w fun e w' => e = .returned (.int .i64 (takesN op : Nat)) ∧ w = w' := by
  by_cases h : op = 4 ∨ op = 5 ∨ op = 1 ∨ op = 2 ∨ op = 3 ∨ op = 6 ∨ op = 13 ∨ op = 14
  · rcases h with rfl | rfl | rfl | rfl | rfl | rfl | rfl | rfl <;>
    · go_enter Tryd.func13, Tryd.ntmps13
      go_wp2
      go_ret
      exact ⟨rfl, rfl⟩
  · have hz : takesN op = 0 := by unfold takesN; rw [if_neg (by omega), if_neg (by omega)]
    have e0 : (op == 4) = false := by simp; omega
    have e1 : (op == 5) = false := by simp; omega
    have e2 : (op == 1) = false := by simp; omega
    have e3 : (op == 2) = false := by simp; omega
    have e4 : (op == 3) = false := by simp; omega
    have e5 : (op == 6) = false := by simp; omega
    have e6 : (op == 13) = false := by simp; omega
    have e7 : (op == 14) = false := by simp; omega
    rw [hz]
    clear h hz
    go_enter Tryd.func13, Tryd.ntmps13
    go_wp2
    go_ret
    exact ⟨rfl, rfl⟩

theorem rword_any (op : Int) (w : World) :
    Calls Tryd.prog 15 #[.int .i64 op] w fun e w' => e = .returned (.string (strL (wordN op))) ∧ Below w.heap.size w w' := by
  by_cases h : 1 ≤ op ∧ op ≤ 17
  · have hw : wordN op = namesN.getD op.toNat [] := by rw [wordN, if_pos h]
    rw [hw]
    obtain ⟨i, rfl⟩ := Int.eq_ofNat_of_zero_le (show 0 ≤ op by omega)
    rw [Int.toNat_natCast]
    have c1 := names_at i (by omega)
    have d1 : ¬ (i : Int) < 1 := by omega
    have d2 : ¬ (17 : Int) < (i : Int) := by omega
    have hn := Lib.hid (rnames_any w)
    clear h hw
    generalize namesN.getD i [] = N at *
    generalize namesRow = R at *
    go_enter Tryd.func15, Tryd.ntmps15
    go_wp2_with (go_at_call 27; go_must ((with_reducible refine hn.out.mono ?_); rintro e w1 ⟨rfl, hb⟩))
    go_ret
    exact ⟨rfl, hb⟩
  · rw [show wordN op = [] by rw [wordN, if_neg h]]
    by_cases h1 : op < 1
    · clear h
      go_enter Tryd.func15, Tryd.ntmps15
      go_wp2
      go_ret
      exact ⟨rfl, Below.refl _ _⟩
    · have d2 : (17 : Int) < op := by omega
      clear h
      go_enter Tryd.func15, Tryd.ntmps15
      go_wp2
      go_ret
      exact ⟨rfl, Below.refl _ _⟩

set_option maxHeartbeats 1000000 in
theorem rof_any (s : ByteArray) (w : World) :
    Calls Tryd.prog 17 #[.string s] w fun e w' => e = .returned (.int .i64 (ofN (bL s))) ∧ Below w.heap.size w w' := by
  go_enter Tryd.func17, Tryd.ntmps17
  go_wp2
  go_loopw [3] (fun cc wr => ∃ i : Nat, 1 ≤ i ∧ i ≤ 18 ∧ cc = .int .i64 i ∧ Below w.heap.size w wr ∧ Hid (∀ j, 1 ≤ j → j < i → namesN.getD j [] ≠ bL s)) (fun cc _ => 18 - (intOf cc).toNat)
  case atStart => exact ⟨1, by omega, by omega, rfl, Below.refl _ _, Lib.hid (fun j h1 h2 => by omega)⟩
  case round =>
    obtain ⟨i, h1, hi, rfl, hb, HN⟩ := hrel
    by_cases hlt : i < 18
    · have d0 : (i : Int) < 18 := by omega
      have c1 := names_at i hlt
      have hn := Lib.hid (rnames_any wr)
      by_cases he : namesN.getD i [] = bL s
      · have e1 : strL (namesN.getD i []) = s := by rw [he, strL_bL]
        have he' := Lib.hid (of_at h1 hlt he)
        rw [e1] at c1
        clear he e1
        generalize namesRow = R at *
        go_wp2_with (go_at_call 27; go_must ((with_reducible refine hn.out.mono ?_); rintro e w1 ⟨rfl, hb1⟩))
        go_ret
        rw [he'.out]
        exact ⟨rfl, hb.trans (hb1.mono hb.size)⟩
      · have e1 : strL (namesN.getD i []) ≠ s := fun h => he (by rw [← h, bL_strL _ (names_lt i hlt)])
        have e2 := str_ne e1
        have HN2 : Hid (∀ j, 1 ≤ j → j < i + 1 → namesN.getD j [] ≠ bL s) := Lib.hid (fun j a b => by
          rcases Nat.lt_or_eq_of_le (Nat.le_of_lt_succ b) with q | q
          · exact HN.out j a q
          · subst q; exact he)
        clear he e1
        generalize strL (namesN.getD i []) = N at *
        generalize namesRow = R at *
        go_wp2_with (go_at_call 27; go_must ((with_reducible refine hn.out.mono ?_); rintro e w1 ⟨rfl, hb1⟩))
        go_roundw
        case rel => exact ⟨i + 1, by omega, by omega, by go_num, hb.trans (hb1.mono hb.size), HN2⟩
        case measure => simp [intOf]; omega
    · have hz : Hid (ofN (bL s) = 0) := Lib.hid (of_no fun j a b => HN.out j a (by omega))
      go_wp2
      go_ret
      rw [hz.out]
      exact ⟨rfl, hb⟩

/-! ### labels and digits -/
theorem rlabel_any (n : Nat) (h : n ≤ 64) (w : World) :
    Calls Tryd.prog 35 #[.int .i64 (n : Nat)] w fun e w' => e = .returned (.string (strL (labelN n))) ∧ w = w' := by
  have q1 := encode_letter (97 + n / 26) ⟨by omega, by omega⟩
  have q2 := encode_letter (97 + n % 26) ⟨by omega, by omega⟩
  rw [show ((97 + n / 26 : Nat) : Int) = 97 + (n : Int) / 26 by omega] at q1
  rw [show ((97 + n % 26 : Nat) : Int) = 97 + (n : Int) % 26 by omega] at q2
  have hz1 := strL_size [97 + n / 26]
  have hz2 := strL_size [97 + n % 26]
  rw [List.length_singleton] at hz1 hz2
  rw [show labelN n = 120 :: ([97 + n / 26] ++ [97 + n % 26]) from rfl, ← strL_cons, ← strL_app, ← ByteArray.append_assoc]
  generalize strL [97 + n / 26] = A at *
  generalize strL [97 + n % 26] = B at *
  have z1 : ((⟨#[120]⟩ : ByteArray) ++ A).size = 2 := by rw [ByteArray.size_append, hz1]; rfl
  go_enter Tryd.func35, Tryd.ntmps35
  go_wp2
  go_ret
  exact ⟨rfl, rfl⟩

set_option maxHeartbeats 2000000 in
theorem rdigitsN (n : Nat) : n ≤ 1099511627776 → ∀ w : World, Calls Tryd.prog 36 #[.int .i64 (n : Nat)] w fun e w' => e = .returned (.string (strL (decN n))) ∧ w = w' := by
  induction n using Nat.strongRecOn with
  | ind n ih =>
    intro hn w
    have f0 : ¬ (n : Int) < 0 := by omega
    by_cases h : n < 10
    · have f1 : (n : Int) < 10 := by omega
      have he := encode_digit n h
      rw [decN_small h]
      go_enter Tryd.func36, Tryd.ntmps36
      go_wp2
      go_ret
      exact ⟨rfl, rfl⟩
    · have f1 : ¬ (n : Int) < 10 := by omega
      have hd0 := ih (n / 10) (by omega) (by omega) w
      rw [show ((n / 10 : Nat) : Int) = (n : Int) / 10 by omega] at hd0
      have hd := Lib.hid hd0
      have he := encode_digit (n % 10) (by omega)
      rw [show ((n % 10 : Nat) : Int) = (n : Int) % 10 by omega] at he
      have hl := decN_len (n / 10) (by omega)
      have hz := strL_size (decN (n / 10))
      have hz1 := strL_size [48 + n % 10]
      have hz2 : ¬ 9223372036854775807 < (strL (decN (n / 10))).size + (strL [48 + n % 10]).size := by rw [hz, hz1, List.length_singleton]; omega
      clear hd0 ih
      rw [decN_large h]
      go_enter Tryd.func36, Tryd.ntmps36
      go_wp2_with (go_at_call 36; go_must ((with_reducible refine hd.out.mono ?_); rintro e w1 ⟨rfl, rfl⟩))
      go_ret
      exact ⟨by rw [← strL_app]; rfl, rfl⟩

set_option maxHeartbeats 2000000 in
theorem rdigitsZ (n : Int) (h1 : -1099511627776 ≤ n) (h2 : n ≤ 1099511627776) (w : World) : Calls Tryd.prog 36 #[.int .i64 n] w fun e w' => e = .returned (.string (strL (decZ n))) ∧ w = w' := by
  by_cases h : n < 0
  · have hd0 := rdigitsN n.natAbs (by omega) w
    rw [show ((n.natAbs : Nat) : Int) = -n by omega] at hd0
    have hd := Lib.hid hd0
    have hz := strL_size (decN n.natAbs)
    have hl := decN_len n.natAbs (by omega)
    have hz2 : ¬ 9223372036854775807 < 1 + (strL (decN n.natAbs)).size := by rw [hz]; omega
    rw [decZ, if_pos h]
    clear hd0
    go_enter Tryd.func36, Tryd.ntmps36
    go_wp2_with (go_at_call 36; go_must ((with_reducible refine hd.out.mono ?_); rintro e w1 ⟨rfl, rfl⟩))
    go_ret
    exact ⟨by rw [← strL_cons]; rfl, rfl⟩
  · have hd0 := rdigitsN n.natAbs (by omega) w
    rw [show ((n.natAbs : Nat) : Int) = n by omega] at hd0
    rw [decZ, if_neg h]
    exact hd0

end Go.Proofs.YtjbhhlhaikmecaaDoor
