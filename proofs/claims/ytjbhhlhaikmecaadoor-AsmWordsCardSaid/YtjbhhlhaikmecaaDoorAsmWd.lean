/-
  AsmWords, walked: true for every text and every number, in whatever memory that has the tables.
-/
import Derived.Test.YtjbhhlhaikmecaaDoorAsmV
namespace Go.Proofs.YtjbhhlhaikmecaaDoor
open Go.RowKit

theorem word_is (op : Int) (S : ByteArray) (h : strL (wordN op) = S) (w : World) (hT : HasKinds w) :
    Calls Tryd.prog 14 #[.int .i64 op] w fun e w' => e = .returned (.string S) ∧ w = w' := by
  subst h
  exact word_any op w hT
theorem of_is (s : ByteArray) (k : Int) (h : ofN (bL s) = k) (w : World) (hT : HasKinds w) :
    Calls Tryd.prog 16 #[.string s] w fun e w' => e = .returned (.int .i64 k) ∧ w = w' := by
  subst h
  exact of_any s w hT
theorem of_word_str {op : Int} (h : 1 ≤ op ∧ op ≤ 17) : ofN (bL (strL (wordN op))) = op := by
  rw [bL_strL _ (byteW_letters (word_letters h).2), of_word h]
theorem word_of_str {s : ByteArray} (h : ofN (bL s) ≠ 0) : strL (wordN (ofN (bL s))) = s := by
  rw [(of_some h).2.2, strL_bL]
theorem word_some {op : Int} (h : 1 ≤ op ∧ op ≤ 17) : (strL (wordN op)).toList.isEmpty = false := by
  refine toList_no ?_
  rw [strL_size]
  exact List.length_pos_iff.2 (word_letters h).1

set_option maxRecDepth 100000 in
set_option maxHeartbeats 4000000 in
theorem asmWords_walk (s : ByteArray) (op : Int) (w : World) (hT : HasKinds w) (hP : HasPow w) :
    Calls Tryd.prog 6 #[.string s, .int .i64 op] w fun e w' => e = .returned (.bool true) ∧ Below w.heap.size w w' := by
  have haw := Lib.hid (awake5 w hT hP)
  have hT' := Lib.hid hT
  obtain ⟨tk, htk⟩ : ∃ tk, tk = takesN op := ⟨_, rfl⟩
  have htl : tk ≤ 2 := by rw [htk]; exact takes_le op
  have d0 : (0 : Int) ≤ (tk : Int) := by omega
  have d1 : (tk : Int) ≤ 2 := by omega
  have ct : Hid (∀ W, HasKinds W → Calls Tryd.prog 12 #[.int .i64 op] W fun e w' => e = .returned (.int .i64 (tk : Nat)) ∧ W = w') := Lib.hid (fun W hW => by rw [htk]; exact takes_any op W hW)
  clear htk
  obtain ⟨k, hk⟩ : ∃ k, ofN (bL s) = k := ⟨_, rfl⟩
  have co := Lib.hid (of_is s k hk w hT)
  by_cases h1 : 1 ≤ op ∧ op ≤ 17
  · obtain ⟨S, hS⟩ : ∃ S, strL (wordN op) = S := ⟨_, rfl⟩
    have cw := Lib.hid (word_is op S hS w hT)
    have hne : S.toList.isEmpty = false := by rw [← hS]; exact word_some h1
    have cs : Hid (∀ W, HasKinds W → Calls Tryd.prog 16 #[.string S] W fun e w' => e = .returned (.int .i64 op) ∧ W = w') := Lib.hid (fun W hW => of_is S op (by rw [← hS]; exact of_word_str h1) W hW)
    have q0 : decide (op < 1) = false := decide_eq_false (by omega)
    have q1 : decide (17 < op) = false := decide_eq_false (by omega)
    clear h1 hS hT hP
    by_cases hk0 : k = 0
    · subst hk0
      clear hk
      go_enter Tryd.func6, Tryd.ntmps6
      go_wp2_with (first
        | (go_at_call 14; go_must ((with_reducible refine cw.out.mono ?_); rintro e w1 ⟨rfl, rfl⟩))
        | (go_at_call 16; go_must (first | ((with_reducible refine co.out.mono ?_); rintro e w1 ⟨rfl, rfl⟩; clear co) | ((with_reducible refine (cs.out w2 (hT'.out.belowS hb2)).mono ?_); rintro e w3 ⟨rfl, rfl⟩)))
        | (go_at_call 8; go_must ((with_reducible refine haw.out.mono ?_); rintro e w2 ⟨rfl, hb2⟩))
        | (go_at_call 12; go_must ((with_reducible refine (ct.out w2 (hT'.out.belowS hb2)).mono ?_); rintro e w3 ⟨rfl, rfl⟩)))
      go_ret
      exact ⟨rfl, hb2⟩
    · have hks : strL (wordN k) = s := by rw [← hk]; exact word_of_str (by rw [hk]; exact hk0)
      have cv : Hid (∀ W, HasKinds W → Calls Tryd.prog 14 #[.int .i64 k] W fun e w' => e = .returned (.string s) ∧ W = w') := Lib.hid (fun W hW => word_is k s hks W hW)
      have q2 : (k == 0) = false := by simpa using hk0
      clear hk hks hk0
      go_enter Tryd.func6, Tryd.ntmps6
      go_wp2_with (first
        | (go_at_call 14; go_must (first | ((with_reducible refine cw.out.mono ?_); rintro e w1 ⟨rfl, rfl⟩; clear cw) | ((with_reducible refine (cv.out w2 (hT'.out.belowS hb2)).mono ?_); rintro e w3 ⟨rfl, rfl⟩)))
        | (go_at_call 16; go_must (first | ((with_reducible refine co.out.mono ?_); rintro e w1 ⟨rfl, rfl⟩; clear co) | ((with_reducible refine (cs.out w2 (hT'.out.belowS hb2)).mono ?_); rintro e w3 ⟨rfl, rfl⟩)))
        | (go_at_call 8; go_must ((with_reducible refine haw.out.mono ?_); rintro e w2 ⟨rfl, hb2⟩))
        | (go_at_call 12; go_must ((with_reducible refine (ct.out w2 (hT'.out.belowS hb2)).mono ?_); rintro e w3 ⟨rfl, rfl⟩)))
      go_ret
      exact ⟨rfl, hb2⟩
  · have cw := Lib.hid (word_is op ⟨#[]⟩ (by rw [show wordN op = [] by rw [wordN, if_neg h1]]; rfl) w hT)
    rcases (show op < 1 ∨ (¬ op < 1 ∧ 17 < op) by omega) with q0 | ⟨q0, q1⟩
    all_goals
      clear h1 hT hP
      by_cases hk0 : k = 0
      · subst hk0
        clear hk
        go_enter Tryd.func6, Tryd.ntmps6
        go_wp2_with (first
          | (go_at_call 14; go_must ((with_reducible refine cw.out.mono ?_); rintro e w1 ⟨rfl, rfl⟩))
          | (go_at_call 16; go_must ((with_reducible refine co.out.mono ?_); rintro e w1 ⟨rfl, rfl⟩; clear co))
          | (go_at_call 8; go_must ((with_reducible refine haw.out.mono ?_); rintro e w2 ⟨rfl, hb2⟩))
          | (go_at_call 12; go_must ((with_reducible refine (ct.out w2 (hT'.out.belowS hb2)).mono ?_); rintro e w3 ⟨rfl, rfl⟩)))
        go_ret
        exact ⟨rfl, hb2⟩
      · have hks : strL (wordN k) = s := by rw [← hk]; exact word_of_str (by rw [hk]; exact hk0)
        have cv : Hid (∀ W, HasKinds W → Calls Tryd.prog 14 #[.int .i64 k] W fun e w' => e = .returned (.string s) ∧ W = w') := Lib.hid (fun W hW => word_is k s hks W hW)
        have q2 : (k == 0) = false := by simpa using hk0
        clear hk hks hk0
        go_enter Tryd.func6, Tryd.ntmps6
        go_wp2_with (first
          | (go_at_call 14; go_must (first | ((with_reducible refine cw.out.mono ?_); rintro e w1 ⟨rfl, rfl⟩; clear cw) | ((with_reducible refine (cv.out w2 (hT'.out.belowS hb2)).mono ?_); rintro e w3 ⟨rfl, rfl⟩)))
          | (go_at_call 16; go_must ((with_reducible refine co.out.mono ?_); rintro e w1 ⟨rfl, rfl⟩; clear co))
          | (go_at_call 8; go_must ((with_reducible refine haw.out.mono ?_); rintro e w2 ⟨rfl, hb2⟩))
          | (go_at_call 12; go_must ((with_reducible refine (ct.out w2 (hT'.out.belowS hb2)).mono ?_); rintro e w3 ⟨rfl, rfl⟩)))
        go_ret
        exact ⟨rfl, hb2⟩

end Go.Proofs.YtjbhhlhaikmecaaDoor
