/-
  The walk of LayBack: true, in whatever memory.
-/
import Derived.Test.YtoolgbeiphdkdaaLayW
import Derived.Test.YtoolgbeiphdkdaaLayQ
import Derived.Test.YtoolgbeiphdkdaaLayWr
import Derived.Lib.Strings
namespace Go.Proofs.Ytoolgbeiphdkdaa
open Go.RowKit

theorem Bk.newF (w : World) (t : TypeId) (s : ByteArray) : Bk (w.alloc (.cells #[.string s, .int .i64 0, .bool false] t)) w.heap.size t (frV s ⟨0, false⟩) := Bk.new w t (frV s ⟨0, false⟩)

theorem stands_of {s : ByteArray} {p : Nat} {pre rest : List Nat} {n : Int} (h : bL s = pre ++ numB n ++ rest) (hp : pre.length = p) : Stands s p n := by
  intro k hk
  rw [h, List.append_assoc, List.getElem?_append_right (by omega), hp, Nat.add_sub_cancel_left, List.getElem?_append_left (by rw [numB_length]; exact hk), numB_at n k hk]

theorem list_stands {s : ByteArray} {p : Nat} {pre rest : List Nat} {l : List Int} (hl : l.length ≤ 255) (h : bL s = pre ++ numsB l ++ rest) (hp : pre.length = p) :
    (bL s)[p]? = some l.length ∧ ∀ i, i < l.length → Stands s (p + 1 + 8 * i) (l[i]?.getD 0) := by
  rw [numsB_small hl] at h
  constructor
  · rw [h, List.append_assoc, List.getElem?_append_right (by omega), hp, Nat.sub_self]
    rfl
  · intro i hi k hk
    rw [h, List.append_assoc, List.getElem?_append_right (by omega), hp, show p + 1 + 8 * i + k - p = 8 * i + k + 1 by omega, List.cons_append, List.getElem?_cons_succ,
      List.getElem?_append_left (by rw [flat_length]; omega), flat_at l i k hi hk]

def backS (n : Int) (l : List Int) (more : ByteArray) : ByteArray := strL (numB n) ++ strL (numsB l) ++ more

theorem backS_bL (n : Int) (l : List Int) (more : ByteArray) : bL (backS n l more) = numB n ++ numsB l ++ bL more := by
  rw [backS, bL_append, bL_append, bL_strL _ (numB_lt n), bL_strL _ (numsB_lt l)]

theorem numsB_length {l : List Int} (h : l.length ≤ 255) : (numsB l).length = 1 + 8 * l.length := by
  rw [numsB_small h, List.length_cons, flat_length]
  omega

theorem backS_size (n : Int) (l : List Int) (more : ByteArray) (h : l.length ≤ 255) : (backS n l more).size = 9 + 8 * l.length + more.size := by
  rw [← bL_length, backS_bL, List.length_append, List.length_append, numB_length, numsB_length h, bL_length]
  omega

section
variable {l : List Int} {n : Int} {more : ByteArray} (h255 : l.length ≤ 255) (hm : more.size ≤ 100)
include h255 hm

theorem back_num (g : Nat) (w : World) (hn : -9223372036854775808 ≤ n ∧ n ≤ 9223372036854775807) (hk : Bk w g 30 (frV (backS n l more) ⟨0, false⟩)) :
    Calls Try.prog 15 #[.pointer (some ⟨g, 0, none⟩)] w fun e w' => e = .returned (.int .i64 n) ∧ Bk w' g 30 (frV (backS n l more) ⟨8, false⟩) ∧ But g w w' := by
  have := num_any (backS n l more) ⟨0, false⟩ g w hk (by rw [backS_size n l more h255]; omega)
  obtain ⟨h1, h2⟩ := num_back (stands_of (s := backS n l more) (p := 0) (pre := []) (rest := numsB l ++ bL more) (n := n) (by rw [backS_bL]; simp) rfl) hn
  rw [show (⟨0, false⟩ : Rd) = ⟨((0 : Nat) : Int), false⟩ from rfl, h1, h2] at this
  exact this

theorem back_nums (g : Nat) (w : World) (hr : ∀ x ∈ l, -9223372036854775808 ≤ x ∧ x ≤ 9223372036854775807) (hk : Bk w g 30 (frV (backS n l more) ⟨8, false⟩)) :
    Calls Try.prog 18 #[.pointer (some ⟨g, 0, none⟩), .int .i64 255] w fun e w' => ∃ B d, e = .returned (.slice B l.length d) ∧ Ints w' B d l ∧ Bk w' g 30 (frV (backS n l more) ⟨((9 + 8 * l.length : Nat) : Int), false⟩) ∧ But g w w' := by
  have hc := nums_any (backS n l more) ⟨8, false⟩ 255 g w hk (by rw [backS_size n l more h255]; omega)
  obtain ⟨q1, q2⟩ := list_stands (s := backS n l more) (p := 8) (pre := numB n) (rest := bL more) h255 (backS_bL n l more) (numB_length n)
  obtain ⟨h1, h2⟩ := nums_back (most := 255) q1 q2 hr (by omega)
  refine hc.mono ?_
  rintro e w' ⟨v, rfl, hown, hk', hb⟩
  rw [show (⟨8, false⟩ : Rd) = ⟨((8 : Nat) : Int), false⟩ from rfl, h1] at hown
  rw [show (⟨8, false⟩ : Rd) = ⟨((8 : Nat) : Int), false⟩ from rfl, h2, show 8 + 1 + 8 * l.length = 9 + 8 * l.length by omega] at hk'
  obtain ⟨B, d, rfl, hsl⟩ := Sl.own hown
  exact ⟨B, d, rfl, hsl, hk', hb⟩

omit hm in
theorem back_done (g : Nat) (w : World) (hk : Bk w g 30 (frV (backS n l more) ⟨((9 + 8 * l.length : Nat) : Int), false⟩)) :
    Calls Try.prog 20 #[.pointer (some ⟨g, 0, none⟩)] w fun e w' => e = .returned (.bool more.toList.isEmpty) ∧ ∃ n, w' = w.drewN n := by
  have hd := done_any (backS n l more) ⟨((9 + 8 * l.length : Nat) : Int), false⟩ g w hk
  have e : doneV (backS n l more) ⟨((9 + 8 * l.length : Nat) : Int), false⟩ = more.toList.isEmpty := by
    rw [doneV, backS_size n l more h255, Lib.toList_data]
    have h0 : more.data.toList.length = more.size := by simp
    rw [Bool.eq_iff_iff]
    simp only [Bool.not_false, Bool.true_and, decide_eq_true_eq, List.isEmpty_iff]
    constructor
    · intro h
      exact List.eq_nil_of_length_eq_zero (by omega)
    · intro h
      rw [h] at h0
      simp only [List.length_nil] at h0
      omega
  rwa [e] at hd

end

theorem short_nums {l : List Int} (h255 : l.length ≤ 255) (g : Nat) (w : World) (hk : Bk w g 30 (frV (strL (numsB l)) ⟨0, false⟩)) :
    Calls Try.prog 18 #[.pointer (some ⟨g, 0, none⟩), .int .i64 ((l.length : Int) - 1)] w fun e w' => ∃ B d a, e = .returned (.slice B 0 d) ∧ Bk w' g 30 (frV (strL (numsB l)) ⟨a, true⟩) ∧ But g w w' := by
  have hc := nums_any (strL (numsB l)) ⟨0, false⟩ ((l.length : Int) - 1) g w hk (by rw [strL_size, numsB_length h255]; omega)
  obtain ⟨q1, -⟩ := list_stands (s := strL (numsB l)) (p := 0) (pre := []) (rest := []) h255 (by rw [bL_strL _ (numsB_lt l)]; simp) rfl
  obtain ⟨h1, h2⟩ := nums_much (most := (l.length : Int) - 1) q1 (by omega)
  refine hc.mono ?_
  rintro e w' ⟨v, rfl, hown, hk', hb⟩
  rw [show (⟨0, false⟩ : Rd) = ⟨((0 : Nat) : Int), false⟩ from rfl, h1] at hown
  rw [show (⟨0, false⟩ : Rd) = ⟨((0 : Nat) : Int), false⟩ from rfl, Rd.ext' ⟨rfl, h2⟩] at hk'
  obtain ⟨B, d, rfl, -⟩ := Sl.own hown
  exact ⟨B, d, _, rfl, hk', hb⟩

set_option maxHeartbeats 2000000 in
theorem layBack_main (l : List Int) (n : Int) (more : ByteArray) (A : Option Addr) (c : Nat) (w : World) (hl : Ints w A c l) (h255 : l.length ≤ 255) (hm : more.size ≤ 100) (hn : -9223372036854775808 ≤ n ∧ n ≤ 9223372036854775807) (hr : ∀ x ∈ l, -9223372036854775808 ≤ x ∧ x ≤ 9223372036854775807) :
    Calls Try.prog 5 #[.slice A l.length c, .int .i64 n, .string more] w
      fun e w' => e = .returned (.bool true) ∧ Below w.heap.size w w' := by
  have hs1 : (strL (numB n)).size = 8 := by rw [strL_size, numB_length]
  have hs2 : (strL (numsB l)).size = 1 + 8 * l.length := by rw [strL_size, numsB_length h255]
  have d1 : ¬ (255 : Int) < (l.length : Int) := by omega
  have d2 : ¬ (100 : Int) < (more.size : Int) := by omega
  have c1 := num_str n
  have c2 := fun (W : World) h => nums_str l A c W h (by omega)
  have c3 := fun (g : Nat) (W : World) h => back_num (l := l) (n := n) (more := more) h255 hm g W hn h
  have c4 := fun (g : Nat) (W : World) h => back_nums (l := l) (n := n) (more := more) h255 hm g W hr h
  have c5 := fun (g : Nat) (W : World) h => back_done (l := l) (n := n) (more := more) h255 g W h
  have c6 := fun (g : Nat) (W : World) h => short_nums (l := l) h255 g W h
  have c7 := fun (B : Option Addr) (d : Nat) (W : World) h h' => same_yes l B d A c W h h' (by omega)
  have hl' := Lib.hid hl
  clear hl hr hn
  unfold backS at c3 c4 c5
  generalize strL (numB n) = S1 at *
  generalize strL (numsB l) = S2 at *
  generalize l.length = N at *
  have C3 := Lib.hid c3
  have C4 := Lib.hid c4
  have C5 := Lib.hid c5
  have C6 := Lib.hid c6
  have C7 := Lib.hid c7
  have C1 := Lib.hid c1
  have C2 := Lib.hid c2
  clear c1 c2 c3 c4 c5 c6 c7
  go_enter Try.func5, Try.ntmps5
  go_wp2_with (first
    | (go_at_call 9; go_must ((with_reducible refine (C1.out _).mono ?_); rintro e w1 ⟨rfl, hb1⟩))
    | (go_at_call 11; go_must (first
        | ((with_reducible refine (C2.out w1 (hl'.out.below hb1)).mono ?_); rintro e w2 ⟨rfl, hb2⟩)
        | ((with_reducible refine (C2.out _ (hl'.out.below t5)).mono ?_); rintro e w6 ⟨rfl, hb6⟩)))
    | (go_at_call 15; go_must ((with_reducible refine (C3.out w2.heap.size _ (Bk.newF w2 _ _)).mono ?_); rintro e w3 ⟨rfl, hk3, hb3⟩; have t2 := bnext (bnext hb1 hb2) ((Below.refl w2.heap.size w2).alloc (Nat.le_refl _) (.cells #[.string (S1 ++ S2 ++ more), .int .i64 0, .bool false] 30)); have t3 := hb3.below t2 (Nat.le_trans hb1.size hb2.size) t2.size))
    | (go_at_call 18; go_must (first
        | ((with_reducible refine (C4.out w2.heap.size w3 hk3).mono ?_); rintro e w4 ⟨B, d, rfl, hi4, hk4, hb4⟩; have t4 := hb4.below t3 (Nat.le_trans hb1.size hb2.size) t3.size; obtain ⟨-, -, b4, -⟩ := hk4.three; simp only at b4)
        | ((with_reducible refine (C6.out w6.heap.size _ (Bk.newF w6 _ _)).mono ?_); rintro e w7 ⟨B7, d7, a7, rfl, hk7, hb7⟩; have t6 := bnext (bnext t5 hb6) ((Below.refl w6.heap.size w6).alloc (Nat.le_refl _) (.cells #[.string S2, .int .i64 0, .bool false] 30)); have t7 := hb7.below t6 (Nat.le_trans t5.size hb6.size) t6.size)))
    | (go_at_call 8; go_must ((with_reducible refine (awake3 _).mono ?_); rintro e w8 ⟨rfl, hb8⟩; obtain ⟨-, -, b8, -⟩ := (hk7.below hb8).three; simp only at b8))
    | (go_at_call 17; go_must ((with_reducible refine (C7.out B d w4 hi4 (hl'.out.below t4)).mono ?_); rintro e w5 ⟨rfl, n5, rfl⟩))
    | (go_at_call 20; go_must ((with_reducible refine (C5.out w2.heap.size _ (hk4.below (below_drewN w4 n5))).mono ?_); rintro e w6 ⟨rfl, n6, rfl⟩; have t5 := t4.trans ((below_drewN w4 (n5 + n6)).mono t4.size))))
  go_ret
  exact ⟨rfl, bnext t7 hb8⟩

theorem layBack_walk (l : List Int) (n : Int) (more : ByteArray) (A : Option Addr) (c : Nat) (w : World) (hl : Ints w A c l) (hN : l.length ≤ 9223372036854775807) (hn : -9223372036854775808 ≤ n ∧ n ≤ 9223372036854775807) (hr : ∀ x ∈ l, -9223372036854775808 ≤ x ∧ x ≤ 9223372036854775807) :
    Calls Try.prog 5 #[.slice A l.length c, .int .i64 n, .string more] w
      fun e w' => e = .returned (.bool true) ∧ Below w.heap.size w w' := by
  by_cases h1 : l.length ≤ 255
  · by_cases h2 : more.size ≤ 100
    · exact layBack_main l n more A c w hl h1 h2 hn hr
    · have d1 : ¬ (255 : Int) < (l.length : Int) := by omega
      have d2 : (100 : Int) < (more.size : Int) := by omega
      clear hl hr
      generalize l.length = N at *
      go_enter Try.func5, Try.ntmps5
      go_wp2_with (go_at_call 8; go_must ((with_reducible refine (awake3 _).mono ?_); rintro e w1 ⟨rfl, hb1⟩))
      go_ret
      exact ⟨rfl, hb1⟩
  · have d1 : (255 : Int) < (l.length : Int) := by omega
    clear hl hr
    generalize l.length = N at *
    go_enter Try.func5, Try.ntmps5
    go_wp2_with (go_at_call 8; go_must ((with_reducible refine (awake3 _).mono ?_); rintro e w1 ⟨rfl, hb1⟩))
    go_ret
    exact ⟨rfl, hb1⟩

end Go.Proofs.Ytoolgbeiphdkdaa
