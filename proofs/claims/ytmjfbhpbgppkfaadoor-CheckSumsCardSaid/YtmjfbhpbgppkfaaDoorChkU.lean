/-
  The walk of CheckSums: true, in whatever memory whose table holds its sixteen numbers.
-/
import Derived.Test.YtmjfbhpbgppkfaaDoorChkW
import Derived.Test.YtmjfbhpbgppkfaaDoorByt
import Derived.Test.YtmjfbhpbgppkfaaDoorSaysG
import Derived.StillTailTactics
namespace Go.Proofs.YtmjfbhpbgppkfaaDoor
open Go.RowKit
attribute [local go_sem] look findAt
attribute [local simp] depsOf isV Region.binds

/-- both turned into one another. -/
def turnF (s t : ByteArray) : Nat → Nat := fun j => (bL s)[j]?.getD 0 ^^^ (bL t)[j]?.getD 0

theorem xorL_at : ∀ (l m : List Nat) (j : Nat), l.length = m.length → j < l.length → (xorL l m)[j]? = some (l[j]?.getD 0 ^^^ m[j]?.getD 0)
  | [], _, j, _, h => by simp at h
  | _ :: _, [], _, h, _ => by simp at h
  | x :: l, y :: m, 0, _, _ => by simp [xorL]
  | x :: l, y :: m, j + 1, h, hj => by
    rw [xorL, List.getElem?_cons_succ, xorL_at l m j (by simpa using h) (by simpa using hj)]
    simp

theorem bL_first (s : ByteArray) (n : Nat) : bL (s.extract 0 n) = (bL s).take n := by
  simp [bL, List.map_take]

theorem turn_xorL (s t : ByteArray) (n : Nat) (hs : n ≤ s.size) (ht : n ≤ t.size) : (List.range n).map (turnF s t) = xorL ((bL s).take n) ((bL t).take n) := by
  have l1 : ((bL s).take n).length = n := by rw [List.length_take, bL_length]; omega
  have l2 : ((bL t).take n).length = n := by rw [List.length_take, bL_length]; omega
  apply List.ext_getElem?
  intro j
  by_cases hj : j < n
  · rw [xorL_at _ _ j (by omega) (by omega), List.getElem?_take, if_pos hj, List.getElem?_take, if_pos hj]
    simp [hj, turnF]
  · rw [List.getElem?_eq_none (by simp; omega), List.getElem?_eq_none (by rw [xorL_length _ _ (by omega)]; omega)]

theorem turnF_lt (s t : ByteArray) (j : Nat) : turnF s t j < 256 := by
  have h : ∀ (s : ByteArray) (j : Nat), (bL s)[j]?.getD 0 < 256 := by
    intro s j
    rcases Nat.lt_or_ge j s.size with hj | hj
    · rw [bL_get s j hj]; exact UInt8.toNat_lt _
    · rw [List.getElem?_eq_none (by rw [bL_length]; exact hj)]; decide
  exact Nat.xor_lt_two_pow (n := 8) (h s j) (h t j)

/-- what the statement says, on plain numbers. -/
theorem sums_agree (s t : ByteArray) (n : Nat) (hs : n ≤ s.size) (ht : n ≤ t.size) :
    sumN 0 (bL (strL ((List.range n).map (turnF s t)))) = sumN 0 (bL (s.extract 0 n)) ^^^ sumN 0 (bL (t.extract 0 n)) ^^^ sumN 0 (bL (strL (List.replicate n 0))) := by
  have l1 : ((bL s).take n).length = n := by rw [List.length_take, bL_length]; omega
  have l2 : ((bL t).take n).length = n := by rw [List.length_take, bL_length]; omega
  rw [bL_strL _ (by intro b hb; obtain ⟨j, _, rfl⟩ := List.mem_map.1 hb; exact turnF_lt s t j), bL_strL _ (by intro b hb; rw [List.eq_of_mem_replicate hb]; decide), bL_first, bL_first, turn_xorL s t n hs ht]
  have := sumN_xor ((bL s).take n) ((bL t).take n) (by omega)
  rwa [l1] at this

set_option linter.constructorNameAsVariable false in
set_option maxHeartbeats 4000000 in
theorem checkSums_main (s t : ByteArray) (N : Nat) (w : World) (hT : HasTab w) (hN : (if t.size < s.size then (t.size : Int) else (s.size : Int)) = (N : Int)) (hs : N ≤ s.size) (ht : N ≤ t.size) (hl : N ≤ 500) :
    Calls Tryd.prog 7 #[.string s, .string t] w
      fun e w' => e = .returned (.bool true) ∧ Below w.heap.size w w' := by
  have hl' : ¬ (500 : Int) < (N : Int) := by omega
  have hmk := make_by w N (by omega)
  go_enter Tryd.func7, Tryd.ntmps7
  go_wp2
  have hy0 := By.made w N
  have hb0 : Below w.heap.size w (w.alloc (.cells (madeCells #[.int .u8 0] N) 5)) := (Below.refl _ _).alloc (Nat.le_refl _) _
  clear hmk hN hl'
  go_loopw [7] (fun c wr => ∃ i : Nat, i ≤ N ∧ c = .int .i64 i ∧ Below w.heap.size w wr ∧ By wr w.heap.size (mixF N i (turnF s t) fun _ => 0)) (fun c _ => N - (intOf c).toNat)
  case atStart =>
    refine ⟨0, Nat.zero_le _, rfl, hb0, ?_⟩
    rw [mixF_nought]
    exact hy0
  case round =>
    clear hy0 hb0
    obtain ⟨i, hi, rfl, hb, hy⟩ := hrel
    by_cases hlt : i < N
    · have hc := hy.cell i (by rw [mixF_length]; exact hlt)
      have hf := hy.frozen i (by rw [mixF_length]; exact hlt)
      have h1 : i < s.size := by omega
      have h2 : i < t.size := by omega
      have h1' : (i : Int) < (s.size : Int) := by omega
      have h2' : (i : Int) < (t.size : Int) := by omega
      have h3' : (i : Int) < (N : Int) := by omega
      have hx : bits .xor .u8 ((s[i]'h1).toNat : Int) ((t[i]'h2).toNat : Int) = ((turnF s t i : Nat) : Int) := by
        rw [u8_xor_nat _ _ (UInt8.toNat_lt _) (UInt8.toNat_lt _), turnF, bL_get s i h1, bL_get t i h2]
        rfl
      have hst := hy.set i (turnF s t i) (by rw [mixF_length]; exact hlt)
      rw [mixF_set _ _ _ _ hlt] at hst
      have hst' := Lib.hid hst
      have hy' := Lib.hid hy
      clear hst hy
      go_wp2
      go_still_tail 10, (by kernel_rfl)
      change wpList _ _ _ _ _ wr.drew
      go_wp2
      go_roundw
      case rel => exact ⟨i + 1, by omega, by go_num, (hb.setCell (p := ⟨w.heap.size, i, none⟩) (Nat.le_refl _) _).drew, hst'.out.below (below_drew1 _)⟩
      case measure => simp [intOf]; omega
    · obtain rfl : i = N := by omega
      rw [mixF_full] at hy
      have hsum := sums_agree s t i hs ht
      generalize hMM : (List.range i).map (turnF s t) = M at *
      have hMl : M.length = i := by rw [← hMM]; simp
      have hTr := hT.below hb
      have cM := fun X h => of_any (strL M) X h (by rw [strL_size]; omega)
      have cZ := fun X h => of_any (strL (List.replicate i 0)) X h (by rw [strL_size]; simp; omega)
      have cA := fun X h => of_any (s.extract 0 i) X h (by rw [ByteArray.size_extract]; omega)
      have cB := fun X h => of_any (t.extract 0 i) X h (by rw [ByteArray.size_extract]; omega)
      have lA := sumN_lt (n := 0) (by omega) (bL_lt (s.extract 0 i))
      have lB := sumN_lt (n := 0) (by omega) (bL_lt (t.extract 0 i))
      have lZ := sumN_lt (n := 0) (by omega) (bL_lt (strL (List.replicate i 0)))
      generalize sumN 0 (bL (strL M)) = SM at *
      generalize sumN 0 (bL (strL (List.replicate i 0))) = SZ at *
      generalize sumN 0 (bL (s.extract 0 i)) = SA at *
      generalize sumN 0 (bL (t.extract 0 i)) = SB at *
      have hx1 : bits .xor .u32 (SA : Int) (SB : Int) = ((SA ^^^ SB : Nat) : Int) := u32_xor_nat _ _ lA lB
      have hx2 : bits .xor .u32 ((SA ^^^ SB : Nat) : Int) (SZ : Int) = (SM : Int) := by
        rw [hsum]
        exact u32_xor_nat _ _ (Nat.xor_lt_two_pow (n := 32) lA lB) lZ
      have hsi : (i : Int) ≤ (s.size : Int) := by omega
      have hti : (i : Int) ≤ (t.size : Int) := by omega
      have hcv : ∀ X, Below wr.heap.size wr X → (convert 30 9 (.slice (some ⟨w.heap.size, 0, none⟩) i i)).run Tryd.prog X = .ok (.string (strL M)) X := fun X hX => conv_by (hy.below hX) i i hMl.symm
      clear hsum lA lB lZ hMM hlt
      go_wp2
      refine wp_region_saysG 21 (fun x y => Below x.heap.size x y) (fun _ _ _ h k => bnext h k) wr (below_drew1 wr) (by kernel_rfl) (by kernel_rfl) (by kernel_rfl) (by kernel_rfl) (by rfl) ?_
      simp only [List.take_succ_cons, List.take_zero, List.drop_succ_cons, List.drop_zero]
      refine walkG_call (isV (.bool true)) 8 ?_ (by first | exact gs0 rfl | exact gs1 rfl rfl rfl) (fun _ _ _ _ h => h) (fun u X hX hd => ?_) (fun X hX => ?_) ?_
      rotate_left
      · try simp at hd
        go_simp
        rfl
      · exact (awake2 X (hTr.below hX)).mono fun e X' ⟨he, hw⟩ => ⟨_, he, hw ▸ Below.refl _ _, rfl⟩
      refine walkG_is ?_ (by first | exact gs0 rfl | exact gs1 rfl rfl rfl) (fun _ => Below.refl _ _) (fun u X hX hd => ?_) ?_
      rotate_left
      · try simp at hd
        go_simp
        rfl
      refine walkG_is ?_ (by first | exact gs0 rfl | exact gs1 rfl rfl rfl) (fun _ => Below.refl _ _) (fun u X hX hd => ?_) ?_
      rotate_left
      · try simp at hd
        go_simp
        rfl
      refine walkG_is ?_ (by first | exact gs0 rfl | exact gs1 rfl rfl rfl) (fun _ => Below.refl _ _) (fun u X hX hd => ?_) ?_
      rotate_left
      · try simp at hd
        go_simp
        rfl
      refine walkG_call (isV (.int .u32 (SM : Int))) 9 ?_ (by first | exact gs0 rfl | exact gs1 rfl rfl rfl) (fun _ _ _ _ h => h) (fun u X hX hd => ?_) (fun X hX => ?_) ?_
      rotate_left
      · try simp at hd
        go_simp
        rfl
      · exact (cM X (hTr.below hX)).mono fun e X' ⟨he, hw⟩ => ⟨_, he, hw ▸ Below.refl _ _, rfl⟩
      refine walkG_is ?_ (by first | exact gs0 rfl | exact gs1 rfl rfl rfl) (fun _ => Below.refl _ _) (fun u X hX hd => ?_) ?_
      rotate_left
      · try simp at hd
        go_simp
        rfl
      refine walkG_is ?_ (by first | exact gs0 rfl | exact gs1 rfl rfl rfl) (fun _ => Below.refl _ _) (fun u X hX hd => ?_) ?_
      rotate_left
      · try simp at hd
        go_simp
        rfl
      refine walkG_is ?_ (by first | exact gs0 rfl | exact gs1 rfl rfl rfl) (fun _ => Below.refl _ _) (fun u X hX hd => ?_) ?_
      rotate_left
      · try simp at hd
        go_simp
        rfl
      refine walkG_call (isV (.int .u32 (SA : Int))) 9 ?_ (by first | exact gs0 rfl | exact gs1 rfl rfl rfl) (fun _ _ _ _ h => h) (fun u X hX hd => ?_) (fun X hX => ?_) ?_
      rotate_left
      · try simp at hd
        go_simp
        rfl
      · exact (cA X (hTr.below hX)).mono fun e X' ⟨he, hw⟩ => ⟨_, he, hw ▸ Below.refl _ _, rfl⟩
      refine walkG_is ?_ (by first | exact gs0 rfl | exact gs1 rfl rfl rfl) (fun _ => Below.refl _ _) (fun u X hX hd => ?_) ?_
      rotate_left
      · try simp at hd
        go_simp
        rfl
      refine walkG_is ?_ (by first | exact gs0 rfl | exact gs1 rfl rfl rfl) (fun _ => Below.refl _ _) (fun u X hX hd => ?_) ?_
      rotate_left
      · try simp at hd
        go_simp
        rfl
      refine walkG_is ?_ (by first | exact gs0 rfl | exact gs1 rfl rfl rfl) (fun _ => Below.refl _ _) (fun u X hX hd => ?_) ?_
      rotate_left
      · try simp at hd
        go_simp
        rfl
      refine walkG_call (isV (.int .u32 (SB : Int))) 9 ?_ (by first | exact gs0 rfl | exact gs1 rfl rfl rfl) (fun _ _ _ _ h => h) (fun u X hX hd => ?_) (fun X hX => ?_) ?_
      rotate_left
      · try simp at hd
        go_simp
        rfl
      · exact (cB X (hTr.below hX)).mono fun e X' ⟨he, hw⟩ => ⟨_, he, hw ▸ Below.refl _ _, rfl⟩
      refine walkG_is ?_ (by first | exact gs0 rfl | exact gs1 rfl rfl rfl) (fun _ => Below.refl _ _) (fun u X hX hd => ?_) ?_
      rotate_left
      · try simp at hd
        go_simp
        rfl
      refine walkG_is ?_ (by first | exact gs0 rfl | exact gs1 rfl rfl rfl) (fun _ => Below.refl _ _) (fun u X hX hd => ?_) ?_
      rotate_left
      · try simp at hd
        go_simp
        rfl
      refine walkG_new (fun v X => ∃ g, v = .slice (some ⟨g, 0, none⟩) i i ∧ By X g (List.replicate i 0)) (gs1 rfl rfl rfl) (fun v X Y h hv => ?_) (fun u X hX hd => ?_) ?_
      · obtain ⟨g, e, hy⟩ := hv
        exact ⟨g, e, hy.below h⟩
      · have hmk := make_by X i (by omega)
        try simp at hd
        refine ⟨.slice (some ⟨X.heap.size, 0, none⟩) i i, X.alloc (.cells (madeCells #[.int .u8 0] i) 5), ?_, (Below.refl _ _).alloc (Nat.le_refl _) _, _, rfl, By.made X i⟩
        go_simp
      refine walkG_is (.string (strL (List.replicate i 0))) (by first | exact gs0 rfl | exact gs1 rfl rfl rfl) (fun _ => Below.refl _ _) (fun u X hX hd => ?_) ?_
      · simp at hd
        obtain ⟨⟨g, e, hy⟩, -⟩ := hd
        have hcv := conv_by hy i i (by simp)
        go_simp
      refine walkG_call (isV (.int .u32 (SZ : Int))) 9 ?_ (by first | exact gs0 rfl | exact gs1 rfl rfl rfl) (fun _ _ _ _ h => h) (fun u X hX hd => ?_) (fun X hX => ?_) ?_
      rotate_left
      · try simp at hd
        go_simp
        rfl
      · exact (cZ X (hTr.below hX)).mono fun e X' ⟨he, hw⟩ => ⟨_, he, hw ▸ Below.refl _ _, rfl⟩
      refine walkG_is ?_ (by first | exact gs0 rfl | exact gs1 rfl rfl rfl) (fun _ => Below.refl _ _) (fun u X hX hd => ?_) ?_
      rotate_left
      · try simp at hd
        go_simp
        rfl
      refine walkG_is (.bool true) (by first | exact gs0 rfl | exact gs1 rfl rfl rfl) (fun _ => Below.refl _ _) (fun u X hX hd => ?_) ?_
      · try simp at hd
        go_simp
      refine walkG_is ?_ (by first | exact gs0 rfl | exact gs1 rfl rfl rfl) (fun _ => Below.refl _ _) (fun u X hX hd => ?_) ?_
      rotate_left
      · try simp at hd
        go_simp
        rfl
      intro u X hX hsay
      simp only [List.nil_append, List.cons_append, sayAll, isV] at hsay
      obtain ⟨-, -, -, -, -, -, -, -, -, -, -, -, -, -, -, -, -, -, -, -, e20, -⟩ := hsay
      simp only [putAll, Act.put]
      go_wp2
      go_ret
      exact ⟨by simp, bnext hb hX⟩

theorem checkSums_walk (s t : ByteArray) (w : World) (hT : HasTab w) :
    Calls Tryd.prog 7 #[.string s, .string t] w
      fun e w' => e = .returned (.bool true) ∧ Below w.heap.size w w' := by
  obtain ⟨N, hN, hs, ht⟩ : ∃ N : Nat, (if t.size < s.size then (t.size : Int) else (s.size : Int)) = (N : Int) ∧ N ≤ s.size ∧ N ≤ t.size := by
    by_cases h : t.size < s.size
    · exact ⟨t.size, by rw [if_pos h], by omega, by omega⟩
    · exact ⟨s.size, by rw [if_neg h], by omega, by omega⟩
  by_cases hl : N ≤ 500
  · exact checkSums_main s t N w hT hN hs ht hl
  · have hl' : (500 : Int) < (N : Int) := by omega
    go_enter Tryd.func7, Tryd.ntmps7
    go_wp2_with (go_at_call 8; go_must (refine (awake2 _ hT).mono ?_; rintro e w' ⟨rfl, rfl⟩))
    go_ret
    exact ⟨rfl, Below.refl _ _⟩

end Go.Proofs.YtmjfbhpbgppkfaaDoor
