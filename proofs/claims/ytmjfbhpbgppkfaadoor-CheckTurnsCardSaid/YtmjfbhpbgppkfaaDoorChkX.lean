/-
  The walk of CheckTurns: true, in whatever memory whose table holds its sixteen numbers.
-/
import Derived.Test.YtmjfbhpbgppkfaaDoorChkV
namespace Go.Proofs.YtmjfbhpbgppkfaaDoor
open Go.RowKit

def byV (a b c d : Nat) : Array Value := #[.int .u8 (a : Int), .int .u8 (b : Int), .int .u8 (c : Int), .int .u8 (d : Int)]

theorem byV_at (a b c d i : Nat) (h : i < 4) : (byV a b c d)[i]? = some (.int .u8 (([a, b, c, d][i]?.getD 0 : Nat) : Int)) := by
  match i, h with
  | 0, _ => rfl
  | 1, _ => rfl
  | 2, _ => rfl
  | 3, _ => rfl

theorem byV_lt (a b c d i : Nat) (h : ∀ x ∈ [a, b, c, d], x < 256) : [a, b, c, d][i]?.getD 0 < 256 := by
  cases hj : [a, b, c, d][i]? with
  | none => decide
  | some v => exact h v (List.mem_of_getElem? hj)

theorem mix_lt (s : ByteArray) (k m : Nat) (by_ : List Nat) (hb : ∀ b ∈ by_, b < 256) : ∀ b ∈ mixF s.size (k + m) (newF s k by_) (oldF s), b < 256 := by
  have h : ∀ j : Nat, (bL s)[j]?.getD 0 < 256 := by
    intro j
    rcases Nat.lt_or_ge j s.size with hj | hj
    · rw [bL_get s j hj]; exact UInt8.toNat_lt _
    · rw [List.getElem?_eq_none (by rw [bL_length]; exact hj)]; decide
  have h' : ∀ j : Nat, by_[j]?.getD 0 < 256 := by
    intro j
    cases hj : by_[j]? with
    | none => decide
    | some v => exact hb v (List.mem_of_getElem? hj)
  intro b hb'
  obtain ⟨j, _, rfl⟩ := List.mem_map.1 hb'
  split
  · unfold newF
    split
    · exact h j
    · exact Nat.xor_lt_two_pow (n := 8) (h j) (h' _)
  · exact h j

theorem bneI (n : Nat) : ((n : Int) != 0) = (n != 0) := by
  cases n with
  | zero => rfl
  | succ n => rfl

theorem hag_bool {x y : Nat} {o : Bool} (h : (!(x == y)) = o) : (((x : Int) != (y : Int)) == o) = true := by
  subst h
  by_cases e : x = y
  · subst e; simp
  · have : ((x : Int) == (y : Int)) = false := by rw [beq_eq_false_iff_ne]; omega
    simp [bne, this, e]

set_option maxHeartbeats 1000000 in
theorem checkTurns_main (s : ByteArray) (at_ k a b c_ d : Nat) (w : World) (hT : HasTab w) (h0 : 0 < s.size) (hl : s.size ≤ 2000) (hat : at_ < 65536) (hk : at_ % s.size = k) (hB : ∀ x ∈ [a, b, c_, d], x < 256) :
    Calls Tryd.prog 5 #[.string s, .int .u16 at_, .agg (byV a b c_ d)] w
      fun e w' => e = .returned (.bool true) ∧ Below w.heap.size w w' := by
  have hkn : k < s.size := hk ▸ Nat.mod_lt _ h0
  have e0 : ((s.size : Int) == 0) = false := by rw [beq_eq_false_iff_ne]; omega
  have e1 : ¬ (2000 : Int) < (s.size : Int) := by omega
  have hmod2 : (at_ : Int) % (s.size : Int) = (k : Int) := by rw [← hk]; simp
  have hmod : IntKind.i64.wrap ((at_ : Int).tmod (s.size : Int)) = (k : Int) := by
    have e : (at_ : Int).tmod (s.size : Int) = (k : Int) := by rw [Int.tmod_eq_emod_of_nonneg (Int.natCast_nonneg _), hmod2]
    rw [e]
    exact IntWalk.i64_in _ (by omega)
  have hcv := fun X => Lib.run_convert_string_bytes (P := Tryd.prog) X 9 30 5 s Tryd.underlying9 Tryd.underlying30 Tryd.underlying5
  clear hk
  go_enter Tryd.func5, Tryd.ntmps5
  go_wp2
  have hb0 : Below w.heap.size w (Lib.bytesWorld (w.alloc (.cells (byV a b c_ d) 29)) 5 s) := bnext ((Below.refl _ _).alloc (Nat.le_refl _) _) (bytesWorld_below _ _ _)
  have hk0 : Bk (Lib.bytesWorld (w.alloc (.cells (byV a b c_ d) 29)) 5 s) w.heap.size 29 (byV a b c_ d) := (Bk.new _ _ _).below (bytesWorld_below _ _ _)
  have hy0 : By (Lib.bytesWorld (w.alloc (.cells (byV a b c_ d) 29)) 5 s) (w.heap.size + 1) (bL s) := by
    have := bytesWorld_by (w.alloc (.cells (byV a b c_ d) 29)) 5 s
    simpa using this
  generalize Lib.bytesWorld (w.alloc (.cells (byV a b c_ d) 29)) 5 s = W0 at *
  generalize grownCap (w.alloc (.cells (byV a b c_ d) 29)) s.size 0 5 = cap at *
  clear hcv hmod hmod2 e0 e1
  go_loopw [9, 10] (fun o c wr => ∃ i : Nat, i ≤ 4 ∧ k + i ≤ s.size ∧ c = .int .i64 i ∧ o = .bool (othN [a, b, c_, d] i) ∧ Below w.heap.size w wr ∧ Bk wr w.heap.size 29 (byV a b c_ d) ∧ By wr (w.heap.size + 1) (mixF s.size (k + i) (newF s k [a, b, c_, d]) (oldF s))) (fun _ c _ => 4 - (intOf c).toNat)
  case atStart =>
    refine ⟨0, by omega, by omega, rfl, rfl, hb0, hk0, ?_⟩
    show By W0 _ (mixF s.size k _ _)
    rw [mix_start]
    exact hy0
  case round =>
    clear hb0 hk0 hy0
    obtain ⟨i, hi, hki, rfl, rfl, hb, hkb, hy⟩ := hrel
    by_cases hlt : i < 4 ∧ k + i < s.size
    · obtain ⟨hi4, hkn'⟩ := hlt
      have t1 : (i : Int) < 4 := by omega
      have t2 : (k : Int) + (i : Int) < (s.size : Int) := by omega
      have hlen := mixF_length s.size (k + i) (newF s k [a, b, c_, d]) (oldF s)
      have hc := hy.cell (k + i) (by rw [hlen]; exact hkn')
      rw [mixF_at _ _ _ _ _ hkn', if_neg (by omega)] at hc
      have hf := hy.frozen (k + i) (by rw [hlen]; exact hkn')
      have hc2 := (hkb.cell i).trans (byV_at a b c_ d i hi4)
      have hx : bits .xor .u8 ((oldF s (k + i) : Nat) : Int) (([a, b, c_, d][i]?.getD 0 : Nat) : Int) = ((newF s k [a, b, c_, d] (k + i) : Nat) : Int) := by
        rw [u8_xor_nat _ _ (by rw [oldF, bL_get s _ hkn']; exact UInt8.toNat_lt _) (byV_lt a b c_ d i hB), newF, if_neg (by omega), Nat.add_sub_cancel_left]
        rfl
      have hst := hy.set (k + i) (newF s k [a, b, c_, d] (k + i)) (by rw [hlen]; exact hkn')
      rw [mixF_set _ _ _ _ hkn'] at hst
      have hst' := Lib.hid hst
      have hoth := Lib.hid (othN_succ [a, b, c_, d] i)
      have hkb' := Lib.hid hkb
      clear hst hlen hy hkb
      generalize oldF s (k + i) = oi at *
      generalize newF s k [a, b, c_, d] (k + i) = ni at *
      generalize hbi : [a, b, c_, d][i]?.getD 0 = bi at *
      have hw1 : IntKind.i64.wrap ((k : Int) + (i : Int)) = (k : Int) + (i : Int) := IntWalk.i64_in _ (by omega)
      have hw2 : ((k : Int) + (i : Int)).toNat = k + i := by omega
      have hw3 : (0 : Int) ≤ (k : Int) + (i : Int) := by omega
      cases ho : othN [a, b, c_, d] i with
      | true =>
        rw [ho] at hoth
        go_wp2
        go_still_tail 15, (by kernel_rfl)
        change wpList _ _ _ _ _ wr.drew
        go_wp2
        go_roundw
        case rel => exact ⟨i + 1, by omega, by omega, by go_num, by rw [hoth.out]; rfl, (hb.setCell (p := ⟨w.heap.size + 1, k + i, none⟩) (by simp) _).drew, (hkb'.out.far (p := ⟨w.heap.size + 1, k + i, none⟩) (by simp) _).below (below_drew1 _), by rw [← Nat.add_assoc]; exact hst'.out.below (below_drew1 _)⟩
        case measure => simp [intOf]; omega
      | false =>
        rw [ho] at hoth
        go_wp2
        go_still_tail 15, (by kernel_rfl)
        change wpList _ _ _ _ _ wr.drew
        go_wp2
        go_roundw
        case rel => exact ⟨i + 1, by omega, by omega, by go_num, by rw [hoth.out, bneI]; rfl, (hb.setCell (p := ⟨w.heap.size + 1, k + i, none⟩) (by simp) _).drew, (hkb'.out.far (p := ⟨w.heap.size + 1, k + i, none⟩) (by simp) _).below (below_drew1 _), by rw [← Nat.add_assoc]; exact hst'.out.below (below_drew1 _)⟩
        case measure => simp [intOf]; omega
    · have hcv := conv_by hy s.size cap (by rw [mixF_length])
      have hag := turns_agree s k i [a, b, c_, d] hki hi hB
      have cM := fun X h => of_any (strL (mixF s.size (k + i) (newF s k [a, b, c_, d]) (oldF s))) X h (by rw [strL_size, mixF_length]; omega)
      rw [bL_strL _ (mix_lt s k i [a, b, c_, d] hB)] at cM
      have cS := fun X h => of_any s X h (by omega)
      have hTr := hT.below hb
      have hag' := hag_bool hag
      generalize sumN 0 (mixF s.size (k + i) (newF s k [a, b, c_, d]) (oldF s)) = SM at *
      generalize sumN 0 (bL s) = SS at *
      generalize othN [a, b, c_, d] i = oth at *
      clear hag hy hkb hB
      rcases Nat.lt_or_ge i 4 with h4 | h4
      · have hkn' : k + i = s.size := by omega
        have t1 : (i : Int) < 4 := by omega
        have t2 : ¬ (k : Int) + (i : Int) < (s.size : Int) := by omega
        clear hlt hki hkn'
        go_wp2_with (first | (go_at_call 8; go_must (refine (awake2 _ hTr).mono ?_; rintro e w' ⟨rfl, rfl⟩)) | (go_at_call 9; go_must (first | (with_reducible refine (cM _ hTr).mono ?_; rintro e w' ⟨rfl, rfl⟩) | (with_reducible refine (cS _ hTr).mono ?_; rintro e w' ⟨rfl, rfl⟩))))
        go_ret
        exact ⟨rfl, hb⟩
      · have t1 : ¬ (i : Int) < 4 := by omega
        clear hlt hki
        go_wp2_with (first | (go_at_call 8; go_must (refine (awake2 _ hTr).mono ?_; rintro e w' ⟨rfl, rfl⟩)) | (go_at_call 9; go_must (first | (with_reducible refine (cM _ hTr).mono ?_; rintro e w' ⟨rfl, rfl⟩) | (with_reducible refine (cS _ hTr).mono ?_; rintro e w' ⟨rfl, rfl⟩))))
        go_ret
        exact ⟨rfl, hb⟩

theorem checkTurns_walk (s : ByteArray) (at_ a b c_ d : Nat) (w : World) (hT : HasTab w) (hat : at_ < 65536) (hB : ∀ x ∈ [a, b, c_, d], x < 256) :
    Calls Tryd.prog 5 #[.string s, .int .u16 at_, .agg #[.int .u8 (a : Int), .int .u8 (b : Int), .int .u8 (c_ : Int), .int .u8 (d : Int)]] w
      fun e w' => e = .returned (.bool true) ∧ Below w.heap.size w w' := by
  by_cases h0 : s.size = 0
  · have e0 : ((s.size : Int) == 0) = true := by rw [h0]; rfl
    clear h0
    go_enter Tryd.func5, Tryd.ntmps5
    go_wp2_with (go_at_call 8; go_must (refine (awake2 _ (hT.below ((Below.refl _ _).alloc (Nat.le_refl _) _))).mono ?_; rintro e w' ⟨rfl, rfl⟩))
    go_ret
    exact ⟨rfl, (Below.refl _ _).alloc (Nat.le_refl _) _⟩
  · by_cases hl : s.size ≤ 2000
    · exact checkTurns_main s at_ _ a b c_ d w hT (by omega) hl hat rfl hB
    · have e0 : ((s.size : Int) == 0) = false := by rw [beq_eq_false_iff_ne]; omega
      have e1 : (2000 : Int) < (s.size : Int) := by omega
      clear h0 hl
      go_enter Tryd.func5, Tryd.ntmps5
      go_wp2_with (go_at_call 8; go_must (refine (awake2 _ (hT.below ((Below.refl _ _).alloc (Nat.le_refl _) _))).mono ?_; rintro e w' ⟨rfl, rfl⟩))
      go_ret
      exact ⟨rfl, (Below.refl _ _).alloc (Nat.le_refl _) _⟩

end Go.Proofs.YtmjfbhpbgppkfaaDoor
