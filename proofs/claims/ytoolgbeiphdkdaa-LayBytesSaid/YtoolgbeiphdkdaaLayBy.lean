/-
  The walk of LayBytes: true, in whatever memory.
-/
import Derived.Test.YtoolgbeiphdkdaaLayW
import Derived.Deep.RegionLaw
import Derived.Deep.RegionHeld3
import Derived.Deep.DrawnRows
namespace Go.Proofs.Ytoolgbeiphdkdaa
open Go.RowKit
attribute [local go_sem ↓] Go.wp_at_zero Go.wp_at_succ

theorem done_no (s : ByteArray) (i g : Nat) (w : World) (hk : Bk w g 30 (frV s ⟨(i : Int), false⟩)) (h : i < s.size) :
    Calls Try.prog 20 #[.pointer (some ⟨g, 0, none⟩)] w fun e w' => e = .returned (.bool false) ∧ ∃ n, w' = w.drewN n := by
  have := done_any s ⟨(i : Int), false⟩ g w hk
  have e : doneV s ⟨(i : Int), false⟩ = false := by
    have h' : ¬ (i : Int) = (s.size : Int) := by omega
    simp [doneV, h']
  rwa [e] at this

theorem done_at (s : ByteArray) (g : Nat) (w : World) (hk : Bk w g 30 (frV s ⟨(s.size : Int), false⟩)) :
    Calls Try.prog 20 #[.pointer (some ⟨g, 0, none⟩)] w fun e w' => e = .returned (.bool true) ∧ ∃ n, w' = w.drewN n := by
  have := done_any s ⟨(s.size : Int), false⟩ g w hk
  have e : doneV s ⟨(s.size : Int), false⟩ = true := by simp [doneV]
  rwa [e] at this

theorem done_bad (s : ByteArray) (a : Int) (g : Nat) (w : World) (hk : Bk w g 30 (frV s ⟨a, true⟩)) :
    Calls Try.prog 20 #[.pointer (some ⟨g, 0, none⟩)] w fun e w' => e = .returned (.bool false) ∧ ∃ n, w' = w.drewN n := by
  have := done_any s ⟨a, true⟩ g w hk
  have e : doneV s ⟨a, true⟩ = false := by simp [doneV]
  rwa [e] at this

theorem byte_yes (s : ByteArray) (i g : Nat) (w : World) (hk : Bk w g 30 (frV s ⟨(i : Int), false⟩)) (hs : s.size ≤ 4611686018427387904) (h : i < s.size) :
    Calls Try.prog 13 #[.pointer (some ⟨g, 0, none⟩)] w fun e w' => e = .returned (.int .i64 ((s[i]'h).toNat : Int)) ∧ Bk w' g 30 (frV s ⟨(i : Int) + 1, false⟩) ∧ But g w w' := by
  have := byte_any s ⟨(i : Int), false⟩ g w hk hs
  rwa [byteV_of h, byteR_of h] at this

theorem byte_end (s : ByteArray) (g : Nat) (w : World) (hk : Bk w g 30 (frV s ⟨(s.size : Int), false⟩)) (hs : s.size ≤ 4611686018427387904) :
    Calls Try.prog 13 #[.pointer (some ⟨g, 0, none⟩)] w fun e w' => e = .returned (.int .i64 0) ∧ Bk w' g 30 (frV s ⟨(s.size : Int), true⟩) ∧ But g w w' := by
  have := byte_any s ⟨(s.size : Int), false⟩ g w hk hs
  have h := ok_far s (s.size : Int) (by omega)
  rw [byteV_no h, byteR_no h] at this
  exact this

set_option maxHeartbeats 4000000 in
theorem layBytes_main (s : ByteArray) (w : World) (hs5 : s.size ≤ 500) :
    Calls Try.prog 7 #[.string s] w
      fun e w' => e = .returned (.bool true) ∧ Below w.heap.size w w' := by
  have hs : s.size ≤ 4611686018427387904 := by omega
  have d5 : ¬ (500 : Int) < (s.size : Int) := by omega
  go_enter Try.func7, Try.ntmps7
  go_wp2
  have hk0 : Bk (w.alloc (.cells #[.string s, .int .i64 0, .bool false] 30)) w.heap.size 30 (frV s ⟨0, false⟩) := Bk.new _ _ _
  have hb0 : Below w.heap.size w (w.alloc (.cells #[.string s, .int .i64 0, .bool false] 30)) := (Below.refl _ _).alloc (Nat.le_refl _) _
  generalize w.alloc (.cells #[.string s, .int .i64 0, .bool false] 30) = W0 at *
  go_loopw [4] (fun c wr => ∃ i : Nat, i ≤ s.size ∧ c = .int .i64 i ∧ Bk wr w.heap.size 30 (frV s ⟨(i : Int), false⟩) ∧ Below w.heap.size w wr) (fun c _ => s.size - (intOf c).toNat)
  case atStart => exact ⟨0, Nat.zero_le _, rfl, hk0, hb0⟩
  case round =>
    clear hk0 hb0
    obtain ⟨i, hi, rfl, hk, hb⟩ := hrel
    by_cases hlt : i < s.size
    · have d0 : (i : Int) < (s.size : Int) := by omega
      have d1 : (0 : Int) ≤ (i : Int) := by omega
      have hk' := Lib.hid hk
      have hwr : IntKind.i64.wrap ((s[i]'hlt).toNat : Int) = ((s[i]'hlt).toNat : Int) := IntWalk.i64_in _ (by have := (s[i]'hlt).toNat_lt; omega)
      clear hk
      go_wp2
      go_region_with (first
        | (go_at_call 20; (with_reducible refine (done_no s i w.heap.size _ (hk'.out.below (below_drew1 wr)) hlt).mono ?_); rintro e w1 ⟨rfl, n1, rfl⟩)
        | (go_at_call 13; (refine (byte_yes s i w.heap.size _ (hk'.out.below (below_drewN wr (1 + n1))) hs hlt).mono ?_); rintro e w2 ⟨rfl, hk2, hb2⟩; obtain ⟨-, -, c2, -⟩ := hk2.three; simp only at c2))
      all_goals
        clear hwr
        go_wp2
        go_roundw
        case rel => exact ⟨i + 1, by omega, by go_num, hk2, hb2.below (hb.trans ((below_drewN wr _).mono hb.size)) (Nat.le_refl _) hb.size⟩
        case measure => simp [intOf]; omega
    · obtain rfl : i = s.size := by omega
      have hk' := Lib.hid hk
      clear hk
      go_wp2_with (first
        | (go_at_call 8; go_must ((with_reducible refine (awake3 _).mono ?_); rintro e w2 ⟨rfl, hb2⟩; have hk2 := (hk'.out.below (below_drewN wr n1)).below hb2; clear hk'))
        | (go_at_call 13; go_must ((with_reducible refine (byte_end s w.heap.size _ hk2 hs).mono ?_); rintro e w3 ⟨rfl, hk3, hb3⟩; obtain ⟨-, -, c2, -⟩ := hk3.three; simp only at c2))
        | (go_at_call 20; go_must (first
            | ((with_reducible refine (done_at s w.heap.size _ hk'.out).mono ?_); rintro e w1 ⟨rfl, n1, rfl⟩)
            | ((with_reducible refine (done_bad s (s.size : Int) w.heap.size _ hk3).mono ?_); rintro e w4 ⟨rfl, n4, rfl⟩))))
      go_ret
      have t1 := hb.trans ((below_drewN wr n1).mono hb.size)
      have t2 := t1.trans (hb2.mono t1.size)
      have t3 := hb3.below t2 (Nat.le_refl _) t2.size
      exact ⟨rfl, t3.trans ((below_drewN w3 n4).mono t3.size)⟩

theorem layBytes_walk (s : ByteArray) (w : World) :
    Calls Try.prog 7 #[.string s] w
      fun e w' => e = .returned (.bool true) ∧ Below w.heap.size w w' := by
  by_cases hs5 : s.size ≤ 500
  · exact layBytes_main s w hs5
  · have d5 : (500 : Int) < (s.size : Int) := by omega
    go_enter Try.func7, Try.ntmps7
    go_wp2_with (go_at_call 8; go_must ((with_reducible refine (awake3 _).mono ?_); rintro e w1 ⟨rfl, hb1⟩))
    go_ret
    exact ⟨rfl, hb1⟩

end Go.Proofs.Ytoolgbeiphdkdaa
