/-
  The walk of LayReads: true, in whatever memory.
-/
import Derived.Test.YtoolgbeiphdkdaaLayW
import Derived.Test.YtoolgbeiphdkdaaLayWr
import Derived.Test.YtoolgbeiphdkdaaOpenI
import Derived.Deep.RegionHeld3
import Derived.Deep.RegionLaw
import Derived.Deep.DrawnRows
namespace Go.Proofs.Ytoolgbeiphdkdaa
open Go.RowKit
attribute [local go_sem ↓] Go.wp_at_zero Go.wp_at_succ

theorem numsL_le (s : ByteArray) (x : Int) (r : Rd) : (numsL s x r).length ≤ 255 := by
  have := byteV_lt s r
  rw [numsL]
  split
  · simp
  · rw [numsOf_length]; omega

set_option maxRecDepth 100000 in
set_option maxHeartbeats 8000000 in
theorem layReads_main (s : ByteArray) (at_ : Int) (l : List (Int × Int)) (A : Option Addr) (c : Nat) (w : World) (hl : Pairs w A c l) (hs5 : s.size ≤ 500) (hl5 : l.length ≤ 50) :
    Calls Try.prog 4 #[.string s, .int .i64 at_, .slice A l.length c] w
      fun e w' => e = .returned (.bool true) ∧ Below w.heap.size w w' := by
  have hs : s.size ≤ 4611686018427387904 := by omega
  have d1 : ¬ (500 : Int) < (s.size : Int) := by omega
  have d2 : ¬ (50 : Int) < (l.length : Int) := by omega
  have hle := hl.1
  have hcl : Hid (∀ i, i < l.length → ∃ b off k x, A = some ⟨b, off, none⟩ ∧ b < w.heap.size ∧ w.cell? ⟨b, off + i * 2, none⟩ = some (.int .i64 k) ∧ w.cell? ⟨b, off + i * 2 + 1, none⟩ = some (.int .i64 x)) := Lib.hid fun i hi => by
    obtain ⟨b, off, e, hb, hc⟩ := hl.2 (by omega)
    exact ⟨b, off, _, _, e, hb, (hc i hi).1, (hc i hi).2⟩
  clear hl
  generalize l.length = N at *
  have hka0 : Hid (Bk ((w.alloc (.cells #[.string s, .int .i64 at_, .bool false] 30)).alloc (.cells #[.string s, .int .i64 at_, .bool false] 32)) w.heap.size 30 (frV s ⟨at_, false⟩)) := Lib.hid ((Bk.new w 30 (frV s ⟨at_, false⟩)).alloc _)
  have hkb0 : Hid (Bk ((w.alloc (.cells #[.string s, .int .i64 at_, .bool false] 30)).alloc (.cells #[.string s, .int .i64 at_, .bool false] 32)) (w.heap.size + 1) 32 (frV s ⟨at_, false⟩)) := Lib.hid (by
    have := Bk.new (w.alloc (.cells #[.string s, .int .i64 at_, .bool false] 30)) 32 (frV s ⟨at_, false⟩)
    rw [World.size_alloc] at this
    exact this)
  have hb0 : Hid (Below w.heap.size w ((w.alloc (.cells #[.string s, .int .i64 at_, .bool false] 30)).alloc (.cells #[.string s, .int .i64 at_, .bool false] 32))) := Lib.hid (((Below.refl _ _).alloc (Nat.le_refl _) _).alloc (by simp) _)
  have hne : w.heap.size + 1 ≠ w.heap.size := by omega
  go_enter Try.func4, Try.ntmps4
  go_wp2
  generalize ((w.alloc (.cells #[.string s, .int .i64 at_, .bool false] 30)).alloc (.cells #[.string s, .int .i64 at_, .bool false] 32)) = W0 at *
  go_loopw [9] (fun cc wr => ∃ (i : Nat) (r : Rd), i ≤ N ∧ cc = .int .i64 i ∧ Bk wr w.heap.size 30 (frV s r) ∧ Bk wr (w.heap.size + 1) 32 (frV s r) ∧ Below w.heap.size w wr) (fun cc _ => N - (intOf cc).toNat)
  case atStart => exact ⟨0, ⟨at_, false⟩, Nat.zero_le _, rfl, hka0.out, hkb0.out, hb0.out⟩
  case round =>
    clear hka0 hkb0 hb0
    obtain ⟨i, r, hi, rfl, hka', hkb', hb⟩ := hrel
    have hka := Lib.hid hka'
    have hkb := Lib.hid hkb'
    clear hka' hkb'
    by_cases hlt : i < N
    · obtain ⟨b, off, k, x, rfl, hbl, hc0, hc1⟩ := hcl.out i hlt
      have hcA := (bcells hb b (off + i * 2) hbl).trans hc0
      have hcB := (bcells hb b (off + i * 2 + 1) hbl).trans hc1
      have e1 : (i : Int) < (N : Int) := by omega
      have e2 : (0 : Int) ≤ (i : Int) := by omega
      clear hc0 hc1 hcl
      by_cases k0 : k = 0
      · subst k0
        have ca := Lib.hid (byte_any s r w.heap.size wr hka.out hs)
        go_wp2_with (first
          | (go_at_call 13; go_must ((with_reducible refine ca.out.mono ?_); rintro e w1 ⟨rfl, hk1, hb1⟩; have hy1 := hb1.bk hkb.out hne))
          | (go_at_call 14; go_must ((with_reducible refine (rbyte_any s r (w.heap.size + 1) w1 hy1 hs).mono ?_); rintro e W2 ⟨rfl, hk2, hb2⟩; have hx2 := hb2.bk hk1 (Ne.symm hne))))
        have hbW := hb2.below (hb1.below hb (Nat.le_refl _) hb.size) (by omega) (Nat.le_trans hb.size hb1.size)
        have hka := hx2
        have hkb := hk2
        generalize byteR s r = R at *
        clear hx2 hk2 hk1 hb1 hb2 hy1 ca
        obtain ⟨a1, b1⟩ := R
        obtain ⟨-, x1, x2, -⟩ := hka.three
        obtain ⟨-, y1, y2, -⟩ := hkb.three
        simp only at x1 x2 y1 y2
        have HA := Lib.hid hka
        have HB := Lib.hid hkb
        clear hka hkb
        cases b1 with
        | true =>
          go_quiet ((first | (go_at_call 20; exact Calls.quiet_of (done_any s ⟨a1, true⟩ w.heap.size _ (HA.out.below (below_drewN W2 _)))) | (go_at_call 21; exact Calls.quiet_of (rdone_any s ⟨a1, true⟩ (w.heap.size + 1) _ (HB.out.below (below_drewN W2 _))))))
          go_wp2
          go_roundw
          case rel => exact ⟨i + 1, ⟨a1, true⟩, by omega, by go_num, HA.out.below (below_drewN W2 _), HB.out.below (below_drewN W2 _), hbW.trans ((below_drewN W2 _).mono hbW.size)⟩
          case measure => simp [intOf]; omega
        | false =>
          go_quiet ((first | (go_at_call 20; exact Calls.quiet_of (done_any s ⟨a1, false⟩ w.heap.size _ (HA.out.below (below_drewN W2 _)))) | (go_at_call 21; exact Calls.quiet_of (rdone_any s ⟨a1, false⟩ (w.heap.size + 1) _ (HB.out.below (below_drewN W2 _))))))
          go_wp2
          go_roundw
          case rel => exact ⟨i + 1, ⟨a1, false⟩, by omega, by go_num, HA.out.below (below_drewN W2 _), HB.out.below (below_drewN W2 _), hbW.trans ((below_drewN W2 _).mono hbW.size)⟩
          case measure => simp [intOf]; omega
      by_cases k1 : k = 1
      · subst k1
        have ca := Lib.hid (num_any s r w.heap.size wr hka.out hs)
        go_wp2_with (first
          | (go_at_call 15; go_must ((with_reducible refine ca.out.mono ?_); rintro e w1 ⟨rfl, hk1, hb1⟩; have hy1 := hb1.bk hkb.out hne))
          | (go_at_call 16; go_must ((with_reducible refine (rnum_any s r (w.heap.size + 1) w1 hy1 hs).mono ?_); rintro e W2 ⟨rfl, hk2, hb2⟩; have hx2 := hb2.bk hk1 (Ne.symm hne))))
        have hbW := hb2.below (hb1.below hb (Nat.le_refl _) hb.size) (by omega) (Nat.le_trans hb.size hb1.size)
        have hka := hx2
        have hkb := hk2
        generalize numR s r = R at *
        clear hx2 hk2 hk1 hb1 hb2 hy1 ca
        obtain ⟨a1, b1⟩ := R
        obtain ⟨-, x1, x2, -⟩ := hka.three
        obtain ⟨-, y1, y2, -⟩ := hkb.three
        simp only at x1 x2 y1 y2
        have HA := Lib.hid hka
        have HB := Lib.hid hkb
        clear hka hkb
        cases b1 with
        | true =>
          go_quiet ((first | (go_at_call 20; exact Calls.quiet_of (done_any s ⟨a1, true⟩ w.heap.size _ (HA.out.below (below_drewN W2 _)))) | (go_at_call 21; exact Calls.quiet_of (rdone_any s ⟨a1, true⟩ (w.heap.size + 1) _ (HB.out.below (below_drewN W2 _))))))
          go_wp2
          go_roundw
          case rel => exact ⟨i + 1, ⟨a1, true⟩, by omega, by go_num, HA.out.below (below_drewN W2 _), HB.out.below (below_drewN W2 _), hbW.trans ((below_drewN W2 _).mono hbW.size)⟩
          case measure => simp [intOf]; omega
        | false =>
          go_quiet ((first | (go_at_call 20; exact Calls.quiet_of (done_any s ⟨a1, false⟩ w.heap.size _ (HA.out.below (below_drewN W2 _)))) | (go_at_call 21; exact Calls.quiet_of (rdone_any s ⟨a1, false⟩ (w.heap.size + 1) _ (HB.out.below (below_drewN W2 _))))))
          go_wp2
          go_roundw
          case rel => exact ⟨i + 1, ⟨a1, false⟩, by omega, by go_num, HA.out.below (below_drewN W2 _), HB.out.below (below_drewN W2 _), hbW.trans ((below_drewN W2 _).mono hbW.size)⟩
          case measure => simp [intOf]; omega
      by_cases k2 : k = 2
      · subst k2
        have hL := numsL_le s x r
        have hszr : w.heap.size + 1 < wr.heap.size := hkb.out.lt
        have hbne : b ≠ w.heap.size := by omega
        have hbne2 : b ≠ w.heap.size + 1 := by omega
        have hbw : b < wr.heap.size := by omega
        have hdb : Below wr.heap.size wr wr.drew := below_drew1 wr
        go_wp2
        go_region_held3 (fun w' => w'.cell? ⟨b, off + i * 2 + 1, none⟩ = some (.int .i64 x)) (go_keep) (first
          | (go_at_call 18; (with_reducible refine (nums_any s r x w.heap.size wr.drew (hka.out.below hdb) hs).mono ?_); rintro e w1 ⟨v1, rfl, ho1, hk1, hb1⟩; obtain ⟨A1, c1, rfl, -⟩ := Sl.own ho1; have hy1 := hb1.bk (hkb.out.below hdb) hne; have hS1 := (hb1.cell b (off + i * 2 + 1) hbw hbne).trans hcB)
          | (go_at_call 19; (with_reducible refine (rnums_any s r x (w.heap.size + 1) w1 hy1 hs).mono ?_); rintro e W2 ⟨v2, rfl, ho2, hk2, hb2⟩; obtain ⟨A2, c2, rfl, hi2'⟩ := Sl.own ho2; have hi2 : Ints W2 A2 c2 (numsL s x r) := hi2'; have hx2 := hb2.bk hk1 (Ne.symm hne); have hS2 := (hb2.cell b (off + i * 2 + 1) (Nat.lt_of_lt_of_le hbw hb1.size) hbne2).trans hS1; have hi1 : Ints W2 A1 c1 (numsL s x r) := Sl.own' (own_keep ho1 (fun g h1 h2 => hb2.block g h1 (by have := own_ge ho1 h2; have e : wr.drew.heap.size = wr.heap.size := rfl; omega))))
          | (go_at_call 17; (with_reducible refine (same_yes (numsL s x r) A1 c1 A2 c2 W2 hi1 hi2 (by omega)).mono ?_); rintro e w3 ⟨rfl, n3, rfl⟩))
        have t1 : Below w.heap.size w wr.drew := hb.drew
        have t2 := hb1.below t1 (Nat.le_refl _) t1.size
        have t3 := hb2.below t2 (by omega) t2.size
        have hbW := t3.trans ((below_drewN W2 n3).mono t3.size)
        have hka3 := hx2.below (below_drewN W2 n3)
        have hkb3 := hk2.below (below_drewN W2 n3)
        generalize numsR s x r = R at *
        clear t1 t2 t3 hx2 hk2 hk1 hb1 hb2 hy1 hS1 hS2 hi1 hi2 hi2' ho1 ho2 hka hkb
        generalize W2.drewN n3 = W3 at *
        have hka := hka3
        have hkb := hkb3
        clear hka3 hkb3
        go_wp2
        obtain ⟨a1, b1⟩ := R
        obtain ⟨-, x1, x2, -⟩ := hka.three
        obtain ⟨-, y1, y2, -⟩ := hkb.three
        simp only at x1 x2 y1 y2
        have HA := Lib.hid hka
        have HB := Lib.hid hkb
        clear hka hkb
        cases b1 with
        | true =>
          go_quiet ((first | (go_at_call 20; exact Calls.quiet_of (done_any s ⟨a1, true⟩ w.heap.size _ (HA.out.below (below_drewN W3 _)))) | (go_at_call 21; exact Calls.quiet_of (rdone_any s ⟨a1, true⟩ (w.heap.size + 1) _ (HB.out.below (below_drewN W3 _))))))
          go_wp2
          go_roundw
          case rel => exact ⟨i + 1, ⟨a1, true⟩, by omega, by go_num, HA.out.below (below_drewN W3 _), HB.out.below (below_drewN W3 _), hbW.trans ((below_drewN W3 _).mono hbW.size)⟩
          case measure => simp [intOf]; omega
        | false =>
          go_quiet ((first | (go_at_call 20; exact Calls.quiet_of (done_any s ⟨a1, false⟩ w.heap.size _ (HA.out.below (below_drewN W3 _)))) | (go_at_call 21; exact Calls.quiet_of (rdone_any s ⟨a1, false⟩ (w.heap.size + 1) _ (HB.out.below (below_drewN W3 _))))))
          go_wp2
          go_roundw
          case rel => exact ⟨i + 1, ⟨a1, false⟩, by omega, by go_num, HA.out.below (below_drewN W3 _), HB.out.below (below_drewN W3 _), hbW.trans ((below_drewN W3 _).mono hbW.size)⟩
          case measure => simp [intOf]; omega
      have f0 : (k == 0) = false := by simpa using k0
      have f1 : (k == 1) = false := by simpa using k1
      have f2 : (k == 2) = false := by simpa using k2
      clear k0 k1 k2
      go_wp2
      have hbW := hb
      have hka' := hka.out
      have hkb' := hkb.out
      clear hka hkb
      have hka := hka'
      have hkb := hkb'
      clear hka' hkb'
      generalize r = R at *
      generalize wr = W2 at *
      obtain ⟨a1, b1⟩ := R
      obtain ⟨-, x1, x2, -⟩ := hka.three
      obtain ⟨-, y1, y2, -⟩ := hkb.three
      simp only at x1 x2 y1 y2
      have HA := Lib.hid hka
      have HB := Lib.hid hkb
      clear hka hkb
      cases b1 with
      | true =>
        go_quiet ((first | (go_at_call 20; exact Calls.quiet_of (done_any s ⟨a1, true⟩ w.heap.size _ (HA.out.below (below_drewN W2 _)))) | (go_at_call 21; exact Calls.quiet_of (rdone_any s ⟨a1, true⟩ (w.heap.size + 1) _ (HB.out.below (below_drewN W2 _))))))
        go_wp2
        go_roundw
        case rel => exact ⟨i + 1, ⟨a1, true⟩, by omega, by go_num, HA.out.below (below_drewN W2 _), HB.out.below (below_drewN W2 _), hbW.trans ((below_drewN W2 _).mono hbW.size)⟩
        case measure => simp [intOf]; omega
      | false =>
        go_quiet ((first | (go_at_call 20; exact Calls.quiet_of (done_any s ⟨a1, false⟩ w.heap.size _ (HA.out.below (below_drewN W2 _)))) | (go_at_call 21; exact Calls.quiet_of (rdone_any s ⟨a1, false⟩ (w.heap.size + 1) _ (HB.out.below (below_drewN W2 _))))))
        go_wp2
        go_roundw
        case rel => exact ⟨i + 1, ⟨a1, false⟩, by omega, by go_num, HA.out.below (below_drewN W2 _), HB.out.below (below_drewN W2 _), hbW.trans ((below_drewN W2 _).mono hbW.size)⟩
        case measure => simp [intOf]; omega
    · obtain rfl : i = N := by omega
      go_wp2_with (go_at_call 8; go_must ((with_reducible refine (awake3 _).mono ?_); rintro e w1 ⟨rfl, hb1⟩))
      go_ret
      exact ⟨rfl, bnext hb hb1⟩

theorem layReads_walk (s : ByteArray) (at_ : Int) (l : List (Int × Int)) (A : Option Addr) (c : Nat) (w : World) (hl : Pairs w A c l) (hN : l.length ≤ 9223372036854775807) (hS : s.size ≤ 9223372036854775807) :
    Calls Try.prog 4 #[.string s, .int .i64 at_, .slice A l.length c] w
      fun e w' => e = .returned (.bool true) ∧ Below w.heap.size w w' := by
  by_cases h1 : s.size ≤ 500
  · by_cases h2 : l.length ≤ 50
    · exact layReads_main s at_ l A c w hl h1 h2
    · have d1 : ¬ (500 : Int) < (s.size : Int) := by omega
      have d2 : (50 : Int) < (l.length : Int) := by omega
      clear hl
      generalize l.length = N at *
      go_enter Try.func4, Try.ntmps4
      go_wp2_with (go_at_call 8; go_must ((with_reducible refine (awake3 _).mono ?_); rintro e w1 ⟨rfl, hb1⟩))
      go_ret
      exact ⟨rfl, hb1⟩
  · have d1 : (500 : Int) < (s.size : Int) := by omega
    clear hl
    generalize l.length = N at *
    go_enter Try.func4, Try.ntmps4
    go_wp2_with (go_at_call 8; go_must ((with_reducible refine (awake3 _).mono ?_); rintro e w1 ⟨rfl, hb1⟩))
    go_ret
    exact ⟨rfl, hb1⟩

end Go.Proofs.Ytoolgbeiphdkdaa
