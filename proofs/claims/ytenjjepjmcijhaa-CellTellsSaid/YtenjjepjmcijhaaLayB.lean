/-
  What Num of lay.From, and of the reference's, answers, in whatever memory: for strings that have at most 2^62 bytes, and whatever place.
-/
import Derived.Test.YtenjjepjmcijhaaLayA
namespace Go.Proofs.Ytenjjepjmcijhaa
open Go.RowKit

theorem itU_succ (s : ByteArray) (k : Nat) (r : Rd) : itU s (k + 1) r = itU s k r * 256 % 18446744073709551616 + byteV s (itR s k r) := rfl
theorem itR_succ (s : ByteArray) (k : Nat) (r : Rd) : itR s (k + 1) r = byteR s (itR s k r) := rfl

theorem u64_wrap (n : Nat) : IntKind.u64.wrap (n : Int) = ((n % 18446744073709551616 : Nat) : Int) := by
  simp only [IntKind.wrap, IntKind.bits, IntKind.signed]
  simp

theorem or_step (U v : Nat) (hv : v < 256) : bits .or .u64 (IntKind.u64.wrap ((U : Int) * 256)) (v : Int) = ((U * 256 % 18446744073709551616 + v : Nat) : Int) := by
  rw [show (U : Int) * 256 = ((U * 256 : Nat) : Int) by omega, u64_wrap]
  have h : U * 256 % 18446744073709551616 = (U % 72057594037927936) <<< 8 := by rw [Nat.shiftLeft_eq]; omega
  rw [u64_or_nat _ _ (Nat.mod_lt _ (by omega)) (by omega), h, ← Nat.shiftLeft_add_eq_or_of_lt (i := 8) hv]

set_option maxHeartbeats 1000000 in
theorem num_any (s : ByteArray) (r : Rd) (g : Nat) (w : World) (hk : Bk w g 28 (frV s r)) (hs : s.size ≤ 4611686018427387904) :
    Calls Try.prog 21 #[.pointer (some ⟨g, 0, none⟩)] w
      fun e w' => e = .returned (.int .i64 (numV s r)) ∧ Bk w' g 28 (frV s (numR s r)) ∧ But g w w' := by
  have hk' := Lib.hid hk
  clear hk
  go_enter Try.func21, Try.ntmps21
  go_wp2
  go_loopw [3, 6] (fun u c wr => ∃ k : Nat, k ≤ 8 ∧ c = .int .i64 k ∧ u = .int .u64 (itU s k r : Nat) ∧ Bk wr g 28 (frV s (itR s k r)) ∧ But g w wr) (fun _ c _ => 8 - (intOf c).toNat)
  case atStart => exact ⟨0, Nat.zero_le _, rfl, rfl, hk'.out, But.refl _ _⟩
  case round =>
    obtain ⟨k, hk8, rfl, rfl, hkb, hb⟩ := hrel
    by_cases hlt : k < 8
    · have hu := itU_lt s k r
      have hv := byteV_lt s (itR s k r)
      have hU' := Lib.hid (itU_succ s k r)
      have hR' := Lib.hid (itR_succ s k r)
      have hor := Lib.hid (or_step (itU s k r) (byteV s (itR s k r)) hv)
      generalize itU s k r = U at *
      generalize itR s k r = R at *
      have hkb' := Lib.hid hkb
      clear hkb
      go_wp2_with (go_at_call 26; go_must ((with_reducible refine (byte_any s R g _ hkb'.out hs).mono ?_); rintro e w1 ⟨rfl, hk1, hb1⟩))
      go_roundw
      case rel => exact ⟨k + 1, by omega, by go_num, by rw [hor.out, hU'.out], by rw [hR'.out]; exact hk1, hb.trans hb1⟩
      case measure => simp [intOf]; omega
    · obtain rfl : k = 8 := by omega
      obtain ⟨-, -, c2, -⟩ := hkb.frs
      have hkb' := Lib.hid hkb
      have hv' : Hid (numV s r = if (itR s 8 r).bad = true then 0 else wrap64 (itU s 8 r : Nat)) := Lib.hid rfl
      have hu := itU_lt s 8 r
      clear hkb
      generalize itU s 8 r = U at *
      cases hbad : (itR s 8 r).bad with
      | true =>
        rw [hbad] at c2
        have hbad' := Lib.hid hbad
        clear hbad
        go_wp2
        go_ret
        exact ⟨by rw [hv'.out, if_pos hbad'.out]; rfl, hkb'.out, hb⟩
      | false =>
        rw [hbad] at c2
        have hbad' := Lib.hid hbad
        clear hbad
        go_wp2
        go_ret
        exact ⟨by rw [hv'.out, if_neg (by rw [hbad'.out]; decide)]; rfl, hkb'.out, hb⟩

set_option maxHeartbeats 1000000 in
theorem rnum_any (s : ByteArray) (r : Rd) (g : Nat) (w : World) (hk : Bk w g 30 (frV s r)) (hs : s.size ≤ 4611686018427387904) :
    Calls Try.prog 22 #[.pointer (some ⟨g, 0, none⟩)] w
      fun e w' => e = .returned (.int .i64 (numV s r)) ∧ Bk w' g 30 (frV s (numR s r)) ∧ But g w w' := by
  have hk' := Lib.hid hk
  clear hk
  go_enter Try.func22, Try.ntmps22
  go_wp2
  go_loopw [3, 4] (fun u c wr => ∃ k : Nat, k ≤ 8 ∧ c = .int .i64 k ∧ u = .int .u64 (itU s k r : Nat) ∧ Bk wr g 30 (frV s (itR s k r)) ∧ But g w wr) (fun _ c _ => 8 - (intOf c).toNat)
  case atStart => exact ⟨0, Nat.zero_le _, rfl, rfl, hk'.out, But.refl _ _⟩
  case round =>
    obtain ⟨k, hk8, rfl, rfl, hkb, hb⟩ := hrel
    by_cases hlt : k < 8
    · have hu := itU_lt s k r
      have hv := byteV_lt s (itR s k r)
      have hU' := Lib.hid (itU_succ s k r)
      have hR' := Lib.hid (itR_succ s k r)
      have hor := Lib.hid (or_step (itU s k r) (byteV s (itR s k r)) hv)
      generalize itU s k r = U at *
      generalize itR s k r = R at *
      have hkb' := Lib.hid hkb
      clear hkb
      go_wp2_with (go_at_call 27; go_must ((with_reducible refine (rbyte_any s R g _ hkb'.out hs).mono ?_); rintro e w1 ⟨rfl, hk1, hb1⟩))
      go_roundw
      case rel => exact ⟨k + 1, by omega, by go_num, by rw [hor.out, hU'.out], by rw [hR'.out]; exact hk1, hb.trans hb1⟩
      case measure => simp [intOf]; omega
    · obtain rfl : k = 8 := by omega
      obtain ⟨-, -, c2, -⟩ := hkb.frs
      have hkb' := Lib.hid hkb
      have hv' : Hid (numV s r = if (itR s 8 r).bad = true then 0 else wrap64 (itU s 8 r : Nat)) := Lib.hid rfl
      have hu := itU_lt s 8 r
      clear hkb
      generalize itU s 8 r = U at *
      cases hbad : (itR s 8 r).bad with
      | true =>
        rw [hbad] at c2
        have hbad' := Lib.hid hbad
        clear hbad
        go_wp2
        go_ret
        exact ⟨by rw [hv'.out, if_pos hbad'.out]; rfl, hkb'.out, hb⟩
      | false =>
        rw [hbad] at c2
        have hbad' := Lib.hid hbad
        clear hbad
        go_wp2
        go_ret
        exact ⟨by rw [hv'.out, if_neg (by rw [hbad'.out]; decide)]; rfl, hkb'.out, hb⟩

end Go.Proofs.Ytenjjepjmcijhaa
