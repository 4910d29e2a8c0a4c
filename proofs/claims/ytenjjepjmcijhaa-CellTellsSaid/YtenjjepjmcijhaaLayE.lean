/-
  What lay.addNum answers, in whatever memory: a number's eight bytes behind a row of one's own that has at most 2^20 bytes.
-/
import Derived.Test.YtenjjepjmcijhaaLayB
import Derived.Test.YtenjjepjmcijhaaLayN
import Derived.Test.YtenjjepjmcijhaaOwnB
namespace Go.Proofs.Ytenjjepjmcijhaa
open Go.RowKit

set_option maxHeartbeats 2000000 in
theorem addNum_any (n : Int) (v : Value) (k : Nat) (xs : List Value) (B : Nat) (w : World) (hown : w.ownsRow B 5 1 v k xs) (hB : B ≤ w.heap.size) (hk : k ≤ 1048576) :
    Calls Try.prog 25 #[v, .int .i64 n] w
      fun e w' => ∃ v', e = .returned v' ∧ w'.ownsRow B 5 1 v' (k + 8) (xs ++ u8s (numB n)) ∧ Below B w w' := by
  obtain ⟨i0, hi0, hz0, hz1, hz2⟩ := infoB
  go_enter Try.func25, Try.ntmps25
  go_wp2
  go_loopw [0, 9] (fun v c wr => ∃ i : Nat, i ≤ 8 ∧ c = .int .i64 i ∧ wr.ownsRow B 5 1 v (k + i) (xs ++ u8s ((numB n).take i)) ∧ Below B w wr) (fun _ c _ => 8 - (intOf c).toNat)
  case atStart => exact ⟨0, Nat.zero_le _, rfl, by simpa [u8s] using hown, Below.refl _ _⟩
  case round =>
    obtain ⟨i, hi, rfl, ho, hb⟩ := hrel
    by_cases hlt : i < 8
    · have hbs := byte_shift n i
      have htk := Lib.hid (numB_take n i hlt)
      have q1 : k + i + 1 ≤ maxLen := by unfold maxLen; omega
      have q2 : (k + i + 1) * 1 ≤ 140737488355328 := by omega
      have hBr : B ≤ wr.heap.size := Nat.le_trans hB hb.size
      have ho' := Lib.hid ho
      clear ho hown
      go_wp2_with (at_builtin; go_must (refine append_one rfl (.tmp 12) (.tmp 19) _ rfl B 5 i0 _ 1 Try.underlying41 hi0 hz0 hz1 hz2 rfl _ (k + i) _ rfl (ho'.out.alloc _) wr.heap.size (.int .u8 (byteN n i : Nat)) rfl (Bk.new _ _ _) rfl q1 q2 (by simp; exact Nat.le_succ_of_le hBr) ?_; intro v' w4 hown4 hgr))
      go_roundw
      case rel => exact ⟨i + 1, by omega, by go_num, by rw [htk.out, u8s_snoc, ← List.append_assoc]; exact hown4, ((hb.alloc hBr _).grown hgr (by simp; omega) (fun k hk => own_ge ho'.out hk))⟩
      case measure => simp [intOf]; omega
    · obtain rfl : i = 8 := by omega
      have ht : (numB n).take 8 = numB n := List.take_of_length_le (by rw [numB_length]; omega)
      rw [ht] at ho
      have ho' := Lib.hid ho
      clear ho hown ht
      go_wp2
      go_ret
      exact ⟨_, rfl, ho'.out, hb⟩

end Go.Proofs.Ytenjjepjmcijhaa
