/-
  What the reference's Num answers, in whatever memory: the bytes of any number.
-/
import Derived.Test.YtenjjepjmcijhaaLayN
import Derived.Test.YtenjjepjmcijhaaOwnB
import Derived.Test.YtenjjepjmcijhaaBut
import Derived.Lib.Hide
import Derived.WalkKit
import Derived.WalkSpells
import Derived.WalkLawsBesides
import Derived.WalkSmall
import Derived.IntWalk
namespace Go.Proofs.Ytenjjepjmcijhaa
open Go.RowKit

set_option maxHeartbeats 2000000 in
theorem rnum_str (n : Int) (w : World) :
    Calls Try.prog 20 #[.int .i64 n] w
      fun e w' => e = .returned (.string (strL (numB n))) ∧ Below w.heap.size w w' := by
  have hmk : (Instr.makeSlice 41 (.int .i64 8) (.int .i64 8)).run Try.prog w = .ok (.slice (some ⟨w.heap.size, 0, none⟩) 8 8) (w.alloc (.cells (madeCells #[.int .u8 0] 8) 5)) := make_by w 8 (by omega)
  go_enter Try.func20, Try.ntmps20
  go_wp2
  have hy0 := By.made w 8
  have hb0 : Below w.heap.size w (w.alloc (.cells (madeCells #[.int .u8 0] 8) 5)) := (Below.refl _ _).alloc (Nat.le_refl _) _
  clear hmk
  go_loopw [4] (fun c wr => ∃ i : Nat, i ≤ 8 ∧ c = .int .i64 i ∧ Below w.heap.size w wr ∧ By wr w.heap.size (mixF 8 i (byteN n) fun _ => 0)) (fun c _ => 8 - (intOf c).toNat)
  case atStart =>
    refine ⟨0, Nat.zero_le _, rfl, hb0, ?_⟩
    rw [mixF_nought]
    exact hy0
  case round =>
    clear hy0 hb0
    obtain ⟨i, hi, rfl, hb, hy⟩ := hrel
    by_cases hlt : i < 8
    · have hc := hy.cell i (by rw [mixF_length]; exact hlt)
      have hf := hy.frozen i (by rw [mixF_length]; exact hlt)
      have hbs := byte_shift2 n i hlt
      have hst := hy.set i (byteN n i) (by rw [mixF_length]; exact hlt)
      rw [mixF_set _ _ _ _ hlt] at hst
      have hst' := Lib.hid hst
      clear hst hy
      go_wp2
      go_roundw
      case rel => exact ⟨i + 1, by omega, by go_num, hb.setCell (p := ⟨w.heap.size, i, none⟩) (Nat.le_refl _) _, hst'.out⟩
      case measure => simp [intOf]; omega
    · obtain rfl : i = 8 := by omega
      rw [mixF_full] at hy
      have hcv := conv_by hy 8 8 (by simp)
      clear hy
      go_wp2
      go_ret
      exact ⟨rfl, hb⟩

theorem By.one (w : World) (b : Nat) : By (w.alloc (.cells #[.int .u8 (b : Int)] 5)) w.heap.size [b] := by
  have hk := Bk.new w 5 #[.int .u8 (b : Int)]
  refine ⟨hk.lt, fun j hj => ?_, fun j _ => hk.frozen j⟩
  obtain rfl : j = 0 := by simpa using hj
  exact hk.cell 0

end Go.Proofs.Ytenjjepjmcijhaa
