/-
  What lay.Num and lay.Nums answer, in whatever memory: the bytes of any number, and of a list of at most 2^40 numbers (of the first 255).
-/
import Derived.Test.YtoolgbeiphdkdaaLayE
namespace Go.Proofs.Ytoolgbeiphdkdaa
open Go.RowKit

/-- the string of a row of bytes of one's own. -/
theorem conv_own {w : World} {B n : Nat} {v : Value} {l : List Nat} (h : w.ownsRow B 5 1 v n (u8s l)) (hn : 0 < n) :
    (convert 41 9 v).run Try.prog w = .ok (.string (strL l)) w := by
  have hl : l.length = n := by simpa [u8s] using h.1
  rcases h.2 with ⟨_, h0⟩ | ⟨g, cap, cur, rfl, hB, hg, hnc, hcm, hcs, htake⟩
  · omega
  · refine conv_by (l := l) ⟨Bk.lt (t := 5) (cs := cur) hg, fun j hj => ?_, fun j _ => Bk.frozen (t := 5) (cs := cur) hg j⟩ n cap hl.symm
    rw [cell_of_row w g j cur 5 (0, 0) hg]
    have h1 : (cur.toList.take (n * 1))[j]? = (u8s l)[j]? := by rw [htake]
    rw [List.getElem?_take, if_pos (by omega), Array.getElem?_toList] at h1
    rw [h1]
    simp [u8s, hj]

theorem make_room (w : World) (c : Nat) (h : c ≤ 1048576) :
    (Instr.makeSlice 41 (.int .i64 0) (.int .i64 (c : Int))).run Try.prog w = .ok (.slice (some ⟨w.heap.size, 0, none⟩) 0 c) (w.alloc (.cells (madeCells #[.int .u8 0] c) 5)) := by
  obtain ⟨i0, hi0, hz0, hz1, hz2⟩ := infoB
  have hr := run_make (P := Try.prog) w 41 5 i0 (.int .u8 0) Try.underlying41 hi0 hz0 .i64 .i64 0 (c : Int) (by omega) (by omega) (by rw [hz2]; omega) (by omega)
  simp only [Int.toNat_natCast, hz1, Nat.mul_one] at hr
  exact hr

theorem own_room (w : World) (c : Nat) (h : c ≤ 1048576) : (w.alloc (.cells (madeCells #[.int .u8 0] c) 5)).ownsRow w.heap.size 5 1 (.slice (some ⟨w.heap.size, 0, none⟩) 0 c) 0 [] :=
  ⟨rfl, .inr ⟨w.heap.size, c, _, rfl, Nat.le_refl _, heap_alloc_new w _, Nat.zero_le _, by unfold maxLen; omega, by rw [size_madeCells]; omega, by simp⟩⟩

theorem num_str (n : Int) (w : World) :
    Calls Try.prog 9 #[.int .i64 n] w
      fun e w' => e = .returned (.string (strL (numB n))) ∧ Below w.heap.size w w' := by
  have hadd := Lib.hid (addNum_any n (.slice none 0 0) 0 [] w.heap.size w ⟨rfl, .inl ⟨rfl, rfl⟩⟩ (Nat.le_refl _) (by omega))
  go_enter Try.func9, Try.ntmps9
  go_wp2_with (go_at_call 22; go_must ((with_reducible refine hadd.out.mono ?_); rintro e w1 ⟨v', rfl, hown, hb⟩; have hcv := conv_own (l := numB n) (by simpa using hown) (by omega)))
  go_ret
  exact ⟨rfl, hb⟩

/-- numbers' bytes, behind how many there are; of the first 255. -/
def numsB (l : List Int) : List Nat := min l.length 255 :: (l.take 255).flatMap numB

/-- a slice of ints. -/
def Ints (w : World) (A : Option Addr) (c : Nat) (l : List Int) : Prop := Sl w 1 A l.length c (l.map (.int .i64))

theorem Ints.cellAt {w : World} {A : Option Addr} {c : Nat} {l : List Int} (h : Ints w A c l) {j : Nat} (hj : j < l.length) :
    ∃ b off, A = some ⟨b, off, none⟩ ∧ b < w.heap.size ∧ w.cell? ⟨b, off + j, none⟩ = some (.int .i64 (l[j]?.getD 0)) := by
  obtain ⟨b, off, rfl, hb, hc⟩ := h.2.2.2 (by omega)
  refine ⟨b, off, rfl, hb, ?_⟩
  rw [hc j (by omega)]
  simp [hj]

end Go.Proofs.Ytoolgbeiphdkdaa
