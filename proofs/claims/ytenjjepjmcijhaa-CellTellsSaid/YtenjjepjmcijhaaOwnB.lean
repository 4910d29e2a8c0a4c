/-
  Rows of bytes of one's own: their string; a new row with room. They name no function of the program. No conditions but those that stand there.
-/
import Derived.Test.YtenjjepjmcijhaaByt
import Derived.Test.YtenjjepjmcijhaaOwn
namespace Go.Proofs.Ytenjjepjmcijhaa
open Go.RowKit

theorem infoB : ∃ i, Try.prog.info? 5 = some i ∧ i.zero = some (.int .u8 0) ∧ i.size = 1 ∧ i.bytes = 1 := by
  have h := infoU8
  cases hi : Try.prog.info? 5 with
  | none => rw [hi] at h; cases h
  | some i =>
    rw [hi] at h
    simp only [Option.map_some, Option.some.injEq, Prod.mk.injEq] at h
    exact ⟨i, rfl, h.1, h.2.1, h.2.2⟩

def u8s (l : List Nat) : List Value := l.map fun b : Nat => Value.int .u8 (b : Int)
theorem u8s_snoc (l : List Nat) (b : Nat) : u8s (l ++ [b]) = u8s l ++ [.int .u8 (b : Int)] := by simp [u8s]
theorem u8s_append (l m : List Nat) : u8s (l ++ m) = u8s l ++ u8s m := by simp [u8s]

/-- the string of a row of bytes of one's own. -/
theorem conv_own {w : World} {B n : Nat} {v : Value} {l : List Nat} (h : w.ownsRow B 5 1 v n (u8s l)) (hn : 0 < n) :
    (convert 41 9 v).run Try.prog w = .ok (.string (strL l)) w := by
  have hl : l.length = n := by simpa [u8s] using h.1
  rcases h.2 with ⟨_, h0⟩ | ⟨g, cap, cur, rfl, hB, hg, hnc, hcm, hcs, htake⟩
  · omega
  · refine conv_by (l := l) ⟨Bk.lt (t := 5) (cs := cur) hg, fun j hj => ?_, fun j _ => Bk.frozen (t := 5) (cs := cur) hg j⟩ n cap hl.symm
    rw [cell_of_row w g j cur 5 (0, 0) hg]
    have h1 : (cur.toList.take (n * 1))[j]? = (u8s l)[j]? := by rw [htake]
    rw [List.getElem?_take, if_pos (by omega), Array.getElem?_toList] at h1
    rw [h1]
    simp [u8s, hj]

theorem make_room (w : World) (c : Nat) (h : c ≤ 1048576) :
    (Instr.makeSlice 41 (.int .i64 0) (.int .i64 (c : Int))).run Try.prog w = .ok (.slice (some ⟨w.heap.size, 0, none⟩) 0 c) (w.alloc (.cells (madeCells #[.int .u8 0] c) 5)) := by
  obtain ⟨i0, hi0, hz0, hz1, hz2⟩ := infoB
  have hr := run_make (P := Try.prog) w 41 5 i0 (.int .u8 0) Try.underlying41 hi0 hz0 .i64 .i64 0 (c : Int) (by omega) (by omega) (by rw [hz2]; omega) (by omega)
  simp only [Int.toNat_natCast, hz1, Nat.mul_one] at hr
  exact hr

theorem own_room (w : World) (c : Nat) (h : c ≤ 1048576) : (w.alloc (.cells (madeCells #[.int .u8 0] c) 5)).ownsRow w.heap.size 5 1 (.slice (some ⟨w.heap.size, 0, none⟩) 0 c) 0 [] :=
  ⟨rfl, .inr ⟨w.heap.size, c, _, rfl, Nat.le_refl _, heap_alloc_new w _, Nat.zero_le _, by unfold maxLen; omega, by rw [size_madeCells]; omega, by simp⟩⟩

end Go.Proofs.Ytenjjepjmcijhaa
