/-
  What cell.Print, and the reference's Print of layer 9, answer, in whatever memory: the bytes of any block.
-/
import Derived.Test.YtenjjepjmcijhaaCelM
import Derived.Test.YtenjjepjmcijhaaCelP
import Derived.Test.YtenjjepjmcijhaaLayF
import Derived.Test.YtenjjepjmcijhaaLayR
import Derived.Test.YtenjjepjmcijhaaBldr
import Derived.Test.YtenjjepjmcijhaaShelfSt
namespace Go.Proofs.Ytenjjepjmcijhaa
open Go.RowKit

theorem cellB_snoc (b : List Int) (i : Nat) (h : i < b.length) : cellB (b.take (i + 1)) = cellB (b.take i) ++ numB (b[i]?.getD 0) := flat_take b i h
theorem cellB_take (b : List Int) (h : b.length = 8) (i : Nat) (hi : i ≤ 8) : (cellB (b.take i)).length = 8 * i := by
  rw [cellB_length, List.length_take, h, Nat.min_eq_left hi]

/-- a cell of a block that is a value. -/
theorem index_blk {b : List Int} {i : Nat} (h8 : b.length = 8) (hi : i < 8) (w : World) : (Instr.index 23 (.agg (bkC b)) (.int .i64 (i : Nat))).run Try.prog w = .ok (.int .i64 (b[i]?.getD 0)) w := by
  cases hj : Try.prog.info? 3 with
  | none =>
    have h : (Try.prog.info? 3).isSome = true := by kernel_rfl
    rw [hj] at h
    cases h
  | some j =>
    have hs := run_sizeOf w hj
    rw [cellsInt] at hs
    simp [Instr.index, asIntOf, run_underlying Try.underlying23, hs, part, isAgg, run_underlying Try.underlying3, bkC_at (show i < b.length by omega)]
    intro h
    omega

set_option maxHeartbeats 2000000 in
theorem print_any (b : List Int) (h8 : b.length = 8) (w : World) :
    Calls Try.prog 8 #[.agg (bkC b)] w fun e w' => e = .returned (.string (strL (cellB b))) ∧ Below w.heap.size w w' := by
  have hS := Bk.new w 23 (bkC b)
  have hS2 := Lib.hid (hS.alloc (.cells #[.pointer none, .slice none 0 0] 43))
  have i8 := infoBlk h8
  have hix := Lib.hid (fun i hi => index_blk (b := b) (i := i) h8 hi)
  have hsn := Lib.hid (fun i h => cellB_snoc b i h)
  have hlen := Lib.hid (fun i h => cellB_take b h8 i h)
  have hall : Hid (cellB (b.take 8) = cellB b) := Lib.hid (by rw [List.take_of_length_le (by omega)])
  have h0 : Hid (cellB (b.take 0) = []) := Lib.hid (by simp [cellB])
  have hb0 := (Below.refl w.heap.size w).alloc (Nat.le_refl _) (.cells (bkC b) 23)
  have hb1 := Lib.hid (hb0.alloc (by simp) (.cells #[.pointer none, .slice none 0 0] 43))
  have hbn := Lib.hid (builder_new (w.alloc (.cells (bkC b) 23)) 43 5)
  have hsz : (w.alloc (.cells (bkC b) 23)).heap.size = w.heap.size + 1 := World.size_alloc _ _
  rw [hsz] at hbn
  clear hS hb0 hsz
  generalize bkC b = cs at *
  go_enter Try.func8, Try.ntmps8
  go_wp2_with (refine wpList_load_row rfl 23 _ rfl w.heap.size rfl 23 cs (0, 0) _ hS2.out Try.underlying23 rfl i8 ?_)
  go_loopw [7] (fun cc wr => ∃ i : Nat, i ≤ 8 ∧ cc = .int .i64 i ∧ Lib.IsBuilderF 43 5 (w.heap.size + 1) (w.heap.size + 1) (Lib.byteCells (u8L (cellB (b.take i)))) wr ∧ Below w.heap.size w wr ∧ w.heap.size + 1 < wr.heap.size) (fun cc _ => 8 - (intOf cc).toNat)
  case atStart => exact ⟨0, Nat.zero_le _, rfl, by rw [h0.out]; exact hbn.out, hb1.out, by rw [World.size_alloc, World.size_alloc]; omega⟩
  case round =>
    clear hbn hb1 hS2
    obtain ⟨i, hi, rfl, hI, hb, hsz⟩ := hrel
    have hI' := Lib.hid hI
    have hl := hlen.out i hi
    clear hI
    by_cases hlt : i < 8
    · have hx := hix.out i hlt
      have hs1 := Lib.hid (hsn.out i (by omega))
      have hn0 := num_str (b[i]?.getD 0)
      generalize b[i]?.getD 0 = x at *
      generalize cellB (b.take i) = T0 at *
      go_wp2_with (first
        | (go_at_call 18; go_must ((with_reducible refine (hn0 _).mono ?_); rintro e w5 ⟨rfl, hb5⟩; have I5 := Lib.hid (builder_below hI'.out hb5); have B5 := Lib.hid (hb.trans (hb5.mono hb.size)); have hs5 : w.heap.size + 1 < w5.heap.size := Nat.lt_of_lt_of_le hsz hb5.size; clear hn0))
        | (go_at_call 17; go_must ((with_reducible refine (write_any (w.heap.size + 1) (w.heap.size + 1) _ _ w5 I5.out (by rw [hl, numB_length]; omega) (Nat.le_of_lt hs5)).mono ?_); rintro e w6 ⟨rfl, hI6, hb6, -⟩; have hI6' := Lib.hid hI6; clear hI6)))
      go_roundw
      case rel => exact ⟨i + 1, hlt, by go_num, by rw [hs1.out]; exact hI6'.out, B5.out.trans (hb6.mono (Nat.le_succ _)), Nat.lt_of_lt_of_le hs5 hb6.size⟩
      case measure => simp [intOf]; omega
    · obtain rfl : i = 8 := by omega
      go_wp2_with (go_at_call 19; go_must ((with_reducible refine (Try.string_any (w.heap.size + 1) (w.heap.size + 1) _ wr hI'.out (Nat.le_of_lt hsz)).mono ?_); rintro e w4 ⟨rfl, -, hb4, -⟩))
      go_ret
      exact ⟨by rw [hall.out]; rfl, hb.trans (hb4.mono (Nat.le_succ _))⟩

set_option maxHeartbeats 2000000 in
theorem rprint_any (b : List Int) (h8 : b.length = 8) (w : World) :
    Calls Try.prog 9 #[.agg (bkC b)] w fun e w' => e = .returned (.string (strL (cellB b))) ∧ Below w.heap.size w w' := by
  have hS := Lib.hid (Bk.new w 23 (bkC b))
  have hat := Lib.hid (fun i h => bkC_at (b := b) (i := i) h)
  have hsn := Lib.hid (fun i h => cellB_snoc b i h)
  have hlen := Lib.hid (fun i h => cellB_take b h8 i h)
  have hall : Hid (cellB (b.take 8) = cellB b) := Lib.hid (by rw [List.take_of_length_le (by omega)])
  have h0 : Hid (cellB (b.take 0) = []) := Lib.hid (by simp [cellB])
  have hb0 := Lib.hid ((Below.refl w.heap.size w).alloc (Nat.le_refl _) (.cells (bkC b) 23))
  generalize bkC b = cs at *
  go_enter Try.func9, Try.ntmps9
  go_wp2
  go_loopw [3, 4] (fun v cc wr => ∃ i : Nat, i ≤ 8 ∧ cc = .int .i64 i ∧ v = .string (strL (cellB (b.take i))) ∧ Below w.heap.size w wr ∧ Bk wr w.heap.size 23 cs) (fun _ cc _ => 8 - (intOf cc).toNat)
  case atStart => exact ⟨0, Nat.zero_le _, rfl, by rw [h0.out]; rfl, hb0.out, hS.out⟩
  case round =>
    clear hb0 hS
    obtain ⟨i, hi, rfl, rfl, hb, hk⟩ := hrel
    have hk' := Lib.hid hk
    have hl := hlen.out i hi
    have hszS : (strL (cellB (b.take i))).size = 8 * i := by rw [strL_size, hl]
    by_cases hlt : i < 8
    · have hc := (hk.cell i).trans (hat.out i (by omega))
      have hs1 := Lib.hid (hsn.out i (by omega))
      have hn0 := rnum_str (b[i]?.getD 0)
      have hlk := hk.lt
      have hszN : (strL (numB (b[i]?.getD 0))).size = 8 := by rw [strL_size, numB_length]
      have hfin : Hid (strL (cellB (b.take i)) ++ strL (numB (b[i]?.getD 0)) = strL (cellB (b.take (i + 1)))) := Lib.hid (by rw [hs1.out, strL_append])
      clear hk
      generalize strL (numB (b[i]?.getD 0)) = SN at *
      generalize b[i]?.getD 0 = x at *
      generalize strL (cellB (b.take i)) = S0 at *
      go_wp2_with (go_at_call 20; go_must ((with_reducible refine (hn0 _).mono ?_); rintro e w5 ⟨rfl, hb5⟩; clear hn0))
      go_roundw
      case rel => exact ⟨i + 1, hlt, by go_num, by rw [← hfin.out], bnext hb hb5, hk'.out.below hb5⟩
      case measure => simp [intOf]; omega
    · obtain rfl : i = 8 := by omega
      clear hk
      go_wp2
      go_ret
      exact ⟨by rw [hall.out]; rfl, hb⟩

end Go.Proofs.Ytenjjepjmcijhaa
