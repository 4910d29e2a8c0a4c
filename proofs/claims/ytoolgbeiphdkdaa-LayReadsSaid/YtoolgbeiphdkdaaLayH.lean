/-
  What the reference's Num and Nums answer, in whatever memory: the bytes of any number, and of a list of at most 2^40 numbers (of the first 255).
-/
import Derived.Test.YtoolgbeiphdkdaaLayG
namespace Go.Proofs.Ytoolgbeiphdkdaa
open Go.RowKit

theorem byte_shift2 (n : Int) (i : Nat) (h : i < 8) : IntKind.u64.wrap n / 2 ^ (56 - 8 * i) % 256 = ((byteN n i : Nat) : Int) := by
  rw [← byte_shift, show 56 - 8 * i = 8 * (7 - i) by omega]

set_option maxHeartbeats 2000000 in
theorem rnum_str (n : Int) (w : World) :
    Calls Try.prog 10 #[.int .i64 n] w
      fun e w' => e = .returned (.string (strL (numB n))) ∧ Below w.heap.size w w' := by
  have hmk : (Instr.makeSlice 41 (.int .i64 8) (.int .i64 8)).run Try.prog w = .ok (.slice (some ⟨w.heap.size, 0, none⟩) 8 8) (w.alloc (.cells (madeCells #[.int .u8 0] 8) 5)) := make_by w 8 (by omega)
  go_enter Try.func10, Try.ntmps10
  go_wp2
  have hy0 := By.made w 8
  have hb0 : Below w.heap.size w (w.alloc (.cells (madeCells #[.int .u8 0] 8) 5)) := (Below.refl _ _).alloc (Nat.le_refl _) _
  clear hmk
  go_loopw [4] (fun c wr => ∃ i : Nat, i ≤ 8 ∧ c = .int .i64 i ∧ Below w.heap.size w wr ∧ By wr w.heap.size (mixF 8 i (byteN n) fun _ => 0)) (fun c _ => 8 - (intOf c).toNat)
  case atStart =>
    refine ⟨0, Nat.zero_le _, rfl, hb0, ?_⟩
    rw [mixF_nought]
    exact hy0
  case round =>
    clear hy0 hb0
    obtain ⟨i, hi, rfl, hb, hy⟩ := hrel
    by_cases hlt : i < 8
    · have hc := hy.cell i (by rw [mixF_length]; exact hlt)
      have hf := hy.frozen i (by rw [mixF_length]; exact hlt)
      have hbs := byte_shift2 n i hlt
      have hst := hy.set i (byteN n i) (by rw [mixF_length]; exact hlt)
      rw [mixF_set _ _ _ _ hlt] at hst
      have hst' := Lib.hid hst
      clear hst hy
      go_wp2
      go_roundw
      case rel => exact ⟨i + 1, by omega, by go_num, hb.setCell (p := ⟨w.heap.size, i, none⟩) (Nat.le_refl _) _, hst'.out⟩
      case measure => simp [intOf]; omega
    · obtain rfl : i = 8 := by omega
      rw [mixF_full] at hy
      have hcv := conv_by hy 8 8 (by simp)
      clear hy
      go_wp2
      go_ret
      exact ⟨rfl, hb⟩

theorem strL_append (a b : List Nat) : strL a ++ strL b = strL (a ++ b) := by
  apply ByteArray.ext
  simp [strL]

theorem flat_length (l : List Int) : (l.flatMap numB).length = 8 * l.length := by
  induction l with
  | nil => rfl
  | cons x l ih => simp [numB_length] at ih ⊢; omega

theorem By.one (w : World) (b : Nat) : By (w.alloc (.cells #[.int .u8 (b : Int)] 5)) w.heap.size [b] := by
  have hk := Bk.new w 5 #[.int .u8 (b : Int)]
  refine ⟨hk.lt, fun j hj => ?_, fun j _ => hk.frozen j⟩
  obtain rfl : j = 0 := by simpa using hj
  exact hk.cell 0

set_option maxHeartbeats 2000000 in
theorem rnums_str (l : List Int) (A : Option Addr) (c : Nat) (w : World) (hl : Ints w A c l) (hn : l.length ≤ 1099511627776) :
    Calls Try.prog 12 #[.slice A l.length c] w
      fun e w' => e = .returned (.string (strL (numsB l))) ∧ Below w.heap.size w w' := by
  obtain ⟨m, hm⟩ : ∃ m, m = min l.length 255 := ⟨_, rfl⟩
  have hm1 : m ≤ 255 := by omega
  have hm2 : m ≤ l.length := by omega
  have hif : (if (255 : Int) < (l.length : Int) then (255 : Int) else (l.length : Int)) = (m : Int) := by split <;> omega
  have hcv0 := conv_by (By.one w m) 1 1 rfl
  have hstr : Hid (numsB l = m :: (l.take m).flatMap numB) := Lib.hid (by
    rw [numsB, ← hm]
    by_cases h : l.length ≤ 255
    · obtain rfl : m = l.length := by omega
      rw [List.take_of_length_le h, List.take_of_length_le (Nat.le_refl _)]
    · obtain rfl : m = 255 := by omega
      rfl)
  have hm' := Lib.hid hm
  have hl' := Lib.hid hl
  have hN : ∀ i, i < l.length → Hid (((l.take (i + 1)).flatMap numB) = (l.take i).flatMap numB ++ numB (l[i]?.getD 0)) := fun i h => Lib.hid (flat_take l i h)
  have hN' := Lib.hid hN
  have hcl : Hid (∀ i, i < l.length → ∃ b off, A = some ⟨b, off, none⟩ ∧ b < w.heap.size ∧ w.cell? ⟨b, off + i, none⟩ = some (.int .i64 (l[i]?.getD 0))) := Lib.hid fun i h => hl.cellAt h
  have hle := hl.2.1
  clear hm hl hN
  generalize l.length = N at *
  go_enter Try.func12, Try.ntmps12
  go_wp2
  have hb0 : Below w.heap.size w (w.alloc (.cells #[.int .u8 (m : Int)] 5)) := (Below.refl _ _).alloc (Nat.le_refl _) _
  clear hcv0 hif
  generalize w.alloc (.cells #[.int .u8 (m : Int)] 5) = W0 at *
  go_loopw [3, 4] (fun v cc wr => ∃ i : Nat, i ≤ m ∧ cc = .int .i64 i ∧ v = .string (strL (m :: (l.take i).flatMap numB)) ∧ Below w.heap.size w wr) (fun _ cc _ => m - (intOf cc).toNat)
  case atStart => exact ⟨0, Nat.zero_le _, rfl, by simp, hb0⟩
  case round =>
    clear hb0
    obtain ⟨i, hi, rfl, rfl, hb⟩ := hrel
    by_cases hlt : i < m
    · obtain ⟨b, off, rfl, hbl, hcell⟩ := hcl.out i (by omega)
      have hc' := (bcells hb b (off + i) hbl).trans hcell
      have hst := hN'.out i (by omega)
      have d1 : (i : Int) < (N : Int) := by omega
      have d2 : (i : Int) < 255 := by omega
      have hsz : (strL (m :: (l.take i).flatMap numB)).size ≤ 1 + 8 * i := by
        have := List.length_take_le i l
        rw [strL_size, List.length_cons, flat_length]
        omega
      generalize l[i]?.getD 0 = x at *
      have hsz2 : (strL (numB x)).size = 8 := by rw [strL_size, numB_length]
      have happ := Lib.hid (strL_append (m :: (l.take i).flatMap numB) (numB x))
      generalize hS : strL (m :: (l.take i).flatMap numB) = S at *
      have hS' := Lib.hid hS
      clear hcell hS
      go_wp2_with (go_at_call 10; go_must ((with_reducible refine (rnum_str x _).mono ?_); rintro e w5 ⟨rfl, hb5⟩))
      go_roundw
      case rel => exact ⟨i + 1, by omega, by go_num, by rw [happ.out, hst.out]; rfl, bnext hb hb5⟩
      case measure => simp [intOf]; omega
    · obtain rfl : i = m := by omega
      by_cases hlN : i < N
      · have d1 : (i : Int) < (N : Int) := by omega
        have d2 : ¬ (i : Int) < 255 := by have := hm'.out; omega
        go_wp2
        go_ret
        exact ⟨by rw [hstr.out]; rfl, hb⟩
      · have d1 : ¬ (i : Int) < (N : Int) := by omega
        go_wp2
        go_ret
        exact ⟨by rw [hstr.out]; rfl, hb⟩

end Go.Proofs.Ytoolgbeiphdkdaa
