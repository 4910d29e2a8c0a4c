/-
  What the reference's halves, More and Of of layer 2 answer, in whatever memory: for numbers below 2^32 and strings that have at most 2^62 bytes.
-/
import Derived.Test.YtmjfbhpbgppkfaaDoorChkA
import Derived.Test.YtmjfbhpbgppkfaaDoorWords
namespace Go.Proofs.YtmjfbhpbgppkfaaDoor
open Go.RowKit

/-- one step. -/
def oneN (n : Nat) : Nat := if n % 2 = 1 then n / 2 ^^^ 3988292384 else n / 2
def onesN : Nat → Nat → Nat
  | 0, n => n
  | k + 1, n => oneN (onesN k n)
theorem tab_ones : ∀ i < 16, tab i = onesN 4 i := by decide
theorem oneN_lt {n : Nat} (h : n < 4294967296) : oneN n < 4294967296 := by
  unfold oneN; split
  · exact Nat.xor_lt_two_pow (n := 32) (by omega) (by omega)
  · omega
theorem onesN_lt : ∀ (k n : Nat), n < 4294967296 → onesN k n < 4294967296
  | 0, _, h => h
  | k + 1, _, h => oneN_lt (onesN_lt k _ h)

theorem ones_odd (k i : Nat) (hm : onesN k i < 4294967296) (h : (((onesN k i : Nat) : Int) % 2 == 1) = true) : bits .xor .u32 (((onesN k i : Nat) : Int) / 2) 3988292384 = ((onesN (k + 1) i : Nat) : Int) := by
  have h' : onesN k i % 2 = 1 := by have := eq_of_beq h; omega
  rw [onesN, oneN, if_pos h', show ((onesN k i : Nat) : Int) / 2 = ((onesN k i / 2 : Nat) : Int) by omega]
  exact u32_xor_nat _ 3988292384 (by omega) (by omega)
theorem ones_even (k i : Nat) (h : (((onesN k i : Nat) : Int) % 2 == 1) = false) : ((onesN k i : Nat) : Int) / 2 = ((onesN (k + 1) i : Nat) : Int) := by
  have h' : ¬ onesN k i % 2 = 1 := by
    intro e
    have : ((onesN k i : Nat) : Int) % 2 = 1 := by omega
    rw [this] at h
    cases h
  rw [onesN, oneN, if_neg h']
  omega

/-- the table, so many places of it filled. -/
def halvesRow (i : Nat) : Array Value := ((List.range 16).map fun j => Value.int .u32 ((if j < i then tab j else 0 : Nat) : Int)).toArray

theorem halvesRow_size (i : Nat) : (halvesRow i).size = 16 := by simp [halvesRow]
theorem halvesRow_all (i : Nat) : (halvesRow i).all (·.oneCell') = true := by
  simp [halvesRow, Value.oneCell']
theorem halvesRow_zero : halvesRow 0 = #[.int .u32 0, .int .u32 0, .int .u32 0, .int .u32 0, .int .u32 0, .int .u32 0, .int .u32 0, .int .u32 0, .int .u32 0, .int .u32 0, .int .u32 0, .int .u32 0, .int .u32 0, .int .u32 0, .int .u32 0, .int .u32 0] := rfl
theorem halvesRow_at (i j : Nat) (h : j < 16) : (halvesRow i)[j]? = some (.int .u32 ((if j < i then tab j else 0 : Nat) : Int)) := by
  simp [halvesRow, h]
theorem halvesRow_set (i : Nat) (h : i < 16) : (halvesRow i).setIfInBounds i (.int .u32 (tab i)) = halvesRow (i + 1) := by
  apply Array.ext_getElem?
  intro j
  rw [Array.getElem?_setIfInBounds]
  by_cases hj : j < 16
  · by_cases hij : i = j
    · subst hij
      rw [if_pos rfl, if_pos (by rw [halvesRow_size]; exact h), halvesRow_at _ _ h, if_pos (by omega)]
    · rw [if_neg hij, halvesRow_at _ _ hj, halvesRow_at _ _ hj]
      by_cases hji : j < i
      · rw [if_pos hji, if_pos (by omega)]
      · rw [if_neg hji, if_neg (by omega)]
  · rw [if_neg (by omega), Array.getElem?_eq_none (by rw [halvesRow_size]; omega), Array.getElem?_eq_none (by rw [halvesRow_size]; omega)]

theorem Bk.setRow {w : World} {g : Nat} {t : TypeId} {cs : Array Value} (h : Bk w g t cs) (cs' : Array Value) : Bk (w.setRow g cs') g t cs' := setRow_heap w g cs cs' t (0, 0) h
theorem below_row {B g : Nat} {a w : World} (hb : Below B a w) (h : B ≤ g) (cs : Array Value) : Below B a (w.setRow g cs) :=
  hb.trans ⟨rfl, rfl, rfl, by simp, fun k hk => setRow_other w g k cs (by omega)⟩

theorem infoTab (i : Nat) : (Tryd.prog.info? 34).map (·.size) = some (halvesRow i).size := by
  rw [halvesRow_size]; kernel_rfl

set_option maxHeartbeats 1000000 in
theorem halves_any (w : World) :
    Calls Tryd.prog 14 #[] w
      fun e w' => e = .returned (.agg (halvesRow 16)) ∧ Below w.heap.size w w' := by
  go_enter Tryd.func14, Tryd.ntmps14
  go_wp2
  go_loopw [2] (fun c wr => ∃ i : Nat, i ≤ 16 ∧ c = .int .i64 i ∧ Below w.heap.size w wr ∧ Bk wr w.heap.size 34 (halvesRow 0) ∧ Bk wr (w.heap.size + 1) 34 (halvesRow i)) (fun c _ => 16 - (intOf c).toNat)
  case atStart =>
    refine ⟨0, Nat.zero_le _, rfl, ((Below.refl w.heap.size w).alloc (Nat.le_refl _) _).alloc (by simp) _, ?_, ?_⟩
    · rw [halvesRow_zero]; exact (Bk.new _ _ _).alloc _
    · rw [halvesRow_zero]; exact heap_alloc2_new _ _ _
  case round =>
    obtain ⟨i, hi, rfl, hb, hk0, hk⟩ := hrel
    by_cases hlt : i < 16
    · have hcell := (hk.cell i).trans (halvesRow_at i i hlt)
      have hfz := hk.frozen i
      rw [if_neg (by omega)] at hcell
      go_wp2
      go_loop [3, 4] (fun x c => ∃ k : Nat, k ≤ 4 ∧ c = .int .i64 k ∧ x = .int .u32 (onesN k i : Nat)) (fun _ c => 4 - (intOf c).toNat)
      case atStart => exact ⟨0, Nat.zero_le _, rfl, rfl⟩
      case round =>
        obtain ⟨k, hk4, rfl, rfl⟩ := hrel
        by_cases hlt4 : k < 4
        · clear hcell hfz hk hk0 hb
          have hm := onesN_lt k i (by omega)
          go_wp2
          · go_round
            case rel => exact ⟨k + 1, by omega, by go_num, by rw [ones_odd k i hm ‹_›]⟩
            case measure => simp [intOf]; omega
          · go_round
            case rel => exact ⟨k + 1, by omega, by go_num, by rw [ones_even k i ‹_›]⟩
            case measure => simp [intOf]; omega
        · obtain rfl : k = 4 := by omega
          have hset := hk.set i (.int .u32 (tab i))
          rw [halvesRow_set i hlt] at hset
          rw [← tab_ones i hlt]
          go_wp2
          go_roundw
          case rel => exact ⟨i + 1, by omega, by go_num, hb.setCell (by simp) _, hk0.far (by simp) _, hset⟩
          case measure => simp [intOf]; omega
    · obtain rfl : i = 16 := by omega
      go_wp2_with (first | (refine wpList_load_row rfl 34 _ rfl (w.heap.size + 1) rfl 34 _ (0, 0) _ hk Tryd.underlying34 rfl (infoTab 16) ?_) | (refine wpList_store_row rfl 34 _ _ rfl w.heap.size (halvesRow 16) rfl rfl 34 (halvesRow 0) hk0 (infoTab 16) (by rw [halvesRow_size, halvesRow_size]) (halvesRow_all 16) ?_))
      exact bodyPost_ret (v := .agg (halvesRow 16)) (results_cell_row rfl _ _ w.heap.size 34 _ (0, 0) _ rfl (hk0.setRow _) Tryd.underlying34 rfl (infoTab 16)) rfl ⟨rfl, below_row hb (Nat.le_refl _) _⟩

theorem xorN_byte (m b : Nat) (h : m < 4294967296) (hb : b < 256) : bits .xor .u32 (m : Int) (b : Int) = ((m ^^^ b : Nat) : Int) := u32_xor_nat _ _ h (by omega)

/-- half of a byte, as the reference has it. -/
theorem half_step (m j : Nat) (h : m < 4294967296) : bits .xor .u32 ((m : Int) / 16) ((tab j : Nat) : Int) = ((m / 16 ^^^ tab j : Nat) : Int) := by
  rw [show (m : Int) / 16 = ((m / 16 : Nat) : Int) by omega]
  exact u32_xor_nat _ _ (by omega) (tab_lt _)

theorem half_lt (m j : Nat) (h : m < 4294967296) : m / 16 ^^^ tab j < 4294967296 := Nat.xor_lt_two_pow (n := 32) (by omega) (tab_lt _)

set_option maxHeartbeats 1000000 in
theorem rmore_any (n : Nat) (s : ByteArray) (w : World) (h32 : n < 4294967296) (hs : s.size ≤ 4611686018427387904) :
    Calls Tryd.prog 12 #[.int .u32 n, .string s] w
      fun e w' => e = .returned (.int .u32 (sumN n (bL s))) ∧ Below w.heap.size w w' := by
  have hn := u32_not n h32
  have hend : bits .xor .u32 IntKind.u32.max ((runN (notN n) (bL s) : Nat) : Int) = ((sumN n (bL s) : Nat) : Int) := u32_not _ (runN_lt _ _ (notN_lt h32) (bL_lt s))
  go_enter Tryd.func12, Tryd.ntmps12
  go_wp2_with (first | (go_at_call 14; go_must (refine (halves_any _).mono ?_; rintro e w1 ⟨rfl, hb⟩)) | (refine wpList_store_row rfl 34 _ _ rfl w1.heap.size (halvesRow 16) rfl rfl 34 (halvesRow 0) (by rw [halvesRow_zero]; exact Bk.new _ _ _) (infoTab 16) (by rw [halvesRow_size, halvesRow_size]) (halvesRow_all 16) ?_))
  have hk : Bk ((w1.alloc (.cells (halvesRow 0) 34)).setRow w1.heap.size (halvesRow 16)) w1.heap.size 34 (halvesRow 16) := (Bk.new _ _ _).setRow (halvesRow 16)
  have hb2 : Below w.heap.size w ((w1.alloc (.cells (halvesRow 0) 34)).setRow w1.heap.size (halvesRow 16)) := below_row (hb.alloc hb.size _) hb.size (halvesRow 16)
  rw [halvesRow_zero] at hk hb2
  clear hn
  generalize ((w1.alloc (.cells #[.int .u32 0, .int .u32 0, .int .u32 0, .int .u32 0, .int .u32 0, .int .u32 0, .int .u32 0, .int .u32 0, .int .u32 0, .int .u32 0, .int .u32 0, .int .u32 0, .int .u32 0, .int .u32 0, .int .u32 0, .int .u32 0] 34)).setRow w1.heap.size (halvesRow 16)) = w2 at *
  go_loop [0, 6] (fun x c => ∃ i : Nat, i ≤ s.size ∧ c = .int .i64 i ∧ x = .int .u32 (runN (notN n) ((bL s).take i) : Nat)) (fun _ c => s.size - (intOf c).toNat)
  case atStart => exact ⟨0, Nat.zero_le _, rfl, rfl⟩
  case round =>
    obtain ⟨i, hi, rfl, rfl⟩ := hrel
    by_cases hlt : i < s.size
    · clear hend
      have hm := runN_lt _ _ (notN_lt h32) (bL_take_lt s i)
      have hstep : runN (notN n) ((bL s).take (i + 1)) = stepN (runN (notN n) ((bL s).take i)) (s[i]'hlt).toNat := by
        rw [bL_take s i hlt, runN_append]; rfl
      have hbt := (s[i]'hlt).toNat_lt
      rw [stepN_halves _ _ hbt] at hstep
      generalize runN (notN n) ((bL s).take i) = m at *
      generalize hbb : (s[i]'hlt).toNat = b at *
      have hx1 := xorN_byte m b hm hbt
      have hj1 : (m ^^^ b) % 16 < 16 := Nat.mod_lt _ (by omega)
      have hc1 := (hk.cell ((m ^^^ b) % 16)).trans (halvesRow_at 16 _ hj1)
      rw [if_pos hj1] at hc1
      have hh1 := half_step m ((m ^^^ b) % 16) hm
      have hl1 := half_lt m ((m ^^^ b) % 16) hm
      generalize hm2 : m / 16 ^^^ tab ((m ^^^ b) % 16) = m2 at *
      have hx2 : bits .xor .u32 (m2 : Int) ((b : Int) / 16) = ((m2 ^^^ b / 16 : Nat) : Int) := by
        rw [show (b : Int) / 16 = ((b / 16 : Nat) : Int) by omega]
        exact xorN_byte m2 (b / 16) hl1 (by omega)
      have hj2 : (m2 ^^^ b / 16) % 16 < 16 := Nat.mod_lt _ (by omega)
      have hc2 := (hk.cell ((m2 ^^^ b / 16) % 16)).trans (halvesRow_at 16 _ hj2)
      rw [if_pos hj2] at hc2
      have hh2 := half_step m2 ((m2 ^^^ b / 16) % 16) hl1
      have hstep' := Lib.hid hstep
      clear hstep hm2
      go_wp2
      go_round
      case rel => exact ⟨i + 1, by omega, by go_num, by rw [hstep'.out]⟩
      case measure => simp [intOf]; omega
    · obtain rfl : i = s.size := by omega
      have he : (bL s).take s.size = bL s := List.take_of_length_le (by rw [bL_length]; omega)
      rw [he]
      go_wp2
      go_ret
      exact ⟨rfl, hb2⟩

theorem rof_any (s : ByteArray) (w : World) (hs : s.size ≤ 4611686018427387904) :
    Calls Tryd.prog 10 #[.string s] w
      fun e w' => e = .returned (.int .u32 (sumN 0 (bL s))) ∧ Below w.heap.size w w' := by
  go_enter Tryd.func10, Tryd.ntmps10
  go_wp2_with (go_at_call 12; go_must (refine (rmore_any 0 s _ (by omega) hs).mono ?_; rintro e w' ⟨rfl, hb⟩))
  go_ret
  exact ⟨rfl, hb⟩

end Go.Proofs.YtmjfbhpbgppkfaaDoor
