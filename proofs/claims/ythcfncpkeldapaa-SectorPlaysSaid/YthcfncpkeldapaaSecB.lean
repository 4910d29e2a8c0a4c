/-
  What padded, full, torn and stays answer: for strings of at most 128 bytes (padded, full), of at most 2^40 bytes (torn), and a list of at most 2^40 (stays).
-/
import Derived.Test.YthcfncpkeldapaaRows
import Derived.Test.YthcfncpkeldapaaShelf
import Derived.WalkKit
import Derived.WalkSpells
import Derived.WalkLawsBesides
import Derived.Lib.Hide
import Derived.Deep.QuietTactic
import Derived.BigQuiet
import Derived.WalkSmall
namespace Go.Proofs.Ythcfncpkeldapaa
open Go.RowKit

/-- a sector's bytes: these, and noughts. -/
def padB (s : ByteArray) : ByteArray := s ++ ⟨Array.replicate (128 - s.size) 0⟩

theorem padB_size (s : ByteArray) (h : s.size ≤ 128) : (padB s).size = 128 := by
  have : (⟨Array.replicate (128 - s.size) 0⟩ : ByteArray).size = 128 - s.size := by
    show (Array.replicate (128 - s.size) (0 : UInt8)).size = _
    simp
  rw [padB, ByteArray.size_append, this]
  omega

theorem rep0 (x : Int) (w : World) (h0 : 0 ≤ x) (h1 : x ≤ 128) :
    Calls Try.prog 37 #[.string ⟨#[0]⟩, .int .i64 x] w fun e w' => e = .returned (.string ⟨(List.replicate x.toNat 0).toArray⟩) ∧ Below w.heap.size w w' := by
  obtain ⟨k, rfl⟩ := Int.eq_ofNat_of_zero_le h0
  refine (Try.strings_Repeat ⟨#[0]⟩ k w (by omega) (by show 1 * k ≤ _; omega)).mono fun e w' ⟨he, hw⟩ => ⟨?_, hw⟩
  rw [he]
  have := Lib.repeatL_replicate 0 1 k
  simp at this
  simp [this]

set_option maxHeartbeats 400000 in
theorem padded_any (s : ByteArray) (w : World) (h : s.size ≤ 128) :
    Calls Try.prog 29 #[.string s] w fun e w' => e = .returned (.string (padB s)) ∧ Below w.heap.size w w' := by
  go_enter Try.func29, Try.ntmps29
  go_wp2_with (go_at_call 37; refine (rep0 _ _ (by omega) (by omega)).mono ?_; rintro e w' ⟨rfl, hb⟩)
  go_ret
  exact ⟨rfl, hb⟩

theorem zeros_string (k : Nat) : (List.replicate k (0 : Int)).foldl (fun r n => r.push (UInt8.ofNat n.toNat)) ByteArray.empty = ⟨Array.replicate k 0⟩ := by
  induction k with
  | zero => rfl
  | succ k ih =>
    rw [List.replicate_succ', List.foldl_append, ih]
    apply ByteArray.ext
    simp [Array.replicate_succ]

theorem Try.info8 : (Try.prog.info? 5).map (fun i => (i.zero, i.size, i.bytes)) = some (some (.int .u8 0), 1, 1) := by kernel_rfl

theorem made_one (z : Value) (k j : Nat) (h : j < k) : (madeCells #[z] (k * 1)).toList[j]? = some z := by
  rw [toList_madeCells_one, List.getElem?_replicate, if_pos (by omega)]

theorem conv_zeros (g k c : Nat) (w : World) (h : ∀ j, j < k → w.cell? ⟨g, j, none⟩ = some (.int .u8 0)) :
    (convert 55 9 (.slice (some ⟨g, 0, none⟩) k c)).run Try.prog w = .ok (.string ⟨Array.replicate k 0⟩) w := by
  rw [run_convert_bytes_string w 55 9 5 _ _ _ Try.underlying55 Try.underlying5 Try.underlying9]
  rw [run_bytesToString w ⟨g, 0, none⟩ k c (List.replicate k 0) ?_, zeros_string]
  have hl := run_loadCells_list (P := Try.prog) w ⟨g, 0, none⟩ (List.replicate k (Value.int .u8 0)) (fun j v hv => by
    rw [List.getElem?_replicate] at hv
    split at hv
    · simp at hv; subst hv; simpa [Addr.add_lit] using h j ‹_›
    · simp at hv)
  simpa using hl

set_option maxHeartbeats 400000 in
theorem full_any (s : ByteArray) (w : World) (h : s.size ≤ 128) :
    Calls Try.prog 28 #[.string s] w fun e w' => e = .returned (.string (padB s)) ∧ Below w.heap.size w w' := by
  obtain ⟨i0, hi, hz0, hz1, hz2⟩ := info_parts Try.info8
  go_enter Try.func28, Try.ntmps28
  go_wp2_with (at_make; go_must (refine wpList_make_full _ rfl (.tmp 6) (.tmp 6) _ rfl w.heap.size 5 i0 _ 1 Try.underlying55 hi hz0 hz1 _ _ _ _ (128 - s.size) rfl rfl (by omega) (by omega) (by rw [hz2]; omega) (by unfold maxLen; omega) (Nat.le_refl _) ?_; intro w1 hown hg; have hcv := conv_zeros w.heap.size (128 - s.size) (128 - s.size) w1 (fun j hj => (hown.cellAt j (by omega)).trans (made_one _ _ _ hj))))
  go_ret
  exact ⟨rfl, (Below.refl _ _).grown hg (Nat.le_refl _) (by simp)⟩

theorem ret_str {a b : ByteArray} (h : a = b) : Ending.returned (.string a) = .returned (.string b) := by rw [h]

/-- how many bytes are new. -/
def cutN (n : Int) : Nat := if n ≤ 0 then 0 else if 128 ≤ n then 128 else n.toNat

theorem cutN_le (n : Int) : cutN n ≤ 128 := by unfold cutN; split <;> (try split) <;> omega

/-- a sector of which the first bytes alone are new. -/
def tornB (old data : ByteArray) (n : Int) : ByteArray := data.extract 0 (cutN n) ++ old.extract (cutN n) 128

set_option maxHeartbeats 400000 in
theorem torn_any (old data : ByteArray) (n : Int) (w : World) (ho : old.size = 128) (hd : data.size = 128) :
    Calls Try.prog 35 #[.string old, .string data, .int .i64 n] w
      fun e w' => e = .returned (.string (tornB old data n)) ∧ ∃ k, w' = w.drewN k := by
  have ho1 : old.size ≤ 128 := by omega
  have ho2 : 128 ≤ old.size := by omega
  have hd1 : data.size ≤ 128 := by omega
  have hd2 : 128 ≤ data.size := by omega
  have ho' := Lib.hid ho
  have hd' := Lib.hid hd
  clear ho hd
  rcases Int.lt_or_le 0 n with h | h
  · rcases Int.lt_or_le 128 n with h1 | h1
    · have hcut : Hid (cutN n = 128) := by unfold Hid cutN; rw [if_neg (by omega), if_pos (by omega)]
      have hm1 : (128 : Int) < max n 0 := by omega
      go_enter Try.func35, Try.ntmps35
      go_wp2
      go_quiet (fail)
      go_wp2
      go_ret
      refine ⟨ret_str ?_, _, rfl⟩
      rw [tornB, hcut.out, ho'.out]
      rfl
    · obtain ⟨k, rfl⟩ := Int.eq_ofNat_of_zero_le (Int.le_of_lt h)
      have hcut : Hid (cutN (k : Int) = k) := by unfold Hid cutN; rw [if_neg (by omega)]; split <;> omega
      have hk1 : k ≤ 128 := by omega
      go_enter Try.func35, Try.ntmps35
      go_wp2
      go_quiet (fail)
      go_wp2
      go_ret
      refine ⟨ret_str ?_, _, rfl⟩
      rw [tornB, hcut.out, ho'.out]
      congr 2
      omega
  · have hcut : Hid (cutN n = 0) := by unfold Hid cutN; rw [if_pos (by omega)]
    have hm1 : max n 0 ≤ 0 := by omega
    go_enter Try.func35, Try.ntmps35
    go_wp2
    go_quiet (fail)
    go_wp2
    go_ret
    refine ⟨ret_str ?_, _, rfl⟩
    rw [tornB, hcut.out, ho'.out, show (max n 0).toNat = 0 from by omega, show (min (max n 0) ((128 : Nat) : Int)).toNat = 0 from by omega]

set_option maxHeartbeats 400000 in
theorem stays_none (A : Option Addr) (c : Nat) (t b i : Int) (w : World) :
    Calls Try.prog 36 #[.agg #[.slice A 0 c, .int .i64 t, .int .i64 b], .int .i64 i] w
      fun e w' => e = .returned (.bool false) ∧ Below w.heap.size w w' := by
  go_enter Try.func36, Try.ntmps36
  go_wp2
  go_quiet (fail)
  go_wp2
  go_ret
  exact ⟨rfl, below_drewN ((Below.refl _ _).alloc (Nat.le_refl _) _) _⟩

set_option maxHeartbeats 400000 in
theorem stays_some (g off n c : Nat) (t b : Int) (i : Nat) (v : Bool) (w : World) (hg : g < w.heap.size) (hn : 0 < n) (hn' : n ≤ 1000000) (hi : i ≤ 1000000)
    (hc : w.cell? ⟨g, off + i % n, none⟩ = some (.bool v)) :
    Calls Try.prog 36 #[.agg #[.slice (some ⟨g, off, none⟩) n c, .int .i64 t, .int .i64 b], .int .i64 i] w
      fun e w' => e = .returned (.bool v) ∧ Below w.heap.size w w' := by
  obtain ⟨r, hr⟩ : ∃ r, i % n = r := ⟨_, rfl⟩
  have hrn : r < n := hr ▸ Nat.mod_lt _ hn
  have hmod : IntKind.i64.wrap ((i : Int).tmod (n : Int)) = (r : Int) := by
    rw [IntWalk.i64_in _ (by rw [Int.tmod_eq_emod_of_nonneg (by omega)]; omega)]
    rw [Int.tmod_eq_emod_of_nonneg (by omega), ← hr]; simp
  rw [hr] at hc
  have hmod2 : (i : Int) % (n : Int) = (r : Int) := by rw [← hr]; simp
  clear hr
  have hdc : decide (0 < n) = true := by simp [hn]
  go_enter Try.func36, Try.ntmps36
  go_wp2
  go_quiet (fail)
  go_wp2
  go_ret
  exact ⟨rfl, below_drewN ((Below.refl _ _).alloc (Nat.le_refl _) _) _⟩

end Go.Proofs.Ythcfncpkeldapaa
