/-
  What check.four, More and Of answer, in whatever memory whose table holds its sixteen numbers: for numbers below 2^32 and strings that have at most 2^62 bytes.
-/
import Derived.Test.YtmjfbhpbgppkfaaDoorRows
import Derived.Test.YtmjfbhpbgppkfaaDoorCrc
import Derived.WalkKit
import Derived.WalkSpells
import Derived.WalkLawsBesides
import Derived.Lib.Hide
import Derived.Deep.QuietTactic
import Derived.BigQuiet
import Derived.WalkSmall
import Derived.Deep.DeepMust
namespace Go.Proofs.YtmjfbhpbgppkfaaDoor
open Go.RowKit

/-- the table's cells hold its numbers. -/
def HasTab (w : World) : Prop := 0 < w.heap.size ∧ ∀ i, i < 16 → w.cell? ⟨0, i, none⟩ = some (.int .u32 (tab i))

theorem HasTab.below {w w' : World} (h : HasTab w) (hb : Below w.heap.size w w') : HasTab w' :=
  ⟨Nat.lt_of_lt_of_le h.1 hb.size, fun i hi => (hb.cell (p := ⟨0, i, none⟩) h.1).trans (h.2 i hi)⟩

theorem and15 (n : Nat) (h : n < 4294967296) : bits .and .u32 (n : Int) 15 = ((n % 16 : Nat) : Int) := by
  have := u32_and_nat n 15 h (by omega)
  rw [show n &&& 15 = n % 16 from Nat.and_two_pow_sub_one_eq_mod n 4] at this
  exact this

theorem four_any (n : Nat) (w : World) (h : n < 4294967296) (hT : HasTab w) :
    Calls Tryd.prog 13 #[.int .u32 n] w
      fun e w' => e = .returned (.int .u32 (fourN n)) ∧ w = w' := by
  have ha := and15 n h
  have hm : n % 16 < 16 := Nat.mod_lt _ (by omega)
  have hc := hT.2 (n % 16) hm
  have hx : bits .xor .u32 ((n : Int) / 16) ((tab (n % 16) : Nat) : Int) = ((fourN n : Nat) : Int) := by
    rw [show ((n : Int) / 16) = ((n / 16 : Nat) : Int) by omega]
    exact u32_xor_nat _ _ (by omega) (tab_lt _)
  generalize hr : n % 16 = r at *
  clear hr hT
  go_enter Tryd.func13, Tryd.ntmps13
  go_wp2
  go_ret
  exact ⟨rfl, rfl⟩

/-- a string's bytes, as numbers. -/
def bL (s : ByteArray) : List Nat := s.data.toList.map (·.toNat)

theorem bL_length (s : ByteArray) : (bL s).length = s.size := by simp [bL]
theorem bL_lt (s : ByteArray) : ∀ b ∈ bL s, b < 256 := by
  intro b hb
  obtain ⟨x, _, rfl⟩ := List.mem_map.1 hb
  exact x.toNat_lt
theorem bL_get (s : ByteArray) (i : Nat) (h : i < s.size) : (bL s)[i]? = some (s[i]'h).toNat := by
  have : s.data.toList[i]? = some (s[i]'h) := by
    rw [Array.getElem?_toList]
    exact Array.getElem?_eq_getElem h
  simp [bL, this]
theorem bL_take (s : ByteArray) (i : Nat) (h : i < s.size) : (bL s).take (i + 1) = (bL s).take i ++ [(s[i]'h).toNat] := by
  rw [List.take_add_one, bL_get s i h]
  rfl
theorem bL_take_lt (s : ByteArray) (i : Nat) : ∀ b ∈ (bL s).take i, b < 256 := fun b hb => bL_lt s b (List.mem_of_mem_take hb)
theorem bL_append (s t : ByteArray) : bL (s ++ t) = bL s ++ bL t := by simp [bL]

theorem u32_not (n : Nat) (h : n < 4294967296) : bits .xor .u32 IntKind.u32.max (n : Int) = ((notN n : Nat) : Int) := u32_xor_nat 4294967295 n (by omega) h

theorem u32_xor_byte (m : Nat) (b : UInt8) (h : m < 4294967296) : bits .xor .u32 (m : Int) ((b.toNat : Int) % 4294967296) = ((m ^^^ b.toNat : Nat) : Int) := by
  have hb := b.toNat_lt
  rw [show ((b.toNat : Int) % 4294967296) = (b.toNat : Int) by omega]
  exact u32_xor_nat _ _ h (by omega)

theorem more_any (n : Nat) (s : ByteArray) (w : World) (h32 : n < 4294967296) (hT : HasTab w) (hs : s.size ≤ 4611686018427387904) :
    Calls Tryd.prog 11 #[.int .u32 n, .string s] w
      fun e w' => e = .returned (.int .u32 (sumN n (bL s))) ∧ w = w' := by
  have hn := u32_not n h32
  have hend : bits .xor .u32 IntKind.u32.max ((runN (notN n) (bL s) : Nat) : Int) = ((sumN n (bL s) : Nat) : Int) := u32_not _ (runN_lt _ _ (notN_lt h32) (bL_lt s))
  go_enter Tryd.func11, Tryd.ntmps11
  go_wp2
  clear hn
  go_loop [0, 10] (fun x c => ∃ i : Nat, i ≤ s.size ∧ c = .int .i64 i ∧ x = .int .u32 (runN (notN n) ((bL s).take i) : Nat)) (fun _ c => s.size - (intOf c).toNat)
  case atStart => exact ⟨0, Nat.zero_le _, rfl, rfl⟩
  case round =>
    obtain ⟨i, hi, rfl, rfl⟩ := hrel
    by_cases hlt : i < s.size
    · have hlt1 : runN (notN n) ((bL s).take i) < 4294967296 := runN_lt _ _ (notN_lt h32) (bL_take_lt s i)
      have hx := u32_xor_byte _ (s[i]'hlt) hlt1
      have hlt2 : runN (notN n) ((bL s).take i) ^^^ (s[i]'hlt).toNat < 4294967296 := Nat.xor_lt_two_pow (n := 32) hlt1 (by have := (s[i]'hlt).toNat_lt; omega)
      have hlt3 := fourN_lt hlt2
      have hstep : runN (notN n) ((bL s).take (i + 1)) = fourN (fourN (runN (notN n) ((bL s).take i) ^^^ (s[i]'hlt).toNat)) := by
        rw [bL_take s i hlt, runN_append]; rfl
      have hstep' := Lib.hid hstep
      clear hstep hend
      go_wp2_with (go_at_call 13; go_must (refine (four_any _ _ (by assumption) hT).mono ?_; rintro e w' ⟨rfl, rfl⟩))
      go_round
      case rel => exact ⟨i + 1, by omega, by go_num, by rw [hstep'.out]⟩
      case measure => simp [intOf]; omega
    · obtain rfl : i = s.size := by omega
      have he : (bL s).take s.size = bL s := List.take_of_length_le (by rw [bL_length]; omega)
      rw [he]
      go_wp2
      go_ret
      exact ⟨rfl, rfl⟩

theorem of_any (s : ByteArray) (w : World) (hT : HasTab w) (hs : s.size ≤ 4611686018427387904) :
    Calls Tryd.prog 9 #[.string s] w
      fun e w' => e = .returned (.int .u32 (sumN 0 (bL s))) ∧ w = w' := by
  go_enter Tryd.func9, Tryd.ntmps9
  go_wp2_with (go_at_call 11; go_must (refine (more_any 0 s _ (by omega) hT hs).mono ?_; rintro e w' ⟨rfl, rfl⟩))
  go_ret
  exact ⟨rfl, rfl⟩

end Go.Proofs.YtmjfbhpbgppkfaaDoor
