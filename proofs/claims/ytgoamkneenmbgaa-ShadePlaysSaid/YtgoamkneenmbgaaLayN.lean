/-
  Numbers as bytes, and lists of numbers, on plain numbers. No conditions but those that stand there.
-/
import Derived.Test.YtgoamkneenmbgaaLayP
import Derived.Test.YtgoamkneenmbgaaByP
namespace Go.Proofs.Ytgoamkneenmbgaa
open Go.RowKit

theorem numsA_bad {s : ByteArray} {most : Int} {r : Rd} (h : (byteR s r).bad = true) : numsA s most r = byteR s r := by
  rw [numsA, if_pos (.inl h)]
  cases hb : byteR s r with
  | mk a b => rw [hb] at h; simp only at h; subst h; rfl

theorem numsA_much {s : ByteArray} {most : Int} {r : Rd} (h : most < (byteV s r : Int)) : numsA s most r = ⟨(byteR s r).at_, true⟩ := by
  rw [numsA, if_pos (.inr h)]

theorem numsA_fine {s : ByteArray} {most : Int} {r : Rd} (h : (byteR s r).bad = false) (h' : ¬ most < (byteV s r : Int)) : numsA s most r = byteR s r := by
  rw [numsA, if_neg (by rw [h]; simp [h'])]

theorem numsOf_length (s : ByteArray) (n : Nat) (r : Rd) : (numsOf s n r).length = n := by simp [numsOf]

def uOf (n : Int) : Nat := (n % 18446744073709551616).toNat

/-- the bytes of a number, the highest first. -/
def byteN (n : Int) (i : Nat) : Nat := uOf n / 2 ^ (8 * (7 - i)) % 256

def numB (n : Int) : List Nat := (List.range 8).map (byteN n)

theorem uOf_wrap (n : Int) : IntKind.u64.wrap n = ((uOf n : Nat) : Int) := by
  simp only [IntKind.wrap, IntKind.bits, IntKind.signed, uOf]
  simp
  omega

theorem byte_shift (n : Int) (i : Nat) : IntKind.u64.wrap n / 2 ^ (8 * (7 - i)) % 256 = ((byteN n i : Nat) : Int) := by
  rw [uOf_wrap, byteN]
  simp

theorem byteN_lt (n : Int) (i : Nat) : byteN n i < 256 := Nat.mod_lt _ (by decide)

theorem numB_length (n : Int) : (numB n).length = 8 := by simp [numB]

theorem numB_take (n : Int) (i : Nat) (h : i < 8) : (numB n).take (i + 1) = (numB n).take i ++ [byteN n i] := by
  rw [List.take_add_one]
  simp [numB, h]

/-- numbers' bytes, behind how many there are; of the first 255. -/
def numsB (l : List Int) : List Nat := min l.length 255 :: (l.take 255).flatMap numB

theorem flat_take (l : List Int) (i : Nat) (h : i < l.length) : (l.take (i + 1)).flatMap numB = (l.take i).flatMap numB ++ numB (l[i]?.getD 0) := by
  rw [List.take_add_one, List.flatMap_append, List.getElem?_eq_getElem h]
  simp

theorem byte_shift2 (n : Int) (i : Nat) (h : i < 8) : IntKind.u64.wrap n / 2 ^ (56 - 8 * i) % 256 = ((byteN n i : Nat) : Int) := by
  rw [← byte_shift, show 56 - 8 * i = 8 * (7 - i) by omega]

theorem strL_append (a b : List Nat) : strL a ++ strL b = strL (a ++ b) := by
  apply ByteArray.ext
  simp [strL]

theorem flat_length (l : List Int) : (l.flatMap numB).length = 8 * l.length := by
  induction l with
  | nil => rfl
  | cons x l ih => simp [numB_length] at ih ⊢; omega

end Go.Proofs.Ytgoamkneenmbgaa
