/-
  Numbers as bytes, and a reader, on plain numbers: what is read of bytes, step by step. No conditions.
-/
import Derived.Test.YtgoamkneenmbgaaStr
import Derived.IntWalk
namespace Go.Proofs.Ytgoamkneenmbgaa

/-- a reader's place, and whether it went wrong. -/
structure Rd where
  at_ : Int
  bad : Bool

/-- is there a next byte? -/
def Rd.ok (s : ByteArray) (r : Rd) : Bool := !r.bad && decide (0 ≤ r.at_) && decide (r.at_ < s.size)

def byteV (s : ByteArray) (r : Rd) : Nat := if r.ok s = true then (bL s)[r.at_.toNat]?.getD 0 else 0
def byteR (s : ByteArray) (r : Rd) : Rd := if r.ok s = true then ⟨r.at_ + 1, false⟩ else ⟨r.at_, true⟩

theorem getD_bL_lt (s : ByteArray) (j : Nat) : (bL s)[j]?.getD 0 < 256 := by
  rcases Nat.lt_or_ge j s.size with hj | hj
  · rw [bL_get s j hj]; exact UInt8.toNat_lt _
  · rw [List.getElem?_eq_none (by rw [bL_length]; exact hj)]; decide

theorem byteV_lt (s : ByteArray) (r : Rd) : byteV s r < 256 := by
  unfold byteV
  split
  · exact getD_bL_lt s _
  · decide

/-- so many bytes: where it is then. -/
def itR (s : ByteArray) : Nat → Rd → Rd
  | 0, r => r
  | k + 1, r => byteR s (itR s k r)

/-- so many bytes: the number so far. -/
def itU (s : ByteArray) : Nat → Rd → Nat
  | 0, _ => 0
  | k + 1, r => itU s k r * 256 % 18446744073709551616 + byteV s (itR s k r)

/-- a number below 2^64 as an int. -/
def sgn (u : Nat) : Int := RowKit.wrap64 (u : Int)

def numR (s : ByteArray) (r : Rd) : Rd := itR s 8 r
def numV (s : ByteArray) (r : Rd) : Int := if (numR s r).bad = true then 0 else sgn (itU s 8 r)

/-- so many numbers. -/
def itN (s : ByteArray) : Nat → Rd → Rd
  | 0, r => r
  | k + 1, r => numR s (itN s k r)
def numsOf (s : ByteArray) (n : Nat) (r : Rd) : List Int := (List.range n).map fun i => numV s (itN s i r)

/-- behind a list's count. -/
def numsA (s : ByteArray) (most : Int) (r : Rd) : Rd := if (byteR s r).bad = true ∨ most < (byteV s r : Int) then ⟨(byteR s r).at_, true⟩ else byteR s r
def numsR (s : ByteArray) (most : Int) (r : Rd) : Rd := itN s (byteV s r) (numsA s most r)
def numsL (s : ByteArray) (most : Int) (r : Rd) : List Int := if (numsR s most r).bad = true then [] else numsOf s (byteV s r) (numsA s most r)

def doneV (s : ByteArray) (r : Rd) : Bool := !r.bad && decide (r.at_ = s.size)

theorem itU_lt (s : ByteArray) : ∀ (k : Nat) (r : Rd), itU s k r < 18446744073709551616
  | 0, _ => by simp [itU]
  | k + 1, r => by
    have h := byteV_lt s (itR s k r)
    rw [itU]
    omega

/-- once wrong, always. -/
theorem byteR_bad {s : ByteArray} {r : Rd} (h : r.bad = true) : byteR s r = r := by
  cases r with
  | mk a b => simp only at h; subst h; simp [byteR, Rd.ok]
theorem itR_bad {s : ByteArray} {r : Rd} (h : r.bad = true) : ∀ k, itR s k r = r
  | 0 => rfl
  | k + 1 => by rw [itR, itR_bad h k, byteR_bad h]
theorem itN_bad {s : ByteArray} {r : Rd} (h : r.bad = true) : ∀ k, itN s k r = r
  | 0 => rfl
  | k + 1 => by rw [itN, itN_bad h k, numR, itR_bad h]
theorem itN_add (s : ByteArray) (r : Rd) (j : Nat) : ∀ k, itN s (j + k) r = itN s k (itN s j r)
  | 0 => rfl
  | k + 1 => by rw [← Nat.add_assoc, itN, itN, itN_add s r j k]
theorem itN_stays {s : ByteArray} {r : Rd} {j n : Nat} (h : (itN s j r).bad = true) (hj : j ≤ n) : itN s n r = itN s j r := by
  obtain ⟨k, rfl⟩ := Nat.exists_eq_add_of_le hj
  rw [itN_add, itN_bad h]

theorem byteV_of {s : ByteArray} {i : Nat} (h : i < s.size) : byteV s ⟨(i : Int), false⟩ = (s[i]'h).toNat := by
  have h' : (i : Int) < (s.size : Int) := by omega
  simp [byteV, Rd.ok, h', bL_get s i h]
theorem byteR_of {s : ByteArray} {i : Nat} (h : i < s.size) : byteR s ⟨(i : Int), false⟩ = ⟨(i : Int) + 1, false⟩ := by
  have h' : (i : Int) < (s.size : Int) := by omega
  simp [byteR, Rd.ok, h']

theorem byteV_no {s : ByteArray} {r : Rd} (h : r.ok s = false) : byteV s r = 0 := by simp [byteV, h]
theorem byteR_no {s : ByteArray} {r : Rd} (h : r.ok s = false) : byteR s r = ⟨r.at_, true⟩ := by simp [byteR, h]
theorem ok_bad (s : ByteArray) (a : Int) : Rd.ok s ⟨a, true⟩ = false := by simp [Rd.ok]
theorem ok_neg (s : ByteArray) (a : Int) (h : ¬ 0 ≤ a) : Rd.ok s ⟨a, false⟩ = false := by simp [Rd.ok, h]
theorem ok_far (s : ByteArray) (a : Int) (h : ¬ a < (s.size : Int)) : Rd.ok s ⟨a, false⟩ = false := by simp [Rd.ok, h]

end Go.Proofs.Ytgoamkneenmbgaa
