/-
  What the small functions of layer 1 (has, deed, Arm, Clip) answer, for every device value in memory: no condition but that Left is a 64 bit number.
-/
import Derived.Test.YthcfncpkeldapaaRows
import Derived.WalkKit
import Derived.WalkSpells
import Derived.WalkLawsBesides
import Derived.Lib.Hide
namespace Go.Proofs.Ythcfncpkeldapaa
open Go.RowKit

/-- has: there is such a sector. -/
theorem has_yes (A B : Option Addr) (n c m d : Nat) (dn : Bool) (lf at_ : Int) (w : World) (h0 : 0 ≤ at_) (h1 : at_ < (n : Int)) :
    Calls Try.prog 30 #[.agg #[.slice A n c, .slice B m d, .bool dn, .int .i64 lf], .int .i64 at_] w
      fun e w' => e = .returned (.bool true) ∧ Below w.heap.size w w' := by
  go_enter Try.func30, Try.ntmps30
  go_wp2
  go_ret
  exact ⟨by simp, (Below.refl _ _).alloc (Nat.le_refl _) _⟩

theorem has_no (A B : Option Addr) (n c m d : Nat) (dn : Bool) (lf at_ : Int) (w : World) (h : at_ < 0 ∨ (n : Int) ≤ at_) :
    Calls Try.prog 30 #[.agg #[.slice A n c, .slice B m d, .bool dn, .int .i64 lf], .int .i64 at_] w
      fun e w' => e = .returned (.bool false) ∧ Below w.heap.size w w' := by
  by_cases h0 : 0 ≤ at_
  · have h1 : (n : Int) ≤ at_ := by omega
    clear h
    go_enter Try.func30, Try.ntmps30
    go_wp2
    go_ret
    exact ⟨by simp [h1], (Below.refl _ _).alloc (Nat.le_refl _) _⟩
  · clear h
    go_enter Try.func30, Try.ntmps30
    go_wp2
    go_ret
    exact ⟨rfl, (Below.refl _ _).alloc (Nat.le_refl _) _⟩

set_option maxHeartbeats 400000 in
theorem deed_no (A B : Option Addr) (n c m d : Nat) (dn : Bool) (lf : Int) (w : World) (h : dn = true ∨ lf = 0) :
    Calls Try.prog 31 #[.agg #[.slice A n c, .slice B m d, .bool dn, .int .i64 lf]] w
      fun e w' => e = .returned (.tuple #[.agg #[.slice A n c, .slice B m d, .bool true, .int .i64 lf], .int .i64 17]) ∧ Below w.heap.size w w' := by
  by_cases h0 : lf = 0
  · subst h0
    clear h
    go_enter Try.func31, Try.ntmps31
    go_wp2
    exact bodyPost_ret (v := .tuple #[.agg #[.slice A n c, .slice B m d, .bool true, .int .i64 0], .int .i64 17]) (by simp [results, Try.results31, go_sem]) rfl ⟨rfl, ((Below.refl _ _).alloc (Nat.le_refl _) _).alloc (by simp) _⟩
  · have hd : dn = true := by rcases h with h | h <;> simp_all
    subst hd
    have hb : (lf == 0) = false := by simp [h0]
    clear h h0
    go_enter Try.func31, Try.ntmps31
    go_wp2
    exact bodyPost_ret (v := .tuple #[.agg #[.slice A n c, .slice B m d, .bool true, .int .i64 lf], .int .i64 17]) (by simp [results, Try.results31, go_sem]) rfl ⟨rfl, ((Below.refl _ _).alloc (Nat.le_refl _) _).alloc (by simp) _⟩

/-- what a device does yet, behind a deed. -/
def leftD (l : Int) : Int := if 0 < l then l - 1 else l

set_option maxHeartbeats 400000 in
theorem deed_yes (A B : Option Addr) (n c m d : Nat) (lf : Int) (w : World) (h : lf ≠ 0) (hu : lf ≤ 9223372036854775807) :
    Calls Try.prog 31 #[.agg #[.slice A n c, .slice B m d, .bool false, .int .i64 lf]] w
      fun e w' => e = .returned (.tuple #[.agg #[.slice A n c, .slice B m d, .bool false, .int .i64 (leftD lf)], .int .i64 0]) ∧ Below w.heap.size w w' := by
  have hb : (lf == 0) = false := by simp [h]
  clear h
  by_cases hp : 0 < lf
  · rw [leftD, if_pos hp]
    go_enter Try.func31, Try.ntmps31
    go_wp2
    exact bodyPost_ret (v := .tuple #[.agg #[.slice A n c, .slice B m d, .bool false, .int .i64 (lf - 1)], .int .i64 0]) (by simp [results, Try.results31, go_sem]) rfl ⟨rfl, ((Below.refl _ _).alloc (Nat.le_refl _) _).alloc (by simp) _⟩
  · rw [leftD, if_neg hp]
    go_enter Try.func31, Try.ntmps31
    go_wp2
    exact bodyPost_ret (v := .tuple #[.agg #[.slice A n c, .slice B m d, .bool false, .int .i64 lf], .int .i64 0]) (by simp [results, Try.results31, go_sem]) rfl ⟨rfl, ((Below.refl _ _).alloc (Nat.le_refl _) _).alloc (by simp) _⟩

set_option maxHeartbeats 400000 in
theorem arm_any (A B : Option Addr) (n c m d : Nat) (dn : Bool) (lf k : Int) (w : World) :
    Calls Try.prog 19 #[.agg #[.slice A n c, .slice B m d, .bool dn, .int .i64 lf], .int .i64 k] w
      fun e w' => e = .returned (.agg #[.slice A n c, .slice B m d, .bool dn, .int .i64 (if k < -1 then -1 else k)]) ∧ Below w.heap.size w w' := by
  by_cases hk : k < -1
  · rw [if_pos hk]
    go_enter Try.func19, Try.ntmps19
    go_wp2
    exact bodyPost_ret (v := .agg #[.slice A n c, .slice B m d, .bool dn, .int .i64 (-1)]) (by simp [results, Try.results19, go_sem]) rfl ⟨rfl, ((Below.refl _ _).alloc (Nat.le_refl _) _).alloc (by simp) _⟩
  · rw [if_neg hk]
    go_enter Try.func19, Try.ntmps19
    go_wp2
    exact bodyPost_ret (v := .agg #[.slice A n c, .slice B m d, .bool dn, .int .i64 k]) (by simp [results, Try.results19, go_sem]) rfl ⟨rfl, ((Below.refl _ _).alloc (Nat.le_refl _) _).alloc (by simp) _⟩

theorem clip_any (B : Option Addr) (m d : Nat) (w : World) (hm : m ≤ d) :
    Calls Try.prog 32 #[.slice B m d] w
      fun e w' => e = .returned (.slice B m m) ∧ w = w' := by
  go_enter Try.func32, Try.ntmps32
  go_wp2
  go_ret
  exact ⟨rfl, rfl⟩

end Go.Proofs.Ythcfncpkeldapaa
