/-
  What Byte and Done of lay.From, and of the reference's, answer, in whatever memory: for strings that have at most 2^62 bytes, and whatever place.
-/
import Derived.Test.YtenjjepjmcijhaaLayP
import Derived.Test.YtenjjepjmcijhaaBut
import Derived.WalkKit
import Derived.WalkSpells
import Derived.WalkLawsBesides
import Derived.Lib.Hide
import Derived.Deep.QuietTactic
import Derived.BigQuiet
import Derived.WalkSmall
import Derived.Deep.DeepMust
import Derived.IntWalk
namespace Go.Proofs.Ytenjjepjmcijhaa
open Go.RowKit

/-- a reader in memory. -/
def frV (s : ByteArray) (r : Rd) : Array Value := #[.string s, .int .i64 r.at_, .bool r.bad]

theorem Bk.frs {w : World} {g : Nat} {t : TypeId} {s : ByteArray} {r : Rd} (h : Bk w g t (frV s r)) :
    w.cell? ⟨g, 0, none⟩ = some (.string s) ∧ w.cell? ⟨g, 1, none⟩ = some (.int .i64 r.at_) ∧ w.cell? ⟨g, 2, none⟩ = some (.bool r.bad) ∧ ∀ o, w.frozen? ⟨g, o, none⟩ = false :=
  ⟨h.cell 0, h.cell 1, h.cell 2, fun o => h.frozen o⟩

theorem Bk.bad {w : World} {g : Nat} {t : TypeId} {s : ByteArray} {r : Rd} (h : Bk w g t (frV s r)) (b : Bool) : Bk (w.setCell ⟨g, 2, none⟩ (.bool b)) g t (frV s ⟨r.at_, b⟩) := by
  have := h.set 2 (.bool b)
  simpa [frV] using this
theorem Bk.goes {w : World} {g : Nat} {t : TypeId} {s : ByteArray} {r : Rd} (h : Bk w g t (frV s r)) (n : Int) : Bk (w.setCell ⟨g, 1, none⟩ (.int .i64 n)) g t (frV s ⟨n, r.bad⟩) := by
  have := h.set 1 (.int .i64 n)
  simpa [frV] using this

theorem belowDrewN (w : World) (n : Nat) : Below w.heap.size w (w.drewN n) := ⟨rfl, rfl, rfl, Nat.le_refl _, fun _ _ => rfl⟩

set_option maxHeartbeats 1000000 in
theorem byte_any (s : ByteArray) (r : Rd) (g : Nat) (w : World) (hk : Bk w g 28 (frV s r)) (hs : s.size ≤ 4611686018427387904) :
    Calls Try.prog 26 #[.pointer (some ⟨g, 0, none⟩)] w
      fun e w' => e = .returned (.int .i64 (byteV s r : Nat)) ∧ Bk w' g 28 (frV s (byteR s r)) ∧ But g w w' := by
  obtain ⟨a, b⟩ := r
  obtain ⟨c0, c1, c2, hf⟩ := hk.frs
  have hk' := Lib.hid hk
  simp only at c1 c2
  clear hk
  cases b with
  | true =>
    rw [byteV_no (ok_bad s a), byteR_no (ok_bad s a)]
    go_enter Try.func26, Try.ntmps26
    go_wp2
    go_quiet (fail)
    go_wp2
    go_ret
    exact ⟨rfl, (hk'.out.below (belowDrewN w _)).bad true, (But.of_below (belowDrewN w _)).trans (But.set _ _ _)⟩
  | false =>
    by_cases h0 : 0 ≤ a
    · by_cases h1 : a < (s.size : Int)
      · obtain ⟨i, rfl⟩ := Int.eq_ofNat_of_zero_le h0
        have hi : i < s.size := by omega
        have hb := (s[i]'hi).toNat_lt
        have d0 : decide ((i : Int) < 0) = false := by simp
        have d1 : decide ((s.size : Int) ≤ (i : Int)) = false := by simp; omega
        have d2 : decide (s.size ≤ i) = false := by simp; omega
        rw [byteV_of hi, byteR_of hi]
        go_enter Try.func26, Try.ntmps26
        go_wp2
        go_quiet (fail)
        go_wp2
        go_quiet (fail)
        go_wp2
        go_ret
        exact ⟨rfl, (hk'.out.below (belowDrewN w _)).goes _, (But.of_below (belowDrewN w _)).trans (But.set _ _ _)⟩
      · have d0 : decide (a < 0) = false := by simp; omega
        have d1 : decide ((s.size : Int) ≤ a) = true := by simp; omega
        rw [byteV_no (ok_far s a h1), byteR_no (ok_far s a h1)]
        go_enter Try.func26, Try.ntmps26
        go_wp2
        go_quiet (fail)
        go_wp2
        go_ret
        exact ⟨rfl, (hk'.out.below (belowDrewN w _)).bad true, (But.of_below (belowDrewN w _)).trans (But.set _ _ _)⟩
    · have d0 : decide (a < 0) = true := by simp; omega
      rw [byteV_no (ok_neg s a h0), byteR_no (ok_neg s a h0)]
      go_enter Try.func26, Try.ntmps26
      go_wp2
      go_quiet (fail)
      go_wp2
      go_ret
      exact ⟨rfl, (hk'.out.below (belowDrewN w _)).bad true, (But.of_below (belowDrewN w _)).trans (But.set _ _ _)⟩

set_option maxHeartbeats 1000000 in
theorem rbyte_any (s : ByteArray) (r : Rd) (g : Nat) (w : World) (hk : Bk w g 30 (frV s r)) (hs : s.size ≤ 4611686018427387904) :
    Calls Try.prog 27 #[.pointer (some ⟨g, 0, none⟩)] w
      fun e w' => e = .returned (.int .i64 (byteV s r : Nat)) ∧ Bk w' g 30 (frV s (byteR s r)) ∧ But g w w' := by
  obtain ⟨a, b⟩ := r
  obtain ⟨c0, c1, c2, hf⟩ := hk.frs
  have hk' := Lib.hid hk
  simp only at c1 c2
  clear hk
  cases b with
  | true =>
    rw [byteV_no (ok_bad s a), byteR_no (ok_bad s a)]
    go_enter Try.func27, Try.ntmps27
    go_wp2
    go_quiet (fail)
    go_wp2
    go_ret
    exact ⟨rfl, (hk'.out.below (belowDrewN w _)).bad true, (But.of_below (belowDrewN w _)).trans (But.set _ _ _)⟩
  | false =>
    by_cases h0 : 0 ≤ a
    · by_cases h1 : a < (s.size : Int)
      · obtain ⟨i, rfl⟩ := Int.eq_ofNat_of_zero_le h0
        have hi : i < s.size := by omega
        have hb := (s[i]'hi).toNat_lt
        have d0 : decide ((i : Int) < 0) = false := by simp
        have d1 : decide ((s.size : Int) ≤ (i : Int)) = false := by simp; omega
        have d2 : decide (s.size ≤ i) = false := by simp; omega
        rw [byteV_of hi, byteR_of hi]
        go_enter Try.func27, Try.ntmps27
        go_wp2
        go_quiet (fail)
        go_wp2
        go_quiet (fail)
        go_wp2
        go_ret
        exact ⟨rfl, ((hk'.out.below (belowDrewN w _)).goes _).below (belowDrewN _ _), ((But.of_below (belowDrewN w _)).trans (But.set _ _ _)).trans (But.of_below (belowDrewN _ _))⟩
      · have d0 : decide (a < 0) = false := by simp; omega
        have d1 : decide ((s.size : Int) ≤ a) = true := by simp; omega
        rw [byteV_no (ok_far s a h1), byteR_no (ok_far s a h1)]
        go_enter Try.func27, Try.ntmps27
        go_wp2
        go_quiet (fail)
        go_wp2
        go_ret
        exact ⟨rfl, (hk'.out.below (belowDrewN w _)).bad true, (But.of_below (belowDrewN w _)).trans (But.set _ _ _)⟩
    · have d0 : decide (a < 0) = true := by simp; omega
      rw [byteV_no (ok_neg s a h0), byteR_no (ok_neg s a h0)]
      go_enter Try.func27, Try.ntmps27
      go_wp2
      go_quiet (fail)
      go_wp2
      go_ret
      exact ⟨rfl, (hk'.out.below (belowDrewN w _)).bad true, (But.of_below (belowDrewN w _)).trans (But.set _ _ _)⟩

theorem Bk.newF (w : World) (t : TypeId) (s : ByteArray) : Bk (w.alloc (.cells #[.string s, .int .i64 0, .bool false] t)) w.heap.size t (frV s ⟨0, false⟩) := Bk.new w t (frV s ⟨0, false⟩)

end Go.Proofs.Ytenjjepjmcijhaa
