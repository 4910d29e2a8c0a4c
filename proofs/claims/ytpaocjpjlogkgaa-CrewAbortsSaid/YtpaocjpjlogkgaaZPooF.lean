/-
  What foremanref16.Find, Of and Fuel answer, in whatever memory. No conditions but those that stand there.
-/
import Derived.Test.YtpaocjpjlogkgaaQWords
import Derived.Test.YtpaocjpjlogkgaaQQueP
import Derived.OwnWalk
namespace Go.Proofs.Ytpaocjpjlogkgaa
open Go.RowKit
set_option maxRecDepth 100000

def seqT (s : Int) (t : TkL) : Bool := decide (t.s = s)
def wkT (k : Int) (t : TkL) : Bool := decide (0 ≤ k ∧ t.wk = k)
theorem none_next {l : List TkL} {p : TkL → Bool} {i : Nat} {x : TkL} (h : ∀ j y, j < i → l[j]? = some y → p y = false) (hx : l[i]? = some x) (hp : p x = false) : ∀ j y, j < i + 1 → l[j]? = some y → p y = false := fun j y hj hy => by
  by_cases he : j = i
  · subst he
    rw [hx] at hy
    injection hy with hy
    rw [← hy]
    exact hp
  · exact h j y (by omega) hy

section
variable (l : List TkL) (A : Option Addr) (n c : Nat)

set_option maxHeartbeats 4000000 in
theorem rof16_any (k : Int) (w : World) (h : Tks w A c l) (hN : l.length = n) (hz : n ≤ 100000) :
    Calls Try.prog 22 #[.slice A n c, .int .i64 k] w fun e w' => e = .returned (.int .i64 (idxP (wkT k) l)) ∧ w = w' := by
  have H := Lib.hid h
  have HN := Lib.hid hN
  have hnc : n ≤ c := by have := h.cap; omega
  obtain ⟨r, hr⟩ : ∃ r, r = idxP (wkT k) l := ⟨_, rfl⟩
  rw [← hr]
  have R := Lib.hid hr
  clear h hN hr
  go_enter Try.func22, Try.ntmps22
  go_wp2
  go_loop [5] (fun cc => ∃ i : Nat, i ≤ n ∧ cc = .int .i64 i ∧ Hid (∀ j y, j < i → l[j]? = some y → wkT k y = false)) (fun cc => n - (intOf cc).toNat)
  case atStart => exact ⟨0, Nat.zero_le _, rfl, Lib.hid (fun j y hj => absurd hj (by omega))⟩
  case round =>
    obtain ⟨i, hi, rfl, HB⟩ := hrel
    by_cases hlt : i < n
    · have d1 : (i : Int) < (n : Int) := by omega
      have d2 : (i : Int) < (c : Int) := by omega
      obtain ⟨x, hx⟩ := tk_at (l := l) (i := i) (by rw [HN.out]; exact hlt)
      obtain ⟨bb, off, rfl, hc, -⟩ := H.out.at hx
      have c0 := hc.wk
      have cl := hc.lt
      have HX := Lib.hid hx
      clear hc hx
      by_cases h0 : 0 ≤ k
      · by_cases hs : x.wk = k
        · have e1 : (x.wk == k) = true := by simp [hs]
          obtain rfl : (i : Int) = r := by
            rw [R.out]
            exact (idxP_at HX.out (by simp [wkT, hs, h0]) HB.out).symm
          generalize x.wk = xs at *
          clear hs
          go_wp2
          go_ret
          exact ⟨rfl, rfl⟩
        · have e1 : (x.wk == k) = false := beq_eq_false_iff_ne.2 hs
          have HB2 := Lib.hid (none_next HB.out HX.out (by simp [wkT, hs]))
          generalize x.wk = xs at *
          clear hs
          go_wp2
          go_round
          case rel => exact ⟨i + 1, by omega, by go_num, HB2⟩
          case measure => simp [intOf]; omega
      · have HB2 := Lib.hid (none_next HB.out HX.out (by simp [wkT, h0]))
        generalize x.wk = xs at *
        go_wp2
        go_round
        case rel => exact ⟨i + 1, by omega, by go_num, HB2⟩
        case measure => simp [intOf]; omega
    · obtain rfl : i = n := by omega
      obtain rfl : (-1 : Int) = r := by
        rw [R.out]
        exact (idxP_none fun j y hj hy => HB.out j y (by rw [← HN.out]; exact hj) hy).symm
      clear hlt
      go_wp2
      go_ret
      exact ⟨rfl, rfl⟩

end
end Go.Proofs.Ytpaocjpjlogkgaa
