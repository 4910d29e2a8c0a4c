/-
  What foremanref16.Find, Of and Fuel answer, in whatever memory. No conditions but those that stand there.
-/
import Derived.Test.YtpaocjpjlogkgaaQWords
import Derived.Test.YtpaocjpjlogkgaaQQueP
import Derived.OwnWalk
namespace Go.Proofs.Ytpaocjpjlogkgaa
open Go.RowKit
set_option maxRecDepth 100000

def seqT (s : Int) (t : TkL) : Bool := decide (t.s = s)
def wkT (k : Int) (t : TkL) : Bool := decide (0 ≤ k ∧ t.wk = k)
def fuelT (l : List TkL) : Int := (l.map fun t => t.m.fuel).sum

theorem none_next {l : List TkL} {p : TkL → Bool} {i : Nat} {x : TkL} (h : ∀ j y, j < i → l[j]? = some y → p y = false) (hx : l[i]? = some x) (hp : p x = false) : ∀ j y, j < i + 1 → l[j]? = some y → p y = false := fun j y hj hy => by
  by_cases he : j = i
  · subst he
    rw [hx] at hy
    injection hy with hy
    rw [← hy]
    exact hp
  · exact h j y (by omega) hy

section
variable (l : List TkL) (A : Option Addr) (n c : Nat)

set_option maxHeartbeats 4000000 in
theorem rof16_any (k : Int) (w : World) (h : Tks w A c l) (hN : l.length = n) (hz : n ≤ 100000) :
    Calls Try.prog 22 #[.slice A n c, .int .i64 k] w fun e w' => e = .returned (.int .i64 (idxP (wkT k) l)) ∧ w = w' := by
  have H := Lib.hid h
  have HN := Lib.hid hN
  have hnc : n ≤ c := by have := h.cap; omega
  obtain ⟨r, hr⟩ : ∃ r, r = idxP (wkT k) l := ⟨_, rfl⟩
  rw [← hr]
  have R := Lib.hid hr
  clear h hN hr
  go_enter Try.func22, Try.ntmps22
  go_wp2
  go_loop [5] (fun cc => ∃ i : Nat, i ≤ n ∧ cc = .int .i64 i ∧ Hid (∀ j y, j < i → l[j]? = some y → wkT k y = false)) (fun cc => n - (intOf cc).toNat)
  case atStart => exact ⟨0, Nat.zero_le _, rfl, Lib.hid (fun j y hj => absurd hj (by omega))⟩
  case round =>
    obtain ⟨i, hi, rfl, HB⟩ := hrel
    by_cases hlt : i < n
    · have d1 : (i : Int) < (n : Int) := by omega
      have d2 : (i : Int) < (c : Int) := by omega
      obtain ⟨x, hx⟩ := tk_at (l := l) (i := i) (by rw [HN.out]; exact hlt)
      obtain ⟨bb, off, rfl, hc, -⟩ := H.out.at hx
      have c0 := hc.wk
      have cl := hc.lt
      have HX := Lib.hid hx
      clear hc hx
      by_cases h0 : 0 ≤ k
      · by_cases hs : x.wk = k
        · have e1 : (x.wk == k) = true := by simp [hs]
          obtain rfl : (i : Int) = r := by
            rw [R.out]
            exact (idxP_at HX.out (by simp [wkT, hs, h0]) HB.out).symm
          generalize x.wk = xs at *
          clear hs
          go_wp2
          go_ret
          exact ⟨rfl, rfl⟩
        · have e1 : (x.wk == k) = false := beq_eq_false_iff_ne.2 hs
          have HB2 := Lib.hid (none_next HB.out HX.out (by simp [wkT, hs]))
          generalize x.wk = xs at *
          clear hs
          go_wp2
          go_round
          case rel => exact ⟨i + 1, by omega, by go_num, HB2⟩
          case measure => simp [intOf]; omega
      · have HB2 := Lib.hid (none_next HB.out HX.out (by simp [wkT, h0]))
        generalize x.wk = xs at *
        go_wp2
        go_round
        case rel => exact ⟨i + 1, by omega, by go_num, HB2⟩
        case measure => simp [intOf]; omega
    · obtain rfl : i = n := by omega
      obtain rfl : (-1 : Int) = r := by
        rw [R.out]
        exact (idxP_none fun j y hj hy => HB.out j y (by rw [← HN.out]; exact hj) hy).symm
      clear hlt
      go_wp2
      go_ret
      exact ⟨rfl, rfl⟩

theorem fuelT_take {l : List TkL} {i : Nat} {x : TkL} (hx : l[i]? = some x) : fuelT (l.take (i + 1)) = fuelT (l.take i) + x.m.fuel := by
  unfold fuelT
  rw [List.take_add_one, hx]
  simp
theorem fuelT_le {l : List TkL} (h : ∀ t ∈ l, 0 ≤ t.m.fuel ∧ t.m.fuel ≤ 1000) : 0 ≤ fuelT l ∧ fuelT l ≤ 1000 * l.length := by
  unfold fuelT
  induction l with
  | nil => simp
  | cons t l ih =>
    have h1 := h t List.mem_cons_self
    have h2 := ih fun u hu => h u (List.mem_cons_of_mem _ hu)
    rw [List.map_cons, List.sum_cons, List.length_cons]
    omega

set_option maxHeartbeats 4000000 in
theorem rfuel16_any (w : World) (h : Tks w A c l) (hN : l.length = n) (hz : n ≤ 100000) (hf : ∀ t ∈ l, 0 ≤ t.m.fuel ∧ t.m.fuel ≤ 1000) :
    Calls Try.prog 10 #[.slice A n c] w fun e w' => e = .returned (.int .i64 (fuelT l)) ∧ w = w' := by
  have H := Lib.hid h
  have HN := Lib.hid hN
  have HF := Lib.hid hf
  have hnc : n ≤ c := by have := h.cap; omega
  clear h hN hf
  go_enter Try.func10, Try.ntmps10
  go_wp2
  go_loop [3, 4] (fun ff cc => ∃ i : Nat, i ≤ n ∧ cc = .int .i64 i ∧ ff = .int .i64 (fuelT (l.take i))) (fun _ cc => n - (intOf cc).toNat)
  case atStart => exact ⟨0, Nat.zero_le _, rfl, by simp [fuelT]⟩
  case round =>
    obtain ⟨i, hi, rfl, rfl⟩ := hrel
    by_cases hlt : i < n
    · have d1 : (i : Int) < (n : Int) := by omega
      have d2 : (i : Int) < (c : Int) := by omega
      obtain ⟨x, hx⟩ := tk_at (l := l) (i := i) (by rw [HN.out]; exact hlt)
      obtain ⟨bb, off, rfl, hc, -⟩ := H.out.at hx
      have c0 := hc.fuel
      have cl := hc.lt
      have hs := fuelT_take hx
      have h1 := fuelT_le (l := l.take (i + 1)) fun t ht => HF.out t (List.mem_of_mem_take ht)
      have h2 : (l.take (i + 1)).length ≤ n := by rw [List.length_take, HN.out]; omega
      have e1 : wrap64 (fuelT (l.take i) + x.m.fuel) = fuelT (l.take (i + 1)) := by
        rw [← hs]
        unfold wrap64
        omega
      obtain ⟨f1, hf1⟩ : ∃ f1, f1 = fuelT (l.take (i + 1)) := ⟨_, rfl⟩
      rw [← hf1] at e1
      have HF1 := Lib.hid hf1
      clear hc hx hs h1 h2 hf1
      generalize fuelT (l.take i) = f0 at *
      generalize x.m.fuel = xf at *
      go_wp2
      go_round
      case rel => exact ⟨i + 1, by omega, by go_num, by rw [← HF1.out, e1]⟩
      case measure => simp [intOf]; omega
    · obtain rfl : i = n := by omega
      rw [← HN.out, List.take_length]
      clear hlt
      go_wp2
      go_ret
      exact ⟨rfl, rfl⟩

end
end Go.Proofs.Ytpaocjpjlogkgaa
