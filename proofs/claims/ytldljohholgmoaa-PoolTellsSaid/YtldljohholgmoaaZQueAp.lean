/-
  What slices.IndexFunc and ContainsFunc of those who wait answer, with whatever predicate, in whatever memory. No conditions but those that stand there.
-/
import Derived.Test.YtldljohholgmoaaZWntM
import Derived.Test.YtldljohholgmoaaQStr
import Derived.Shelf.Abstract
namespace Go.Proofs.Ytldljohholgmoaa
open Go.RowKit Go.Shelf

/-- a predicate as a function of the program. -/
def PredW (p : Wnt → Bool) (fn : Nat) (lb : Array Value) (w : World) : Prop :=
  ∀ (x : Wnt) (W : World), Below w.heap.size w W → Calls Try.prog fn (#[.agg (wnV x.seq x.excl x.has)] ++ lb) W fun e w' => e = .returned (.bool (p x)) ∧ Below W.heap.size W w'

theorem PredW.below {p : Wnt → Bool} {fn : Nat} {lb : Array Value} {w w' : World} (h : PredW p fn lb w) (hb : Below w.heap.size w w') : PredW p fn lb w' := fun x W hW => h x W (bnext hb hW)

set_option maxHeartbeats 4000000 in
theorem idxW_any (l : List Wnt) (p : Wnt → Bool) (fn : Nat) (lb : Array Value) (eg : ∀ args w, (callFunc fn args).run Try.prog w = .ok (.enter fn args) w) (A : Option Addr) (n c : Nat) (w : World) (h : Wnts w A c l) (hN : l.length = n) (hz : n ≤ 100000) (hp : PredW p fn lb w) :
    Calls Try.prog 66 #[.slice A n c, .func (.func fn) #[] lb] w fun e w' => e = .returned (.int .i64 (idxP p l)) ∧ Below w.heap.size w w' := by
  have hc : n ≤ c := by have := h.2.1; omega
  have h' := Lib.hid h
  have hN' := Lib.hid hN
  have hp' := Lib.hid hp
  obtain ⟨r, hr⟩ : ∃ r, r = idxP p l := ⟨_, rfl⟩
  rw [← hr]
  have hr' := Lib.hid hr
  clear h hN hp hr
  go_enter Try.func66, Try.ntmps66
  go_wp2
  go_loopw [8] (fun cc wr => ∃ i : Nat, i ≤ n ∧ cc = .int .i64 i ∧ Hid (∀ j y, j < i → l[j]? = some y → p y = false) ∧ Hid (Below w.heap.size w wr)) (fun cc _ => n - (intOf cc).toNat)
  case atStart => exact ⟨0, Nat.zero_le _, rfl, Lib.hid (fun j y hj => absurd hj (by omega)), Lib.hid (Below.refl _ _)⟩
  case round =>
    obtain ⟨i, hi, rfl, HB, HW⟩ := hrel
    by_cases hlt : i < n
    · have d1 : (i : Int) < (n : Int) := by omega
      have d2 : (i : Int) < (c : Int) := by omega
      obtain ⟨x, hx⟩ := wnt_at (l := l) (i := i) (by rw [hN'.out]; exact hlt)
      obtain ⟨bb, off, rfl, hbl, x0, x1, x2⟩ := Wnts.at (h'.out.below HW.out) hx
      have hcall := Lib.hid (hp'.out x wr HW.out)
      have hx' := Lib.hid hx
      clear hx
      cases hq : p x with
      | true =>
        rw [hq] at hcall
        obtain rfl : (i : Int) = r := by rw [hr'.out]; exact (idxP_at hx'.out hq HB.out).symm
        clear hq
        go_wp2_with (go_at_fn fn; go_must (refine hcall.out.mono ?_; rintro e w1 ⟨rfl, hb1⟩; have B1 := Lib.hid (bnext HW.out hb1); clear hb1))
        go_ret
        exact ⟨rfl, B1.out⟩
      | false =>
        rw [hq] at hcall
        have HB2 : Hid (∀ j y, j < i + 1 → l[j]? = some y → p y = false) := Lib.hid (fun j y hj hy => by
          by_cases he : j = i
          · subst he
            have := hx'.out
            rw [hy] at this
            injection this with this
            rw [this]
            exact hq
          · exact HB.out j y (by omega) hy)
        clear hq
        go_wp2_with (go_at_fn fn; go_must (refine hcall.out.mono ?_; rintro e w1 ⟨rfl, hb1⟩; have B1 := Lib.hid (bnext HW.out hb1); clear hb1))
        go_roundw
        case rel => exact ⟨i + 1, by omega, by go_num, HB2, B1⟩
        case measure => simp [intOf]; omega
    · obtain rfl : i = n := by omega
      obtain rfl : -1 = r := by
        rw [hr'.out]
        exact (idxP_none fun j y hj hy => HB.out j y (by rw [← hN'.out]; exact hj) hy).symm
      clear hlt
      go_wp2
      go_ret
      exact ⟨rfl, HW.out⟩

theorem conW_any (l : List Wnt) (p : Wnt → Bool) (fn : Nat) (lb : Array Value) (eg : ∀ args w, (callFunc fn args).run Try.prog w = .ok (.enter fn args) w) (A : Option Addr) (n c : Nat) (w : World) (h : Wnts w A c l) (hN : l.length = n) (hz : n ≤ 100000) (hp : PredW p fn lb w) :
    Calls Try.prog 63 #[.slice A n c, .func (.func fn) #[] lb] w fun e w' => e = .returned (.bool (l.any p)) ∧ Below w.heap.size w w' := by
  have hi := Lib.hid (idxW_any l p fn lb eg A n c w h hN hz hp)
  rw [← idxP_any]
  obtain ⟨r, hr⟩ : ∃ r, r = idxP p l := ⟨_, rfl⟩
  rw [← hr] at hi ⊢
  clear h hN hp hr
  go_enter Try.func63, Try.ntmps63
  go_wp2_with (go_at_call 66; go_must ((with_reducible refine hi.out.mono ?_); rintro e w1 ⟨rfl, hb1⟩; have B1 := Lib.hid hb1; clear hb1))
  go_ret
  exact ⟨rfl, B1.out⟩

end Go.Proofs.Ytldljohholgmoaa
