/-
  What the laws' right answers, in whatever memory: whether a command may be, and has as many blocks as it tells. No conditions but those that stand there.
-/
import Derived.Test.YtoomadafgkcebaaZRckC
namespace Go.Proofs.Ytoomadafgkcebaa
open Go.RowKit

section
variable (c : Cmd) (ra : Option Addr) (nr rc : Nat) (wa : Option Addr) (nw wc : Nat) (aa : Option Addr) (na ac : Nat) (ca : Option Addr) (nc cc : Nat)

/-- too many numbers: ErrLimit. -/
theorem rcheck_args (w : World) (h1 : nr ≤ 8) (h2 : nw ≤ 8) (h3 : 8 < na) :
    Calls Try.prog 19 #[cmV ra nr rc wa nw wc aa na ac c.fuel ca nc cc] w fun e w' => e = .returned (.int .i64 4) ∧ Below w.heap.size w w' := by
  have B0 := Lib.hid (below_alloc1 w (CmObj ra nr rc wa nw wc aa na ac c.fuel ca nc cc))
  generalize c.fuel = fuel at *
  by_cases g : nr + nw ≤ 8
  · have e0 : decide (8 < (nr : Int) + (nw : Int)) = false := decide_eq_false (by omega)
    have e1 : decide (8 < (na : Int)) = true := decide_eq_true (by omega)
    go_enter Try.func19, Try.ntmps19
    go_wp2
    go_ret
    exact ⟨rfl, B0.out⟩
  · have e0 : decide (8 < (nr : Int) + (nw : Int)) = true := decide_eq_true (by omega)
    go_enter Try.func19, Try.ntmps19
    go_wp2
    go_ret
    exact ⟨rfl, B0.out⟩

theorem right_any (bA : Option Addr) (bn bc : Nat) (w : World) (h : CmRaw w c ra nr rc wa nw wc aa na ac ca nc cc) (b : Bool) (hb : b = true ↔ MayBe c ∧ bn = nr + nw) :
    Calls Try.prog 7 #[cmV ra nr rc wa nw wc aa na ac c.fuel ca nc cc, .slice bA bn bc] w fun e w' => e = .returned (.bool b) ∧ Below w.heap.size w w' := by
  have hlr := h.lr
  have hlw := h.lw
  have hla := h.la
  have hlc := h.lc
  have B0 := Lib.hid (below_alloc1 w (CmObj ra nr rc wa nw wc aa na ac c.fuel ca nc cc))
  have C0 : Hid (Bk (w.alloc (CmObj ra nr rc wa nw wc aa na ac c.fuel ca nc cc)) w.heap.size 25 #[.slice ra nr rc, .slice wa nw wc, .slice aa na ac, .int .i64 c.fuel, .slice ca nc cc]) := Lib.hid (Bk.new w _ _)
  have hno : (¬ (nr ≤ 8 ∧ nw ≤ 8 ∧ na ≤ 8 ∧ nc ≤ 64)) → b = false := fun hn => by
    cases b with
    | false => rfl
    | true =>
      obtain ⟨hm, -⟩ := hb.1 rfl
      obtain ⟨f1, f2, f3, f4, -, -⟩ := hm.few
      exact absurd (by omega) hn
  by_cases g1 : nr ≤ 8
  rotate_left
  · obtain rfl : b = false := hno (by omega)
    have e1 : decide ((nr : Int) ≤ 8) = false := decide_eq_false (by omega)
    clear hb hno h hlr hlw hla hlc
    generalize c.fuel = fuel at *
    go_enter Try.func7, Try.ntmps7
    go_wp2
    go_ret
    exact ⟨rfl, B0.out⟩
  have e1 : decide ((nr : Int) ≤ 8) = true := decide_eq_true (by omega)
  by_cases g2 : nw ≤ 8
  rotate_left
  · obtain rfl : b = false := hno (by omega)
    have e2 : decide ((nw : Int) ≤ 8) = false := decide_eq_false (by omega)
    clear hb hno h hlr hlw hla hlc
    generalize c.fuel = fuel at *
    go_enter Try.func7, Try.ntmps7
    go_wp2
    go_ret
    exact ⟨rfl, B0.out⟩
  have e2 : decide ((nw : Int) ≤ 8) = true := decide_eq_true (by omega)
  by_cases g3 : nc ≤ 64
  rotate_left
  · obtain rfl : b = false := hno (by omega)
    have e3 : decide ((nc : Int) ≤ 64) = false := decide_eq_false (by omega)
    clear hb hno h hlr hlw hla hlc
    generalize c.fuel = fuel at *
    go_enter Try.func7, Try.ntmps7
    go_wp2
    go_ret
    exact ⟨rfl, B0.out⟩
  have e3 : decide ((nc : Int) ≤ 64) = true := decide_eq_true (by omega)
  by_cases g4 : na ≤ 8
  rotate_left
  · obtain rfl : b = false := hno (by omega)
    have hck := Lib.hid (fun W (_ : Below w.heap.size w W) => rcheck_args c ra nr rc wa nw wc aa na ac ca nc cc W g1 g2 (by omega))
    clear hb hno h hlr hlw hla hlc
    generalize c.fuel = fuel at *
    go_enter Try.func7, Try.ntmps7
    go_wp2_with (go_at_call 19; go_must ((with_reducible refine (hck.out _ B0.out).mono ?_); rintro e w1 ⟨rfl, hb1⟩; have B1 := Lib.hid (bnext B0.out hb1); obtain ⟨c0, c1, c2, c3, c4, cf⟩ := (C0.out.below hb1).cmd; have cl := (C0.out.below hb1).lt; clear hb1))
    go_ret
    exact ⟨rfl, B1.out⟩
  have hC : CmIn w c ra nr rc wa nw wc aa na ac ca nc cc := ⟨h.lr, h.lw, h.la, h.lc, h.reads, h.writes, h.args, h.code, by omega, by omega, by omega, by omega⟩
  have hck := Lib.hid (fun W (hW : Below w.heap.size w W) => rcheck_any c ra nr rc wa nw wc aa na ac ca nc cc W (hC.below hW))
  clear hC
  by_cases hm : MayBe c
  · have hz : checkN c = 0 := (check_zero c).2 hm
    rw [hz] at hck
    have hck : Hid (∀ W, Below w.heap.size w W → Calls Try.prog 19 #[cmV ra nr rc wa nw wc aa na ac c.fuel ca nc cc] W fun e w' => e = .returned (.int .i64 0) ∧ Below W.heap.size W w') := hck
    have hs : b = decide (bn = nr + nw) := by
      cases b with
      | true => exact (decide_eq_true (hb.1 rfl).2).symm
      | false => exact (decide_eq_false (fun q => by have := hb.2 ⟨hm, q⟩; cases this)).symm
    by_cases hbn : bn = nr + nw
    · rw [decide_eq_true hbn] at hs
      subst hs
      have e5 : ((bn : Int) == (nr : Int) + (nw : Int)) = true := by simp; omega
      clear hm hz hbn
      clear hb hno h hlr hlw hla hlc
      generalize c.fuel = fuel at *
      go_enter Try.func7, Try.ntmps7
      go_wp2_with (go_at_call 19; go_must ((with_reducible refine (hck.out _ B0.out).mono ?_); rintro e w1 ⟨rfl, hb1⟩; have B1 := Lib.hid (bnext B0.out hb1); obtain ⟨c0, c1, c2, c3, c4, cf⟩ := (C0.out.below hb1).cmd; have cl := (C0.out.below hb1).lt; clear hb1))
      go_ret
      exact ⟨rfl, B1.out⟩
    · rw [decide_eq_false hbn] at hs
      subst hs
      have e5 : ((bn : Int) == (nr : Int) + (nw : Int)) = false := by simp; omega
      clear hm hz hbn
      clear hb hno h hlr hlw hla hlc
      generalize c.fuel = fuel at *
      go_enter Try.func7, Try.ntmps7
      go_wp2_with (go_at_call 19; go_must ((with_reducible refine (hck.out _ B0.out).mono ?_); rintro e w1 ⟨rfl, hb1⟩; have B1 := Lib.hid (bnext B0.out hb1); obtain ⟨c0, c1, c2, c3, c4, cf⟩ := (C0.out.below hb1).cmd; have cl := (C0.out.below hb1).lt; clear hb1))
      go_ret
      exact ⟨rfl, B1.out⟩
  · have hz : checkN c ≠ 0 := fun q => hm ((check_zero c).1 q)
    obtain rfl : b = false := by
      cases b with
      | false => rfl
      | true => exact absurd (hb.1 rfl).1 hm
    have e5 : ((checkN c : Nat) : Int) ≠ 0 := by omega
    have e6 : (((checkN c : Nat) : Int) == 0) = false := by simpa using e5
    generalize ((checkN c : Nat) : Int) = z at *
    clear hm hz e5
    clear hb hno h hlr hlw hla hlc
    generalize c.fuel = fuel at *
    go_enter Try.func7, Try.ntmps7
    go_wp2_with (go_at_call 19; go_must ((with_reducible refine (hck.out _ B0.out).mono ?_); rintro e w1 ⟨rfl, hb1⟩; have B1 := Lib.hid (bnext B0.out hb1); obtain ⟨c0, c1, c2, c3, c4, cf⟩ := (C0.out.below hb1).cmd; have cl := (C0.out.below hb1).lt; clear hb1))
    go_ret
    exact ⟨rfl, B1.out⟩

end
end Go.Proofs.Ytoomadafgkcebaa
