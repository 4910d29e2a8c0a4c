/-
  What the reference's bounds of layer 7 answer, in whatever memory. No conditions but those that stand there.
-/
import Derived.Test.YtldljohholgmoaaZRckA
namespace Go.Proofs.Ytldljohholgmoaa
open Go.RowKit

section
variable (ra : Option Addr) (nr rc : Nat) (wa : Option Addr) (nw wc : Nat) (aa : Option Addr) (na ac : Nat) (fuel : Int) (ca : Option Addr) (nc cc : Nat)

abbrev rbW (x : Ins) (w : World) : World := (w.alloc (CmObj ra nr rc wa nw wc aa na ac fuel ca nc cc)).alloc (IObj x)
theorem rbW_below (x : Ins) (w : World) : Below w.heap.size w (rbW ra nr rc wa nw wc aa na ac fuel ca nc cc x w) := bnext (below_alloc1 _ _) (below_alloc1 _ _)

theorem rbounds2 (a b : Int) (w : World) (h1 : nr ≤ 1099511627776) (h2 : nw ≤ 1099511627776) (r : Bool) (hb : decide (0 ≤ a ∧ a < 4) = r) :
    Calls Try.prog 48 #[cmV ra nr rc wa nw wc aa na ac fuel ca nc cc, .agg #[.int .i64 2, .int .i64 a, .int .i64 b]] w fun e w' => e = .returned (.bool r) ∧ Below w.heap.size w w' := by
  have B0 := Lib.hid (rbW_below ra nr rc wa nw wc aa na ac fuel ca nc cc ⟨2, a, b⟩ w)
  by_cases g0 : 0 ≤ a
  · skip
    by_cases g1 : a < 4
    · skip
      obtain rfl : true = r := by rw [← hb]; exact (decide_eq_true ⟨g0, g1⟩).symm
      clear hb
      go_enter Try.func48, Try.ntmps48
      go_wp2
      go_ret
      exact ⟨rfl, B0.out⟩
    · obtain rfl : false = r := by rw [← hb]; exact (decide_eq_false (fun h => g1 h.2)).symm
      clear hb
      go_enter Try.func48, Try.ntmps48
      go_wp2
      go_ret
      exact ⟨rfl, B0.out⟩
  · obtain rfl : false = r := by rw [← hb]; exact (decide_eq_false (fun h => g0 h.1)).symm
    clear hb
    go_enter Try.func48, Try.ntmps48
    go_wp2
    go_ret
    exact ⟨rfl, B0.out⟩

theorem rbounds3 (a b : Int) (w : World) (h1 : nr ≤ 1099511627776) (h2 : nw ≤ 1099511627776) (r : Bool) (hb : decide (0 ≤ a ∧ a < 4) = r) :
    Calls Try.prog 48 #[cmV ra nr rc wa nw wc aa na ac fuel ca nc cc, .agg #[.int .i64 3, .int .i64 a, .int .i64 b]] w fun e w' => e = .returned (.bool r) ∧ Below w.heap.size w w' := by
  have B0 := Lib.hid (rbW_below ra nr rc wa nw wc aa na ac fuel ca nc cc ⟨3, a, b⟩ w)
  by_cases g0 : 0 ≤ a
  · skip
    by_cases g1 : a < 4
    · skip
      obtain rfl : true = r := by rw [← hb]; exact (decide_eq_true ⟨g0, g1⟩).symm
      clear hb
      go_enter Try.func48, Try.ntmps48
      go_wp2
      go_ret
      exact ⟨rfl, B0.out⟩
    · obtain rfl : false = r := by rw [← hb]; exact (decide_eq_false (fun h => g1 h.2)).symm
      clear hb
      go_enter Try.func48, Try.ntmps48
      go_wp2
      go_ret
      exact ⟨rfl, B0.out⟩
  · obtain rfl : false = r := by rw [← hb]; exact (decide_eq_false (fun h => g0 h.1)).symm
    clear hb
    go_enter Try.func48, Try.ntmps48
    go_wp2
    go_ret
    exact ⟨rfl, B0.out⟩

theorem rbounds4 (a b : Int) (w : World) (h1 : nr ≤ 1099511627776) (h2 : nw ≤ 1099511627776) (r : Bool) (hb : decide (0 ≤ a ∧ a < (nr : Int) + (nw : Int) ∧ 0 ≤ b ∧ b < 8) = r) :
    Calls Try.prog 48 #[cmV ra nr rc wa nw wc aa na ac fuel ca nc cc, .agg #[.int .i64 4, .int .i64 a, .int .i64 b]] w fun e w' => e = .returned (.bool r) ∧ Below w.heap.size w w' := by
  have B0 := Lib.hid (rbW_below ra nr rc wa nw wc aa na ac fuel ca nc cc ⟨4, a, b⟩ w)
  by_cases g0 : 0 ≤ a
  · skip
    by_cases g1 : a < (nr : Int) + (nw : Int)
    · skip
      by_cases g2 : 0 ≤ b
      · skip
        by_cases g3 : b < 8
        · skip
          obtain rfl : true = r := by rw [← hb]; exact (decide_eq_true ⟨g0, g1, g2, g3⟩).symm
          clear hb
          go_enter Try.func48, Try.ntmps48
          go_wp2
          go_ret
          exact ⟨rfl, B0.out⟩
        · obtain rfl : false = r := by rw [← hb]; exact (decide_eq_false (fun h => g3 h.2.2.2)).symm
          clear hb
          go_enter Try.func48, Try.ntmps48
          go_wp2
          go_ret
          exact ⟨rfl, B0.out⟩
      · obtain rfl : false = r := by rw [← hb]; exact (decide_eq_false (fun h => g2 h.2.2.1)).symm
        clear hb
        go_enter Try.func48, Try.ntmps48
        go_wp2
        go_ret
        exact ⟨rfl, B0.out⟩
    · obtain rfl : false = r := by rw [← hb]; exact (decide_eq_false (fun h => g1 h.2.1)).symm
      clear hb
      go_enter Try.func48, Try.ntmps48
      go_wp2
      go_ret
      exact ⟨rfl, B0.out⟩
  · obtain rfl : false = r := by rw [← hb]; exact (decide_eq_false (fun h => g0 h.1)).symm
    clear hb
    go_enter Try.func48, Try.ntmps48
    go_wp2
    go_ret
    exact ⟨rfl, B0.out⟩

theorem rbounds5 (a b : Int) (w : World) (h1 : nr ≤ 1099511627776) (h2 : nw ≤ 1099511627776) (r : Bool) (hb : decide ((nr : Int) ≤ a ∧ a < (nr : Int) + (nw : Int) ∧ 0 ≤ b ∧ b < 8) = r) :
    Calls Try.prog 48 #[cmV ra nr rc wa nw wc aa na ac fuel ca nc cc, .agg #[.int .i64 5, .int .i64 a, .int .i64 b]] w fun e w' => e = .returned (.bool r) ∧ Below w.heap.size w w' := by
  have B0 := Lib.hid (rbW_below ra nr rc wa nw wc aa na ac fuel ca nc cc ⟨5, a, b⟩ w)
  by_cases g0 : (nr : Int) ≤ a
  · skip
    by_cases g1 : a < (nr : Int) + (nw : Int)
    · skip
      by_cases g2 : 0 ≤ b
      · skip
        by_cases g3 : b < 8
        · skip
          obtain rfl : true = r := by rw [← hb]; exact (decide_eq_true ⟨g0, g1, g2, g3⟩).symm
          clear hb
          go_enter Try.func48, Try.ntmps48
          go_wp2
          go_ret
          exact ⟨rfl, B0.out⟩
        · obtain rfl : false = r := by rw [← hb]; exact (decide_eq_false (fun h => g3 h.2.2.2)).symm
          clear hb
          go_enter Try.func48, Try.ntmps48
          go_wp2
          go_ret
          exact ⟨rfl, B0.out⟩
      · obtain rfl : false = r := by rw [← hb]; exact (decide_eq_false (fun h => g2 h.2.2.1)).symm
        clear hb
        go_enter Try.func48, Try.ntmps48
        go_wp2
        go_ret
        exact ⟨rfl, B0.out⟩
    · obtain rfl : false = r := by rw [← hb]; exact (decide_eq_false (fun h => g1 h.2.1)).symm
      clear hb
      go_enter Try.func48, Try.ntmps48
      go_wp2
      go_ret
      exact ⟨rfl, B0.out⟩
  · obtain rfl : false = r := by rw [← hb]; exact (decide_eq_false (fun h => g0 h.1)).symm
    clear hb
    go_enter Try.func48, Try.ntmps48
    go_wp2
    go_ret
    exact ⟨rfl, B0.out⟩

theorem rbounds6 (a b : Int) (w : World) (h1 : nr ≤ 1099511627776) (h2 : nw ≤ 1099511627776) (r : Bool) (hb : decide (0 ≤ a ∧ a < (na : Int)) = r) :
    Calls Try.prog 48 #[cmV ra nr rc wa nw wc aa na ac fuel ca nc cc, .agg #[.int .i64 6, .int .i64 a, .int .i64 b]] w fun e w' => e = .returned (.bool r) ∧ Below w.heap.size w w' := by
  have B0 := Lib.hid (rbW_below ra nr rc wa nw wc aa na ac fuel ca nc cc ⟨6, a, b⟩ w)
  by_cases g0 : 0 ≤ a
  · skip
    by_cases g1 : a < (na : Int)
    · skip
      obtain rfl : true = r := by rw [← hb]; exact (decide_eq_true ⟨g0, g1⟩).symm
      clear hb
      go_enter Try.func48, Try.ntmps48
      go_wp2
      go_ret
      exact ⟨rfl, B0.out⟩
    · obtain rfl : false = r := by rw [← hb]; exact (decide_eq_false (fun h => g1 h.2)).symm
      clear hb
      go_enter Try.func48, Try.ntmps48
      go_wp2
      go_ret
      exact ⟨rfl, B0.out⟩
  · obtain rfl : false = r := by rw [← hb]; exact (decide_eq_false (fun h => g0 h.1)).symm
    clear hb
    go_enter Try.func48, Try.ntmps48
    go_wp2
    go_ret
    exact ⟨rfl, B0.out⟩

theorem rbounds_else (op a b : Int) (w : World) (h1 : nr ≤ 1099511627776) (h2 : nw ≤ 1099511627776) (ho : op ≠ 2 ∧ op ≠ 3 ∧ op ≠ 4 ∧ op ≠ 5 ∧ op ≠ 6) :
    Calls Try.prog 48 #[cmV ra nr rc wa nw wc aa na ac fuel ca nc cc, .agg #[.int .i64 op, .int .i64 a, .int .i64 b]] w fun e w' => e = .returned (.bool true) ∧ Below w.heap.size w w' := by
  have B0 := Lib.hid (rbW_below ra nr rc wa nw wc aa na ac fuel ca nc cc ⟨op, a, b⟩ w)
  have e0 : (op == 2) = false := by simp; omega
  have e1 : (op == 3) = false := by simp; omega
  have e2 : (op == 4) = false := by simp; omega
  have e3 : (op == 5) = false := by simp; omega
  have e4 : (op == 6) = false := by simp; omega
  clear ho
  go_enter Try.func48, Try.ntmps48
  go_wp2
  go_ret
  exact ⟨rfl, B0.out⟩

theorem rbounds_any (x : Ins) (w : World) (h1 : nr ≤ 1099511627776) (h2 : nw ≤ 1099511627776) (r : Bool) (hb : decide (boundsL nr nw na x) = r) :
    Calls Try.prog 48 #[cmV ra nr rc wa nw wc aa na ac fuel ca nc cc, .agg #[.int .i64 x.op, .int .i64 x.a, .int .i64 x.b]] w fun e w' => e = .returned (.bool r) ∧ Below w.heap.size w w' := by
  obtain ⟨op, a, b⟩ := x
  have e : ∀ p : Prop, [Decidable p] → (boundsL nr nw na ⟨op, a, b⟩ ↔ p) → decide p = r := fun p _ h => by
    rw [← hb]
    exact decide_eq_decide.2 h.symm
  by_cases o2 : op = 2
  · subst o2
    exact rbounds2 ra nr rc wa nw wc aa na ac fuel ca nc cc a b w h1 h2 r (e _ (by simp [boundsL]))
  by_cases o3 : op = 3
  · subst o3
    exact rbounds3 ra nr rc wa nw wc aa na ac fuel ca nc cc a b w h1 h2 r (e _ (by simp [boundsL]))
  by_cases o4 : op = 4
  · subst o4
    exact rbounds4 ra nr rc wa nw wc aa na ac fuel ca nc cc a b w h1 h2 r (e _ (by simp [boundsL]))
  by_cases o5 : op = 5
  · subst o5
    exact rbounds5 ra nr rc wa nw wc aa na ac fuel ca nc cc a b w h1 h2 r (e _ (by simp [boundsL]))
  by_cases o6 : op = 6
  · subst o6
    exact rbounds6 ra nr rc wa nw wc aa na ac fuel ca nc cc a b w h1 h2 r (e _ (by simp [boundsL]))
  · have := e True (by simp [boundsL, o2, o3, o4, o5, o6])
    rw [decide_true] at this
    subst this
    exact rbounds_else ra nr rc wa nw wc aa na ac fuel ca nc cc op a b w h1 h2 ⟨o2, o3, o4, o5, o6⟩

end
end Go.Proofs.Ytldljohholgmoaa
