/-
  What the reference's moves, rising and bounds of layer 7 answer, in whatever memory. No conditions but those that stand there.
-/
import Derived.Test.YtldljohholgmoaaQStr
import Derived.Test.YtldljohholgmoaaZCmdM
import Derived.Deep.DeepMust
import Derived.Deep.QuietTactic
import Derived.BigQuiet
import Derived.IntWalk
namespace Go.Proofs.Ytldljohholgmoaa
open Go.RowKit

theorem rmoves_any (op : Int) (w : World) : Calls Try.prog 60 #[.int .i64 op] w fun e w' => e = .returned (.tuple #[.int .i64 (offN op : Nat), .int .i64 (onN op : Nat)]) ∧ w = w' := by
  rcases op_cases op with h | h | rfl | rfl | rfl | rfl | rfl | rfl | rfl | rfl | rfl | rfl | rfl | rfl | rfl | rfl | rfl | rfl | rfl
  all_goals
    (try rw [offN_low h, onN_low h])
    (try rw [offN_high h, onN_high h])
    go_enter Try.func60, Try.ntmps60
    go_wp2
    go_ret2
    exact ⟨rfl, rfl⟩

theorem drewR (w : World) (n : Nat) : Below w.heap.size w (w.drewN n) := ⟨rfl, rfl, rfl, Nat.le_refl _, fun _ _ => rfl⟩

/-- rising, place by place: from a place on, behind the one ahead of it. -/
def risesAt (l : List Int) (i : Nat) : Prop := risesN (l.drop i) (if i = 0 then 0 else (l[i - 1]?.getD 0) + 1)
instance (l : List Int) (i : Nat) : Decidable (risesAt l i) := inferInstanceAs (Decidable (risesN _ _))

theorem rises_low : ∀ (l : List Int) (z y : Int), y ≤ z → risesN l z → risesN l y
  | [], _, _, _, _ => trivial
  | _ :: _, _, _, h, k => ⟨Int.le_trans h k.1, k.2⟩

theorem rises_ge : ∀ (l : List Int) (z : Int), risesN l z → ∀ x ∈ l, z ≤ x
  | [], _, _, x, h => by cases h
  | y :: l, z, k, x, h => by
    rcases List.mem_cons.1 h with rfl | h
    · exact k.1
    · have := rises_ge l (y + 1) k.2 x h
      have := k.1
      omega

theorem risesAt_step {l : List Int} {i : Nat} (h : i < l.length) : risesAt l i ↔ (if i = 0 then 0 else (l[i - 1]?.getD 0) + 1) ≤ l[i]?.getD 0 ∧ risesAt l (i + 1) := by
  unfold risesAt
  rw [drop_consI h]
  exact Iff.rfl

set_option maxHeartbeats 1000000 in
theorem rrising_any (l : List Int) (A : Option Addr) (N c : Nat) (w : World) (h : Ints w A c l) (hN : l.length = N) (hz : N ≤ 1099511627776) (b : Bool) (hb : decide (risesN l 0) = b) :
    Calls Try.prog 46 #[.slice A N c] w fun e w' => e = .returned (.bool b) ∧ Below w.heap.size w w' := by
  have hc := h.2.1
  have h' := Lib.hid h
  have hN' := Lib.hid hN
  rw [hN] at hc
  have hb' : Hid (decide (risesAt l 0) = b) := Lib.hid hb
  clear h hN hb
  go_enter Try.func46, Try.ntmps46
  go_wp2
  go_loopw [3] (fun cc wr => ∃ i : Nat, i ≤ N ∧ cc = .int .i64 i ∧ Hid (Below w.heap.size w wr) ∧ Hid (decide (risesAt l i) = b) ∧ Hid (0 < i → 0 ≤ l[i - 1]?.getD 0)) (fun cc _ => N - (intOf cc).toNat)
  case atStart => exact ⟨0, Nat.zero_le _, rfl, Lib.hid (Below.refl _ _), hb', Lib.hid (fun h => absurd h (by omega))⟩
  case round =>
    obtain ⟨i, hi, rfl, HB, HR, HP⟩ := hrel
    by_cases hlt : i < N
    · have d1 : (i : Int) < (N : Int) := by omega
      have d2 : (i : Int) < (c : Int) := by omega
      have hil : i < l.length := by rw [hN'.out]; exact hlt
      obtain ⟨g, off, rfl, hg, x0⟩ := (Ints.below h'.out HB.out).cellAt (j := i) hil
      have hstep := risesAt_step hil
      have HR2 := HR.out
      rcases Nat.eq_zero_or_pos i with hi0 | h0
      · rw [if_pos hi0] at hstep
        have e3 : decide ((0 : Int) < (i : Int)) = false := decide_eq_false (by omega)
        have e4 : decide (0 < i) = false := decide_eq_false (by omega)
        obtain ⟨x, hx0⟩ : ∃ x, x = l[i]?.getD 0 := ⟨_, rfl⟩
        rw [← hx0] at hstep x0
        have HX := Lib.hid hx0
        clear hx0 hi0
        by_cases hx : x < 0
        · obtain rfl : false = b := by rw [← HR2, decide_eq_false (fun q => by have := (hstep.1 q).1; omega)]
          have e1 : decide (x < 0) = true := decide_eq_true hx
          clear hstep HR2 HR
          go_wp2
          go_quiet (fail)
          go_wp2
          go_ret
          exact ⟨rfl, bnext HB.out (drewR _ _)⟩
        · have e1 : decide (x < 0) = false := decide_eq_false hx
          have HR3 : Hid (decide (risesAt l (i + 1)) = b) := Lib.hid (by
            rw [← HR2]
            exact decide_eq_decide.2 ⟨fun q => hstep.2 ⟨by omega, q⟩, fun q => (hstep.1 q).2⟩)
          have HP3 : Hid (0 < i + 1 → 0 ≤ l[i + 1 - 1]?.getD (0 : Int)) := Lib.hid (fun _ => by
            rw [Nat.add_sub_cancel, ← HX.out]
            omega)
          clear hstep HR2 HR
          go_wp2
          go_quiet (fail)
          go_wp2
          go_roundw
          case rel => exact ⟨i + 1, by omega, by go_num, Lib.hid (bnext HB.out (drewR _ _)), HR3, HP3⟩
          case measure => simp [intOf]; omega
      · obtain ⟨j, rfl⟩ : ∃ j, i = j + 1 := ⟨i - 1, by omega⟩
        rw [if_neg (by omega), Nat.add_sub_cancel] at hstep
        have hp0 := HP.out h0
        rw [Nat.add_sub_cancel] at hp0
        obtain ⟨g', off', hgg, -, y0⟩ := (Ints.below h'.out HB.out).cellAt (j := j) (by omega)
        obtain ⟨rfl, rfl⟩ : g = g' ∧ off = off' := (by simpa using hgg)
        obtain ⟨x, hx0⟩ : ∃ x, x = l[j + 1]?.getD 0 := ⟨_, rfl⟩
        rw [← hx0] at hstep x0
        have HX := Lib.hid hx0
        generalize l[j]?.getD 0 = p at *
        clear hx0 hgg
        have q1 : IntKind.i64.wrap ((j : Int) + 1 - 1) = (j : Int) := by rw [show (j : Int) + 1 - 1 = j by omega]; exact IntWalk.i64_in _ (by omega)
        have q2 : (j : Int) < (N : Int) := by omega
        have q3 : (j : Int) < (c : Int) := by omega
        have q4 : ((j : Int) + 1).toNat = j + 1 := by omega
        by_cases hx : x < 0
        · obtain rfl : false = b := by rw [← HR2, decide_eq_false (fun q => by have := (hstep.1 q).1; omega)]
          have e1 : decide (x < 0) = true := decide_eq_true hx
          clear hstep HR2 HR
          go_wp2
          go_quiet (fail)
          go_wp2
          go_ret
          exact ⟨rfl, bnext HB.out (drewR _ _)⟩
        · have e1 : decide (x < 0) = false := decide_eq_false hx
          by_cases hxp : x ≤ p
          · obtain rfl : false = b := by rw [← HR2, decide_eq_false (fun q => by have := (hstep.1 q).1; omega)]
            have e2 : decide (x ≤ p) = true := decide_eq_true hxp
            clear hstep HR2 HR
            go_wp2
            go_quiet (fail)
            go_wp2
            go_ret
            exact ⟨rfl, bnext HB.out (drewR _ _)⟩
          · have e2 : decide (x ≤ p) = false := decide_eq_false hxp
            have HR3 : Hid (decide (risesAt l (j + 1 + 1)) = b) := Lib.hid (by
              rw [← HR2]
              exact decide_eq_decide.2 ⟨fun q => hstep.2 ⟨by omega, q⟩, fun q => (hstep.1 q).2⟩)
            have HP3 : Hid (0 < j + 1 + 1 → 0 ≤ l[j + 1 + 1 - 1]?.getD (0 : Int)) := Lib.hid (fun _ => by
              rw [Nat.add_sub_cancel, ← HX.out]
              omega)
            clear hstep HR2 HR
            go_wp2
            go_quiet (fail)
            go_wp2
            go_roundw
            case rel => exact ⟨j + 1 + 1, by omega, by go_num, Lib.hid (bnext HB.out (drewR _ _)), HR3, HP3⟩
            case measure => simp [intOf]; omega
    · obtain rfl : i = N := by omega
      obtain rfl : true = b := by
        have hr : risesAt l i := by
          unfold risesAt
          rw [List.drop_eq_nil_of_le (by rw [hN'.out]; exact Nat.le_refl _)]
          trivial
        rw [← HR.out]
        exact (decide_eq_true hr).symm
      clear hlt
      go_wp2
      go_ret
      exact ⟨rfl, HB.out⟩

end Go.Proofs.Ytldljohholgmoaa
