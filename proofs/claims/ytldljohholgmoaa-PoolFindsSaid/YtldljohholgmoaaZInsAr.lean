/-
  What the reference's Right of layer 6 answers, in whatever memory. No conditions but those that stand there.
-/
import Derived.Test.YtldljohholgmoaaZAsmRk
import Derived.Test.YtldljohholgmoaaQStr
import Derived.Test.YtldljohholgmoaaZWords
import Derived.Deep.DeepMust
namespace Go.Proofs.Ytldljohholgmoaa
open Go.RowKit

theorem nought_or (n : Int) : n = 0 ∨ (¬ n = 0 ∧ (n == 0) = false) := by
  by_cases h : n = 0
  · exact .inl h
  · exact .inr ⟨h, by simp [h]⟩

set_option maxHeartbeats 4000000 in
theorem insRright_any (x : Ins) (b : Bool) (hb : decide (rightN x) = b) (w : World) :
    Calls Try.prog 47 #[.agg #[.int .i64 x.op, .int .i64 x.a, .int .i64 x.b]] w fun e w' => e = .returned (.bool b) ∧ Below w.heap.size w w' := by
  have htk : Hid (∀ W : World, _) := Lib.hid (fun W => rtakes_any x.op W)
  have hr : rightN x ↔ ((1 ≤ x.op ∧ x.op ≤ 17) ∧ (0 < takesN x.op ∨ x.a = 0) ∧ (1 < takesN x.op ∨ x.b = 0)) := Iff.rfl
  have ht2 := takes_two x.op
  have hl : Below w.heap.size w (w.alloc (.cells #[.int .i64 x.op, .int .i64 x.a, .int .i64 x.b] 57)) := (Below.refl _ _).alloc (Nat.le_refl _) _
  generalize takesN x.op = tk at *
  obtain ⟨tz, htz⟩ : ∃ tz : Int, tz = tk := ⟨_, rfl⟩
  rw [← htz] at htk
  by_cases h1 : 1 ≤ x.op
  · by_cases h2 : x.op ≤ 17
    · rcases ht2 with rfl | rfl | rfl
      all_goals
        rcases nought_or x.a with ha | ⟨ha, ea⟩
        all_goals
          rcases nought_or x.b with hbb | ⟨hbb, eb⟩
          all_goals
            cases b
            all_goals
              first
                | (simp [hr, h1, h2, ha, hbb] at hb; done)
                | (first
                    | obtain rfl : tz = 0 := htz
                    | obtain rfl : tz = 1 := htz
                    | obtain rfl : tz = 2 := htz
                   clear hb hr hl
                   go_enter Try.func47, Try.ntmps47
                   go_wp2_with (go_at_call 59; go_must ((with_reducible refine (htk.out _).mono ?_); rintro e w1 ⟨rfl, rfl⟩))
                   go_ret
                   exact ⟨rfl, (Below.refl _ _).alloc (Nat.le_refl _) _⟩)
    · obtain rfl : false = b := by rw [← hb, decide_eq_false (fun h => h2 (hr.1 h).1.2)]
      clear hb hr
      go_enter Try.func47, Try.ntmps47
      go_wp2_with (go_at_call 59; go_must ((with_reducible refine (htk.out _).mono ?_); rintro e w1 ⟨rfl, rfl⟩))
      go_ret
      exact ⟨rfl, hl⟩
  · obtain rfl : false = b := by rw [← hb, decide_eq_false (fun h => h1 (hr.1 h).1.1)]
    clear hb hr
    go_enter Try.func47, Try.ntmps47
    go_wp2_with (go_at_call 59; go_must ((with_reducible refine (htk.out _).mono ?_); rintro e w1 ⟨rfl, rfl⟩))
    go_ret
    exact ⟨rfl, hl⟩

end Go.Proofs.Ytldljohholgmoaa
