/-
  What machine.made and the reference's two of layer 10 answer, in whatever memory. No conditions but that the kind is one of the six.
-/
import Derived.Test.YtibmfhmeoohdeaaZMchC
namespace Go.Proofs.Ytibmfhmeoohdeaa
open Go.RowKit

/-- what two numbers make, and the error. -/
def madeV (op a b : Int) : Value := match twoN op a b with
  | some n => .tuple #[.int .i64 n, .int .i64 0]
  | none => .tuple #[.int .i64 0, .int .i64 12]

theorem made_any (op a b : Int) (h : 7 ≤ op ∧ op ≤ 12) (w : World) : Calls Try.prog 57 #[.int .i64 op, .int .i64 a, .int .i64 b] w fun e w' => e = .returned (madeV op a b) ∧ w = w' := by
  have h1 : Hid (∀ W : World, Calls Try.prog 60 #[.bool true] W fun e w' => e = .returned (.int .i64 1) ∧ W = w') := Lib.hid (fun W => truth_any true W)
  have h0 : Hid (∀ W : World, Calls Try.prog 60 #[.bool false] W fun e w' => e = .returned (.int .i64 0) ∧ W = w') := Lib.hid (fun W => truth_any false W)
  rcases (show op = 7 ∨ op = 8 ∨ op = 9 ∨ op = 10 ∨ op = 11 ∨ op = 12 by omega) with rfl | rfl | rfl | rfl | rfl | rfl
  · go_enter Try.func57, Try.ntmps57
    go_wp2
    go_ret2
    exact ⟨rfl, rfl⟩
  · go_enter Try.func57, Try.ntmps57
    go_wp2
    go_ret2
    exact ⟨rfl, rfl⟩
  · go_enter Try.func57, Try.ntmps57
    go_wp2
    go_ret2
    exact ⟨rfl, rfl⟩
  · by_cases hb : b = 0
    · subst hb
      go_enter Try.func57, Try.ntmps57
      go_wp2
      go_ret2
      exact ⟨rfl, rfl⟩
    · have hb' : (b == 0) = false := by simpa using hb
      have hm : Hid (madeV 10 a b = .tuple #[.int .i64 (wrap64 (a.tdiv b)), .int .i64 0]) := Lib.hid (by simp [madeV, twoN, hb])
      go_enter Try.func57, Try.ntmps57
      go_wp2
      go_ret2
      exact ⟨by rw [hm.out]; rfl, rfl⟩
  · by_cases hc : a < b
    · have hm : Hid (madeV 11 a b = .tuple #[.int .i64 1, .int .i64 0]) := Lib.hid (by simp [madeV, twoN, hc])
      go_enter Try.func57, Try.ntmps57
      go_wp2_with (go_at_call 60; go_must ((with_reducible refine (h1.out _).mono ?_); rintro e w1 ⟨rfl, rfl⟩))
      go_ret2
      exact ⟨by rw [hm.out]; rfl, rfl⟩
    · have hm : Hid (madeV 11 a b = .tuple #[.int .i64 0, .int .i64 0]) := Lib.hid (by simp [madeV, twoN, hc])
      go_enter Try.func57, Try.ntmps57
      go_wp2_with (go_at_call 60; go_must ((with_reducible refine (h0.out _).mono ?_); rintro e w1 ⟨rfl, rfl⟩))
      go_ret2
      exact ⟨by rw [hm.out]; rfl, rfl⟩
  · by_cases hc : a = b
    · have hm : Hid (madeV 12 a b = .tuple #[.int .i64 1, .int .i64 0]) := Lib.hid (by simp [madeV, twoN, hc])
      have hd : (a == b) = true := by simpa using hc
      clear hc
      go_enter Try.func57, Try.ntmps57
      go_wp2_with (go_at_call 60; go_must ((with_reducible refine (h1.out _).mono ?_); rintro e w1 ⟨rfl, rfl⟩))
      go_ret2
      exact ⟨by rw [hm.out]; rfl, rfl⟩
    · have hm : Hid (madeV 12 a b = .tuple #[.int .i64 0, .int .i64 0]) := Lib.hid (by simp [madeV, twoN, hc])
      have hd : (a == b) = false := by simpa using hc
      clear hc
      go_enter Try.func57, Try.ntmps57
      go_wp2_with (go_at_call 60; go_must ((with_reducible refine (h0.out _).mono ?_); rintro e w1 ⟨rfl, rfl⟩))
      go_ret2
      exact ⟨by rw [hm.out]; rfl, rfl⟩

end Go.Proofs.Ytibmfhmeoohdeaa
