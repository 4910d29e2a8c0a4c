/-
  The walk of LayWrites: true, in whatever memory.
-/
import Derived.Test.YtoolgbeiphdkdaaLayW
namespace Go.Proofs.Ytoolgbeiphdkdaa
open Go.RowKit

theorem Ints.below {w w' : World} {A : Option Addr} {c : Nat} {l : List Int} (h : Ints w A c l) (hb : Below w.heap.size w w') : Ints w' A c l := Sl.below h hb

set_option maxHeartbeats 1000000 in
theorem layWrites_walk (n : Int) (l : List Int) (A : Option Addr) (c : Nat) (w : World) (hl : Ints w A c l) (hn : l.length ≤ 9223372036854775807) :
    Calls Try.prog 3 #[.int .i64 n, .slice A l.length c] w
      fun e w' => e = .returned (.bool true) ∧ Below w.heap.size w w' := by
  by_cases h300 : l.length ≤ 300
  · have hl' := Lib.hid hl
    have c1 := fun (W : World) h => nums_str l A c W h (by omega)
    have c2 := fun (W : World) h => rnums_str l A c W h (by omega)
    clear hl
    generalize l.length = N at *
    go_enter Try.func3, Try.ntmps3
    go_wp2_with (first
      | (go_at_call 8; go_must ((with_reducible refine (awake3 _).mono ?_); rintro e w1 ⟨rfl, hb1⟩))
      | (go_at_call 9; go_must ((with_reducible refine (num_str n _).mono ?_); rintro e w2 ⟨rfl, hb2⟩))
      | (go_at_call 10; go_must ((with_reducible refine (rnum_str n _).mono ?_); rintro e w3 ⟨rfl, hb3⟩; have hb13 := bnext (bnext hb1 hb2) hb3))
      | (go_at_call 11; go_must ((with_reducible refine (c1 _ (hl'.out.below hb13)).mono ?_); rintro e w4 ⟨rfl, hb4⟩; have hb14 := bnext hb13 hb4))
      | (go_at_call 12; go_must ((with_reducible refine (c2 _ (hl'.out.below hb14)).mono ?_); rintro e w5 ⟨rfl, hb5⟩)))
    go_ret
    exact ⟨by simp, bnext hb14 hb5⟩
  · have h300' : (300 : Int) < (l.length : Int) := by omega
    generalize l.length = N at *
    go_enter Try.func3, Try.ntmps3
    go_wp2_with (go_at_call 8; go_must ((with_reducible refine (awake3 _).mono ?_); rintro e w1 ⟨rfl, hb1⟩))
    go_ret
    exact ⟨rfl, hb1⟩

end Go.Proofs.Ytoolgbeiphdkdaa
