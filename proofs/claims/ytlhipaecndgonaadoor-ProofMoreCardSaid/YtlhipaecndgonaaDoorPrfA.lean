/-
  What proof's takes, puts, behind, isFrom and ways answer, in whatever memory. No conditions but those that stand there.
-/
import Derived.Test.YtlhipaecndgonaaDoorPrfP
import Derived.Test.YtlhipaecndgonaaDoorIntS
import Derived.WalkKit
import Derived.WalkSpells
import Derived.WalkLawsBesides
import Derived.WalkSmall
import Derived.Lib.Hide
import Derived.Deep.DeepMust
namespace Go.Proofs.YtlhipaecndgonaaDoor
open Go.RowKit

theorem op_cases (op : Int) : op < 1 ∨ 17 < op ∨ op = 1 ∨ op = 2 ∨ op = 3 ∨ op = 4 ∨ op = 5 ∨ op = 6 ∨ op = 7 ∨ op = 8 ∨ op = 9 ∨ op = 10 ∨ op = 11 ∨ op = 12 ∨ op = 13 ∨ op = 14 ∨ op = 15 ∨ op = 16 ∨ op = 17 := by omega

theorem offN_low {op : Int} (h : op < 1) : offN op = 0 := by unfold offN; rw [if_neg (by omega), if_neg (by omega)]
theorem offN_high {op : Int} (h : 17 < op) : offN op = 0 := by unfold offN; rw [if_neg (by omega), if_neg (by omega)]
theorem onN_low {op : Int} (h : op < 1) : onN op = 0 := by unfold onN; rw [if_neg (by omega), if_neg (by omega)]
theorem onN_high {op : Int} (h : 17 < op) : onN op = 0 := by unfold onN; rw [if_neg (by omega), if_neg (by omega)]

theorem ptakes_any (op : Int) (w : World) : Calls Tryd.prog 33 #[.int .i64 op] w fun e w' => e = .returned (.int .i64 (offN op : Nat)) ∧ w = w' := by
  rcases op_cases op with h | h | rfl | rfl | rfl | rfl | rfl | rfl | rfl | rfl | rfl | rfl | rfl | rfl | rfl | rfl | rfl | rfl | rfl
  all_goals
    (try rw [offN_low h])
    (try rw [offN_high h])
    go_enter Tryd.func33, Tryd.ntmps33
    go_wp2
    go_ret
    exact ⟨rfl, rfl⟩

theorem pputs_any (op : Int) (w : World) : Calls Tryd.prog 34 #[.int .i64 op] w fun e w' => e = .returned (.int .i64 (onN op : Nat)) ∧ w = w' := by
  rcases op_cases op with h | h | rfl | rfl | rfl | rfl | rfl | rfl | rfl | rfl | rfl | rfl | rfl | rfl | rfl | rfl | rfl | rfl | rfl
  all_goals
    (try rw [onN_low h])
    (try rw [onN_high h])
    go_enter Tryd.func34, Tryd.ntmps34
    go_wp2
    go_ret
    exact ⟨rfl, rfl⟩

theorem behind_low (op d : Int) (h : d < offN op) (w : World) : Calls Tryd.prog 25 #[.int .i64 op, .int .i64 d] w fun e w' => e = .returned (.tuple #[.int .i64 0, .int .i64 7]) ∧ w = w' := by
  have ht : Hid (∀ W : World, _) := Lib.hid (fun W => ptakes_any op W)
  generalize offN op = f at *
  go_enter Tryd.func25, Tryd.ntmps25
  go_wp2_with (go_at_call 33; go_must ((with_reducible refine (ht.out _).mono ?_); rintro e w1 ⟨rfl, rfl⟩))
  go_ret2
  exact ⟨rfl, rfl⟩

theorem behind_main (op d : Int) (h : (offN op : Int) ≤ d) (h8 : d ≤ 8) (b : Bool) (hb : decide (8 < d - offN op + onN op) = b) (w : World) :
    Calls Tryd.prog 25 #[.int .i64 op, .int .i64 d] w fun e w' => e = .returned (.tuple #[.int .i64 (if b then 0 else d - offN op + onN op), .int .i64 (if b then 7 else 0)]) ∧ w = w' := by
  have ht : Hid (∀ W : World, _) := Lib.hid (fun W => ptakes_any op W)
  have hp : Hid (∀ W : World, _) := Lib.hid (fun W => pputs_any op W)
  have h2 := on_off op
  generalize offN op = f at *
  generalize onN op = p at *
  obtain ⟨z, hz⟩ : ∃ z, z = d - (f : Int) + (p : Int) := ⟨_, rfl⟩
  have hz' := Lib.hid hz
  rw [← hz] at hb ⊢
  have e1 : d + ((p : Int) - (f : Int)) = z := by omega
  cases b with
  | true =>
    have hz8 : 8 < z := of_decide_eq_true hb
    clear hb hz
    go_enter Tryd.func25, Tryd.ntmps25
    go_wp2_with (first
      | (go_at_call 33; go_must ((with_reducible refine (ht.out _).mono ?_); rintro e w1 ⟨rfl, rfl⟩))
      | (go_at_call 34; go_must ((with_reducible refine (hp.out _).mono ?_); rintro e w1 ⟨rfl, rfl⟩)))
    go_ret2
    exact ⟨rfl, rfl⟩
  | false =>
    have hz8 : ¬ 8 < z := of_decide_eq_false hb
    clear hb hz
    go_enter Tryd.func25, Tryd.ntmps25
    go_wp2_with (first
      | (go_at_call 33; go_must ((with_reducible refine (ht.out _).mono ?_); rintro e w1 ⟨rfl, rfl⟩))
      | (go_at_call 34; go_must ((with_reducible refine (hp.out _).mono ?_); rintro e w1 ⟨rfl, rfl⟩)))
    go_ret2
    exact ⟨rfl, rfl⟩

theorem isFrom_any (a b n : Int) (w : World) : Calls Tryd.prog 19 #[.int .i64 a, .int .i64 b, .int .i64 n] w fun e w' => e = .returned (.bool (decide (a ≤ n ∧ n ≤ b))) ∧ w = w' := by
  by_cases h1 : a ≤ n
  · by_cases h2 : n ≤ b
    · rw [decide_eq_true ⟨h1, h2⟩]
      go_enter Tryd.func19, Tryd.ntmps19
      go_wp2
      go_ret
      exact ⟨rfl, rfl⟩
    · rw [decide_eq_false (show ¬ (a ≤ n ∧ n ≤ b) from fun h => h2 h.2)]
      go_enter Tryd.func19, Tryd.ntmps19
      go_wp2
      go_ret
      exact ⟨rfl, rfl⟩
  · rw [decide_eq_false (show ¬ (a ≤ n ∧ n ≤ b) from fun h => h1 h.1)]
    go_enter Tryd.func19, Tryd.ntmps19
    go_wp2
    go_ret
    exact ⟨rfl, rfl⟩

theorem Ints.below {w w' : World} {A : Option Addr} {c : Nat} {l : List Int} (h : Ints w A c l) (hb : Below w.heap.size w w') : Ints w' A c l := Sl.below h hb

theorem ints_new (l : List Int) (w : World) : Ints (w.alloc (.cells (l.map (.int .i64)).toArray 3)) (some ⟨w.heap.size, 0, none⟩) l.length l := by
  have hk := Bk.new w 3 (l.map (.int .i64)).toArray
  refine ⟨by simp, Nat.le_refl _, fun h => (by cases h), fun _ => ⟨_, _, rfl, hk.lt, fun j _ => ?_⟩⟩
  rw [hk.cell]
  simp

theorem ways_end (x : Ins) (h : x.op = 16 ∨ x.op = 17) : waysN x = [] := by rw [waysN, if_pos h]
theorem ways_go (x : Ins) (h : x.op = 14) : waysN x = [x.a] := by rw [waysN, if_neg (by omega), if_pos h]
theorem ways_skip (x : Ins) (h : x.op = 13) : waysN x = [0, x.a] := by rw [waysN, if_neg (by omega), if_neg (by omega), if_pos h]
theorem ways_else (x : Ins) (h : x.op ≠ 13 ∧ x.op ≠ 14 ∧ x.op ≠ 16 ∧ x.op ≠ 17) : waysN x = [0] := by rw [waysN, if_neg (by omega), if_neg (by omega), if_neg (by omega)]

theorem wayCases (op : Int) : op = 16 ∨ op = 17 ∨ op = 14 ∨ op = 13 ∨ (op ≠ 13 ∧ op ≠ 14 ∧ op ≠ 16 ∧ op ≠ 17) := by omega

/-- what ways answers: a slice of them, in memory that is new, or none at all. -/
theorem ways_any (x : Ins) (w : World) : Calls Tryd.prog 26 #[.agg #[.int .i64 x.op, .int .i64 x.a, .int .i64 x.b]] w fun e w' => ∃ A, e = .returned (.slice A (waysN x).length (waysN x).length) ∧ Ints w' A (waysN x).length (waysN x) ∧ (∀ b off, A = some ⟨b, off, none⟩ → w.heap.size ≤ b) ∧ Below w.heap.size w w' := by
  obtain ⟨op, a, b⟩ := x
  have hnew : ∀ l : List Int, Below w.heap.size w ((w.alloc (.cells #[.int .i64 op, .int .i64 a, .int .i64 b] 35)).alloc (.cells (l.map (.int .i64)).toArray 3)) := fun l => ((Below.refl _ _).alloc (Nat.le_refl _) _).alloc (by rw [World.size_alloc]; omega) _
  have hi : ∀ l : List Int, Ints ((w.alloc (.cells #[.int .i64 op, .int .i64 a, .int .i64 b] 35)).alloc (.cells (l.map (.int .i64)).toArray 3)) (some ⟨w.heap.size + 1, 0, none⟩) l.length l := fun l => by
    have := ints_new l (w.alloc (.cells #[.int .i64 op, .int .i64 a, .int .i64 b] 35))
    rwa [World.size_alloc] at this
  have hnil : Ints (w.alloc (.cells #[.int .i64 op, .int .i64 a, .int .i64 b] 35)) none 0 [] := ⟨rfl, Nat.le_refl _, fun _ => ⟨rfl, rfl⟩, fun h => absurd h (by simp)⟩
  have hb0 : Below w.heap.size w (w.alloc (.cells #[.int .i64 op, .int .i64 a, .int .i64 b] 35)) := (Below.refl _ _).alloc (Nat.le_refl _) _
  have hnew' := Lib.hid hnew
  have hi' := Lib.hid hi
  have hnil' := Lib.hid hnil
  have hb0' := Lib.hid hb0
  clear hnew hi hnil hb0
  show Calls Tryd.prog 26 #[.agg #[.int .i64 op, .int .i64 a, .int .i64 b]] w _
  rcases wayCases op with rfl | rfl | rfl | rfl | ⟨h1, h2, h3, h4⟩
  · rw [ways_end _ (.inl rfl)]
    go_enter Tryd.func26, Tryd.ntmps26
    go_wp2
    go_ret
    exact ⟨_, rfl, hnil'.out, by simp, hb0'.out⟩
  · rw [ways_end _ (.inr rfl)]
    go_enter Tryd.func26, Tryd.ntmps26
    go_wp2
    go_ret
    exact ⟨_, rfl, hnil'.out, by simp, hb0'.out⟩
  · rw [ways_go _ rfl]
    go_enter Tryd.func26, Tryd.ntmps26
    go_wp2
    go_ret
    exact ⟨_, rfl, hi'.out [a], fun b off h => by injection h with h; injection h with h; omega, hnew'.out [a]⟩
  · rw [ways_skip _ rfl]
    go_enter Tryd.func26, Tryd.ntmps26
    go_wp2
    go_ret
    exact ⟨_, rfl, hi'.out [0, a], fun b off h => by injection h with h; injection h with h; omega, hnew'.out [0, a]⟩
  · rw [ways_else _ ⟨h1, h2, h3, h4⟩]
    go_enter Tryd.func26, Tryd.ntmps26
    go_wp2
    go_ret
    exact ⟨_, rfl, hi'.out [0], fun b off h => by injection h with h; injection h with h; omega, hnew'.out [0]⟩

end Go.Proofs.YtlhipaecndgonaaDoor
