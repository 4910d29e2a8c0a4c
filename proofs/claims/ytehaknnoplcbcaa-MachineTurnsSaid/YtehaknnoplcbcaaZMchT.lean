/-
  MachineTwos, walked: true of any two numbers and any byte, in whatever memory.
-/
import Derived.Test.YtehaknnoplcbcaaZMchY
namespace Go.Proofs.Ytehaknnoplcbcaa
open Go.RowKit

def codeT (a b k : Int) : List Ins := [⟨1, a, 0⟩, ⟨1, b, 0⟩, ⟨k, 0, 0⟩, ⟨15, 0, 0⟩, ⟨17, 0, 0⟩]
def cmdT (a b k : Int) : Cmd := ⟨[], [], [], 9, codeT a b k⟩

theorem fitI_push (c : Cmd) (a b : Int) (m : Mac) (own : Blks) : FitI c ⟨1, a, b⟩ m own :=
  ⟨(show (1 : Int) ≤ 1 ∧ (1 : Int) ≤ 17 by decide), fun h => absurd h (show ¬ ((1 : Int) = 2 ∨ (1 : Int) = 3) by decide), fun h => absurd h (show ¬ ((1 : Int) = 4 ∨ (1 : Int) = 5) by decide), fun h => absurd h (show ¬ (1 : Int) = 6 by decide), fun h => absurd h (show ¬ ((1 : Int) = 13 ∨ (1 : Int) = 14) by decide), Nat.zero_le _⟩
theorem fitI_two (c : Cmd) (k : Int) (hk : 7 ≤ k ∧ k ≤ 12) (a b : Int) (m : Mac) (own : Blks) (h : 2 ≤ m.stack.length) : FitI c ⟨k, a, b⟩ m own :=
  ⟨by simp only; omega, fun h => by simp only at h; omega, fun h => by simp only at h; omega, fun h => by simp only at h; omega, fun h => by simp only at h; omega, by unfold offN; simp only; split <;> omega⟩

theorem stepsT1 (a b k : Int) : stepsM (cmdT a b k) 1 (newM (cmdT a b k), []) = (⟨1, 8, [a], [0, 0, 0, 0], [], false, 0⟩, []) := rfl
theorem stepsT2 (a b k : Int) : stepsM (cmdT a b k) 2 (newM (cmdT a b k), []) = (⟨2, 7, [a, b], [0, 0, 0, 0], [], false, 0⟩, []) := rfl
theorem fitT (a b k : Int) (hk : 7 ≤ k ∧ k ≤ 12) : ∀ n, n < 3 → Fit (cmdT a b k) (stepsM (cmdT a b k) n (newM (cmdT a b k), [])).1 (stepsM (cmdT a b k) n (newM (cmdT a b k), [])).2 := by
  intro n hn
  rcases (show n = 0 ∨ n = 1 ∨ n = 2 by omega) with rfl | rfl | rfl
  · exact ⟨(show (0 : Int) ≤ 9 ∧ (9 : Int) ≤ 1000 by decide), (show 0 ≤ 100 by decide), (show 0 ≤ 100 by decide), rfl, (fun _ h => by cases h), (show 0 ≤ 100 by decide), fun _ _ => ⟨(show (0 : Int) ≤ 0 by decide), (show (0 : Int) < 5 by decide), (show 5 ≤ 1000 by decide), fitI_push _ _ _ _ _⟩⟩
  · rw [stepsT1]
    exact ⟨(show (0 : Int) ≤ 8 ∧ (8 : Int) ≤ 1000 by decide), (show 1 ≤ 100 by decide), (show 0 ≤ 100 by decide), rfl, (fun _ h => by cases h), (show 0 ≤ 100 by decide), fun _ _ => ⟨(show (0 : Int) ≤ 1 by decide), (show (1 : Int) < 5 by decide), (show 5 ≤ 1000 by decide), fitI_push _ _ _ _ _⟩⟩
  · rw [stepsT2]
    exact ⟨(show (0 : Int) ≤ 7 ∧ (7 : Int) ≤ 1000 by decide), (show 2 ≤ 100 by decide), (show 0 ≤ 100 by decide), rfl, (fun _ h => by cases h), (show 0 ≤ 100 by decide), fun _ _ => ⟨(show (0 : Int) ≤ 2 by decide), (show (2 : Int) < 5 by decide), (show 5 ≤ 1000 by decide), fitI_two _ _ hk _ _ _ _ (show 2 ≤ 2 by decide)⟩⟩

/-- what went answers, its numbers written out. -/
def WLit (pc fuel : Int) (st : List Int) (r0 r1 r2 r3 : Int) (ou : List Int) (ov : Bool) (e0 : Int) (own : Blks) (w : World) (e : Ending) (w' : World) : Prop :=
  ∃ sA sn sc oA on oc bA bn bc, e = .returned (.tuple #[.agg (mC pc fuel (.slice sA sn sc) r0 r1 r2 r3 (.slice oA on oc) ov e0), .slice bA bn bc]) ∧ MIn w' st ou own sA sn sc oA on oc bA bn bc ∧ Below w.heap.size w w'

theorem nilB (w : World) : Sl w 8 none 0 0 (blksW []) := ⟨rfl, Nat.le_refl _, fun _ => ⟨rfl, rfl⟩, fun h => absurd h (by omega)⟩

abbrev tC (q : Nat) : Array Value := #[.slice none 0 0, .slice none 0 0, .slice none 0 0, .int .i64 9, .slice (some ⟨q, 0, none⟩) 5 5]
abbrev tcC (a b k : Int) : Array Value := #[.int .i64 1, .int .i64 a, .int .i64 0, .int .i64 1, .int .i64 b, .int .i64 0, .int .i64 k, .int .i64 0, .int .i64 0, .int .i64 15, .int .i64 0, .int .i64 0, .int .i64 17, .int .i64 0, .int .i64 0]
abbrev kinds6 : Obj := .cells #[.int .i64 7, .int .i64 8, .int .i64 9, .int .i64 10, .int .i64 11, .int .i64 12] 41
abbrev tW (a b k : Int) (w : World) : World := ((w.alloc kinds6).alloc (.cells (tcC a b k) 43)).alloc (.cells (tC (w.heap.size + 1)) 25)

theorem tW_in (a b k : Int) (w : World) : CmIn (tW a b k w) (cmdT a b k) none 0 0 none 0 0 none 0 0 (some ⟨w.heap.size + 1, 0, none⟩) 5 5 ∧ Below w.heap.size w (tW a b k w) := by
  have k1 := inss_new (codeT a b k) (w.alloc kinds6)
  rw [World.size_alloc] at k1
  have nil : ∀ W : World, Ints W none 0 [] := fun W => ⟨rfl, Nat.le_refl _, fun _ => ⟨rfl, rfl⟩, fun h => absurd h (by simp)⟩
  exact ⟨⟨rfl, rfl, rfl, rfl, nil _, nil _, nil _, Inss.below k1 (below_alloc1 _ _), by decide, by decide, by decide, by decide⟩, bnext (bnext (below_alloc1 _ _) (below_alloc1 _ _)) (below_alloc1 _ _)⟩

theorem wentT (a b k : Int) (hk : 7 ≤ k ∧ k ≤ 12) (w : World) (pc fuel : Int) (st : List Int) (ou : List Int) (ov : Bool) (e0 : Nat) (h : stepsM (cmdT a b k) 3 (newM (cmdT a b k), []) = (⟨pc, fuel, st, [0, 0, 0, 0], ou, ov, e0⟩, [])) :
    Calls Try.prog 17 #[.agg (tC (w.heap.size + 1)), .slice none 0 0, .int .i64 3] (tW a b k w) (WLit pc fuel st 0 0 0 0 ou ov e0 [] (tW a b k w)) := by
  have := went_any none 0 0 none 0 0 none 0 0 (some ⟨w.heap.size + 1, 0, none⟩) 5 5 (cmdT a b k) [] 3 none 0 0 (tW a b k w) (tW_in a b k w).1 (nilB _) (by decide) (fitT a b k hk)
  rw [h] at this
  exact this

set_option maxHeartbeats 1000000 in
theorem twos_add (a b op : Int) (ho : 0 ≤ op ∧ op ≤ 255) (hq : op % 6 = 0) (w : World) : Calls Try.prog 6 #[.int .i64 a, .int .i64 b, .int .u8 op] w fun e w' => e = .returned (.bool true) ∧ Below w.heap.size w w' := by
  have hw := Lib.hid (wentT a b 7 (by decide) w 3 6 [wrap64 (a + b)] [] false 0 rfl)
  have BW := Lib.hid (tW_in a b 7 w).2
  have aw := Lib.hid (fun W => awake10 W)
  go_enter Try.func6, Try.ntmps6
  go_wp2_with (first
    | (go_at_call 17; go_must ((with_reducible refine hw.out.mono ?_); rintro e w1 ⟨sA, sn, sc, oA, on, oc, bA, bn, bc, rfl, m, hb⟩; obtain ⟨rfl, rfl, rfl⟩ : sn = 1 ∧ on = 0 ∧ bn = 0 := m.lens (fun _ h => by cases h); have B1 := Lib.hid (bnext (bnext BW.out hb) (var_below w1 (mC 3 6 (.slice sA 1 sc) 0 0 0 0 (.slice oA 0 oc) false 0))); have M1 := Lib.hid (m.below (var_below w1 (mC 3 6 (.slice sA 1 sc) 0 0 0 0 (.slice oA 0 oc) false 0))); have K1 := Lib.hid (var_bk w1 (mC 3 6 (.slice sA 1 sc) 0 0 0 0 (.slice oA 0 oc) false 0)); have N1 := Lib.hid (Bk.new w1 32 mZ); clear m hb))
    | (with_reducible refine st_mach w1.heap.size N1.out rfl rfl _ _ rfl rfl rfl rfl ?_)
    | (go_at_call 10; go_must ((with_reducible refine (aw.out _).mono ?_); rintro e w2 ⟨rfl, hb2⟩; have B2 := Lib.hid (bnext B1.out hb2); have kl := (K1.out.below hb2).lt; have t8 : w2.cell? ⟨w1.heap.size, 8, none⟩ = some (.bool false) := (K1.out.below hb2).cell 8; obtain ⟨g, off, rfl, hg, hv⟩ := (M1.out.below hb2).st.int (j := 0) (by decide); have t2 : w2.cell? ⟨w1.heap.size, 2, none⟩ = some (.slice (some ⟨g, off, none⟩) 1 sc) := (K1.out.below hb2).cell 2; have hv' : w2.cell? ⟨g, off, none⟩ = some (.int .i64 (wrap64 (a + b))) := hv; clear hv hb2)))
  go_ret
  exact ⟨rfl, B2.out⟩

set_option maxHeartbeats 1000000 in
theorem twos_sub (a b op : Int) (ho : 0 ≤ op ∧ op ≤ 255) (hq : op % 6 = 1) (w : World) : Calls Try.prog 6 #[.int .i64 a, .int .i64 b, .int .u8 op] w fun e w' => e = .returned (.bool true) ∧ Below w.heap.size w w' := by
  have hw := Lib.hid (wentT a b 8 (by decide) w 3 6 [wrap64 (a - b)] [] false 0 rfl)
  have BW := Lib.hid (tW_in a b 8 w).2
  have aw := Lib.hid (fun W => awake10 W)
  go_enter Try.func6, Try.ntmps6
  go_wp2_with (first
    | (go_at_call 17; go_must ((with_reducible refine hw.out.mono ?_); rintro e w1 ⟨sA, sn, sc, oA, on, oc, bA, bn, bc, rfl, m, hb⟩; obtain ⟨rfl, rfl, rfl⟩ : sn = 1 ∧ on = 0 ∧ bn = 0 := m.lens (fun _ h => by cases h); have B1 := Lib.hid (bnext (bnext BW.out hb) (var_below w1 (mC 3 6 (.slice sA 1 sc) 0 0 0 0 (.slice oA 0 oc) false 0))); have M1 := Lib.hid (m.below (var_below w1 (mC 3 6 (.slice sA 1 sc) 0 0 0 0 (.slice oA 0 oc) false 0))); have K1 := Lib.hid (var_bk w1 (mC 3 6 (.slice sA 1 sc) 0 0 0 0 (.slice oA 0 oc) false 0)); have N1 := Lib.hid (Bk.new w1 32 mZ); clear m hb))
    | (with_reducible refine st_mach w1.heap.size N1.out rfl rfl _ _ rfl rfl rfl rfl ?_)
    | (go_at_call 10; go_must ((with_reducible refine (aw.out _).mono ?_); rintro e w2 ⟨rfl, hb2⟩; have B2 := Lib.hid (bnext B1.out hb2); have kl := (K1.out.below hb2).lt; have t8 : w2.cell? ⟨w1.heap.size, 8, none⟩ = some (.bool false) := (K1.out.below hb2).cell 8; obtain ⟨g, off, rfl, hg, hv⟩ := (M1.out.below hb2).st.int (j := 0) (by decide); have t2 : w2.cell? ⟨w1.heap.size, 2, none⟩ = some (.slice (some ⟨g, off, none⟩) 1 sc) := (K1.out.below hb2).cell 2; have hv' : w2.cell? ⟨g, off, none⟩ = some (.int .i64 (wrap64 (a - b))) := hv; clear hv hb2)))
  go_ret
  exact ⟨rfl, B2.out⟩

set_option maxHeartbeats 1000000 in
theorem twos_mul (a b op : Int) (ho : 0 ≤ op ∧ op ≤ 255) (hq : op % 6 = 2) (w : World) : Calls Try.prog 6 #[.int .i64 a, .int .i64 b, .int .u8 op] w fun e w' => e = .returned (.bool true) ∧ Below w.heap.size w w' := by
  have hw := Lib.hid (wentT a b 9 (by decide) w 3 6 [wrap64 (a * b)] [] false 0 rfl)
  have BW := Lib.hid (tW_in a b 9 w).2
  have aw := Lib.hid (fun W => awake10 W)
  go_enter Try.func6, Try.ntmps6
  go_wp2_with (first
    | (go_at_call 17; go_must ((with_reducible refine hw.out.mono ?_); rintro e w1 ⟨sA, sn, sc, oA, on, oc, bA, bn, bc, rfl, m, hb⟩; obtain ⟨rfl, rfl, rfl⟩ : sn = 1 ∧ on = 0 ∧ bn = 0 := m.lens (fun _ h => by cases h); have B1 := Lib.hid (bnext (bnext BW.out hb) (var_below w1 (mC 3 6 (.slice sA 1 sc) 0 0 0 0 (.slice oA 0 oc) false 0))); have M1 := Lib.hid (m.below (var_below w1 (mC 3 6 (.slice sA 1 sc) 0 0 0 0 (.slice oA 0 oc) false 0))); have K1 := Lib.hid (var_bk w1 (mC 3 6 (.slice sA 1 sc) 0 0 0 0 (.slice oA 0 oc) false 0)); have N1 := Lib.hid (Bk.new w1 32 mZ); clear m hb))
    | (with_reducible refine st_mach w1.heap.size N1.out rfl rfl _ _ rfl rfl rfl rfl ?_)
    | (go_at_call 10; go_must ((with_reducible refine (aw.out _).mono ?_); rintro e w2 ⟨rfl, hb2⟩; have B2 := Lib.hid (bnext B1.out hb2); have kl := (K1.out.below hb2).lt; have t8 : w2.cell? ⟨w1.heap.size, 8, none⟩ = some (.bool false) := (K1.out.below hb2).cell 8; obtain ⟨g, off, rfl, hg, hv⟩ := (M1.out.below hb2).st.int (j := 0) (by decide); have t2 : w2.cell? ⟨w1.heap.size, 2, none⟩ = some (.slice (some ⟨g, off, none⟩) 1 sc) := (K1.out.below hb2).cell 2; have hv' : w2.cell? ⟨g, off, none⟩ = some (.int .i64 (wrap64 (a * b))) := hv; clear hv hb2)))
  go_ret
  exact ⟨rfl, B2.out⟩

set_option maxHeartbeats 1000000 in
theorem twos_zero (a b op : Int) (ho : 0 ≤ op ∧ op ≤ 255) (hq : op % 6 = 3) (hb : b = 0) (w : World) : Calls Try.prog 6 #[.int .i64 a, .int .i64 b, .int .u8 op] w fun e w' => e = .returned (.bool true) ∧ Below w.heap.size w w' := by
  have hw := Lib.hid (wentT a b 10 (by decide) w 3 6 [a, b] [] true 12 (by subst hb; rfl))
  have BW := Lib.hid (tW_in a b 10 w).2
  have aw := Lib.hid (fun W => awake10 W)
  subst hb
  go_enter Try.func6, Try.ntmps6
  go_wp2_with (first
    | (go_at_call 17; go_must ((with_reducible refine hw.out.mono ?_); rintro e w1 ⟨sA, sn, sc, oA, on, oc, bA, bn, bc, rfl, m, hb⟩; obtain ⟨rfl, rfl, rfl⟩ : sn = 2 ∧ on = 0 ∧ bn = 0 := m.lens (fun _ h => by cases h); have B1 := Lib.hid (bnext (bnext BW.out hb) (var_below w1 (mC 3 6 (.slice sA 2 sc) 0 0 0 0 (.slice oA 0 oc) true 12))); have M1 := Lib.hid (m.below (var_below w1 (mC 3 6 (.slice sA 2 sc) 0 0 0 0 (.slice oA 0 oc) true 12))); have K1 := Lib.hid (var_bk w1 (mC 3 6 (.slice sA 2 sc) 0 0 0 0 (.slice oA 0 oc) true 12)); have N1 := Lib.hid (Bk.new w1 32 mZ); clear m hb))
    | (with_reducible refine st_mach w1.heap.size N1.out rfl rfl _ _ rfl rfl rfl rfl ?_)
    | (go_at_call 10; go_must ((with_reducible refine (aw.out _).mono ?_); rintro e w2 ⟨rfl, hb2⟩; have B2 := Lib.hid (bnext B1.out hb2); have kl := (K1.out.below hb2).lt; have t8 : w2.cell? ⟨w1.heap.size, 8, none⟩ = some (.bool true) := (K1.out.below hb2).cell 8; have t9 : w2.cell? ⟨w1.heap.size, 9, none⟩ = some (.int .i64 12) := (K1.out.below hb2).cell 9; clear hb2)))
  go_ret
  exact ⟨rfl, B2.out⟩

set_option maxHeartbeats 1000000 in
theorem twos_div (a b op : Int) (ho : 0 ≤ op ∧ op ≤ 255) (hq : op % 6 = 3) (hb : b ≠ 0) (w : World) : Calls Try.prog 6 #[.int .i64 a, .int .i64 b, .int .u8 op] w fun e w' => e = .returned (.bool true) ∧ Below w.heap.size w w' := by
  have hw := Lib.hid (wentT a b 10 (by decide) w 3 6 [wrap64 (a.tdiv b)] [] false 0 (by
    rw [steps_succ, stepsT2]
    show doM (cmdT a b 10) ⟨10, 0, 0⟩ ⟨3, 6, [a, b], [0, 0, 0, 0], [], false, 0⟩ [] = _
    simp [doM, twoN, nextTop, topN, popN, hb]))
  have BW := Lib.hid (tW_in a b 10 w).2
  have aw := Lib.hid (fun W => awake10 W)
  have hb' : (b == 0) = false := by simpa using hb
  go_enter Try.func6, Try.ntmps6
  go_wp2_with (first
    | (go_at_call 17; go_must ((with_reducible refine hw.out.mono ?_); rintro e w1 ⟨sA, sn, sc, oA, on, oc, bA, bn, bc, rfl, m, hb⟩; obtain ⟨rfl, rfl, rfl⟩ : sn = 1 ∧ on = 0 ∧ bn = 0 := m.lens (fun _ h => by cases h); have B1 := Lib.hid (bnext (bnext BW.out hb) (var_below w1 (mC 3 6 (.slice sA 1 sc) 0 0 0 0 (.slice oA 0 oc) false 0))); have M1 := Lib.hid (m.below (var_below w1 (mC 3 6 (.slice sA 1 sc) 0 0 0 0 (.slice oA 0 oc) false 0))); have K1 := Lib.hid (var_bk w1 (mC 3 6 (.slice sA 1 sc) 0 0 0 0 (.slice oA 0 oc) false 0)); have N1 := Lib.hid (Bk.new w1 32 mZ); clear m hb))
    | (with_reducible refine st_mach w1.heap.size N1.out rfl rfl _ _ rfl rfl rfl rfl ?_)
    | (go_at_call 10; go_must ((with_reducible refine (aw.out _).mono ?_); rintro e w2 ⟨rfl, hb2⟩; have B2 := Lib.hid (bnext B1.out hb2); have kl := (K1.out.below hb2).lt; have t8 : w2.cell? ⟨w1.heap.size, 8, none⟩ = some (.bool false) := (K1.out.below hb2).cell 8; obtain ⟨g, off, rfl, hg, hv⟩ := (M1.out.below hb2).st.int (j := 0) (by decide); have t2 : w2.cell? ⟨w1.heap.size, 2, none⟩ = some (.slice (some ⟨g, off, none⟩) 1 sc) := (K1.out.below hb2).cell 2; have hv' : w2.cell? ⟨g, off, none⟩ = some (.int .i64 (wrap64 (a.tdiv b))) := hv; clear hv hb2)))
  go_ret
  exact ⟨rfl, B2.out⟩

set_option maxHeartbeats 1000000 in
theorem twos_less (a b op : Int) (ho : 0 ≤ op ∧ op ≤ 255) (hq : op % 6 = 4) (hc : a < b) (w : World) : Calls Try.prog 6 #[.int .i64 a, .int .i64 b, .int .u8 op] w fun e w' => e = .returned (.bool true) ∧ Below w.heap.size w w' := by
  have hw := Lib.hid (wentT a b 11 (by decide) w 3 6 [1] [] false 0 (by
    rw [steps_succ, stepsT2]
    show doM (cmdT a b 11) ⟨11, 0, 0⟩ ⟨3, 6, [a, b], [0, 0, 0, 0], [], false, 0⟩ [] = _
    simp [doM, twoN, nextTop, topN, popN, hc]))
  have BW := Lib.hid (tW_in a b 11 w).2
  have aw := Lib.hid (fun W => awake10 W)
  go_enter Try.func6, Try.ntmps6
  go_wp2_with (first
    | (go_at_call 17; go_must ((with_reducible refine hw.out.mono ?_); rintro e w1 ⟨sA, sn, sc, oA, on, oc, bA, bn, bc, rfl, m, hb⟩; obtain ⟨rfl, rfl, rfl⟩ : sn = 1 ∧ on = 0 ∧ bn = 0 := m.lens (fun _ h => by cases h); have B1 := Lib.hid (bnext (bnext BW.out hb) (var_below w1 (mC 3 6 (.slice sA 1 sc) 0 0 0 0 (.slice oA 0 oc) false 0))); have M1 := Lib.hid (m.below (var_below w1 (mC 3 6 (.slice sA 1 sc) 0 0 0 0 (.slice oA 0 oc) false 0))); have K1 := Lib.hid (var_bk w1 (mC 3 6 (.slice sA 1 sc) 0 0 0 0 (.slice oA 0 oc) false 0)); have N1 := Lib.hid (Bk.new w1 32 mZ); clear m hb))
    | (with_reducible refine st_mach w1.heap.size N1.out rfl rfl _ _ rfl rfl rfl rfl ?_)
    | (go_at_call 10; go_must ((with_reducible refine (aw.out _).mono ?_); rintro e w2 ⟨rfl, hb2⟩; have B2 := Lib.hid (bnext B1.out hb2); have kl := (K1.out.below hb2).lt; have t8 : w2.cell? ⟨w1.heap.size, 8, none⟩ = some (.bool false) := (K1.out.below hb2).cell 8; obtain ⟨g, off, rfl, hg, hv⟩ := (M1.out.below hb2).st.int (j := 0) (by decide); have t2 : w2.cell? ⟨w1.heap.size, 2, none⟩ = some (.slice (some ⟨g, off, none⟩) 1 sc) := (K1.out.below hb2).cell 2; have hv' : w2.cell? ⟨g, off, none⟩ = some (.int .i64 (1)) := hv; clear hv hb2)))
  go_ret
  exact ⟨rfl, B2.out⟩

set_option maxHeartbeats 1000000 in
theorem twos_more (a b op : Int) (ho : 0 ≤ op ∧ op ≤ 255) (hq : op % 6 = 4) (hc : ¬ a < b) (w : World) : Calls Try.prog 6 #[.int .i64 a, .int .i64 b, .int .u8 op] w fun e w' => e = .returned (.bool true) ∧ Below w.heap.size w w' := by
  have hw := Lib.hid (wentT a b 11 (by decide) w 3 6 [0] [] false 0 (by
    rw [steps_succ, stepsT2]
    show doM (cmdT a b 11) ⟨11, 0, 0⟩ ⟨3, 6, [a, b], [0, 0, 0, 0], [], false, 0⟩ [] = _
    simp [doM, twoN, nextTop, topN, popN, hc]))
  have BW := Lib.hid (tW_in a b 11 w).2
  have aw := Lib.hid (fun W => awake10 W)
  go_enter Try.func6, Try.ntmps6
  go_wp2_with (first
    | (go_at_call 17; go_must ((with_reducible refine hw.out.mono ?_); rintro e w1 ⟨sA, sn, sc, oA, on, oc, bA, bn, bc, rfl, m, hb⟩; obtain ⟨rfl, rfl, rfl⟩ : sn = 1 ∧ on = 0 ∧ bn = 0 := m.lens (fun _ h => by cases h); have B1 := Lib.hid (bnext (bnext BW.out hb) (var_below w1 (mC 3 6 (.slice sA 1 sc) 0 0 0 0 (.slice oA 0 oc) false 0))); have M1 := Lib.hid (m.below (var_below w1 (mC 3 6 (.slice sA 1 sc) 0 0 0 0 (.slice oA 0 oc) false 0))); have K1 := Lib.hid (var_bk w1 (mC 3 6 (.slice sA 1 sc) 0 0 0 0 (.slice oA 0 oc) false 0)); have N1 := Lib.hid (Bk.new w1 32 mZ); clear m hb))
    | (with_reducible refine st_mach w1.heap.size N1.out rfl rfl _ _ rfl rfl rfl rfl ?_)
    | (go_at_call 10; go_must ((with_reducible refine (aw.out _).mono ?_); rintro e w2 ⟨rfl, hb2⟩; have B2 := Lib.hid (bnext B1.out hb2); have kl := (K1.out.below hb2).lt; have t8 : w2.cell? ⟨w1.heap.size, 8, none⟩ = some (.bool false) := (K1.out.below hb2).cell 8; obtain ⟨g, off, rfl, hg, hv⟩ := (M1.out.below hb2).st.int (j := 0) (by decide); have t2 : w2.cell? ⟨w1.heap.size, 2, none⟩ = some (.slice (some ⟨g, off, none⟩) 1 sc) := (K1.out.below hb2).cell 2; have hv' : w2.cell? ⟨g, off, none⟩ = some (.int .i64 (0)) := hv; clear hv hb2)))
  go_ret
  exact ⟨rfl, B2.out⟩

set_option maxHeartbeats 1000000 in
theorem twos_same (a b op : Int) (ho : 0 ≤ op ∧ op ≤ 255) (hq : op % 6 = 5) (hc : a = b) (w : World) : Calls Try.prog 6 #[.int .i64 a, .int .i64 b, .int .u8 op] w fun e w' => e = .returned (.bool true) ∧ Below w.heap.size w w' := by
  have hw := Lib.hid (wentT a b 12 (by decide) w 3 6 [1] [] false 0 (by
    rw [steps_succ, stepsT2]
    show doM (cmdT a b 12) ⟨12, 0, 0⟩ ⟨3, 6, [a, b], [0, 0, 0, 0], [], false, 0⟩ [] = _
    simp [doM, twoN, nextTop, topN, popN, hc]))
  have BW := Lib.hid (tW_in a b 12 w).2
  have aw := Lib.hid (fun W => awake10 W)
  have hd : (a == b) = true := by simpa using hc
  clear hc
  go_enter Try.func6, Try.ntmps6
  go_wp2_with (first
    | (go_at_call 17; go_must ((with_reducible refine hw.out.mono ?_); rintro e w1 ⟨sA, sn, sc, oA, on, oc, bA, bn, bc, rfl, m, hb⟩; obtain ⟨rfl, rfl, rfl⟩ : sn = 1 ∧ on = 0 ∧ bn = 0 := m.lens (fun _ h => by cases h); have B1 := Lib.hid (bnext (bnext BW.out hb) (var_below w1 (mC 3 6 (.slice sA 1 sc) 0 0 0 0 (.slice oA 0 oc) false 0))); have M1 := Lib.hid (m.below (var_below w1 (mC 3 6 (.slice sA 1 sc) 0 0 0 0 (.slice oA 0 oc) false 0))); have K1 := Lib.hid (var_bk w1 (mC 3 6 (.slice sA 1 sc) 0 0 0 0 (.slice oA 0 oc) false 0)); have N1 := Lib.hid (Bk.new w1 32 mZ); clear m hb))
    | (with_reducible refine st_mach w1.heap.size N1.out rfl rfl _ _ rfl rfl rfl rfl ?_)
    | (go_at_call 10; go_must ((with_reducible refine (aw.out _).mono ?_); rintro e w2 ⟨rfl, hb2⟩; have B2 := Lib.hid (bnext B1.out hb2); have kl := (K1.out.below hb2).lt; have t8 : w2.cell? ⟨w1.heap.size, 8, none⟩ = some (.bool false) := (K1.out.below hb2).cell 8; obtain ⟨g, off, rfl, hg, hv⟩ := (M1.out.below hb2).st.int (j := 0) (by decide); have t2 : w2.cell? ⟨w1.heap.size, 2, none⟩ = some (.slice (some ⟨g, off, none⟩) 1 sc) := (K1.out.below hb2).cell 2; have hv' : w2.cell? ⟨g, off, none⟩ = some (.int .i64 (1)) := hv; clear hv hb2)))
  go_ret
  exact ⟨rfl, B2.out⟩

set_option maxHeartbeats 1000000 in
theorem twos_unlike (a b op : Int) (ho : 0 ≤ op ∧ op ≤ 255) (hq : op % 6 = 5) (hc : ¬ a = b) (w : World) : Calls Try.prog 6 #[.int .i64 a, .int .i64 b, .int .u8 op] w fun e w' => e = .returned (.bool true) ∧ Below w.heap.size w w' := by
  have hw := Lib.hid (wentT a b 12 (by decide) w 3 6 [0] [] false 0 (by
    rw [steps_succ, stepsT2]
    show doM (cmdT a b 12) ⟨12, 0, 0⟩ ⟨3, 6, [a, b], [0, 0, 0, 0], [], false, 0⟩ [] = _
    simp [doM, twoN, nextTop, topN, popN, hc]))
  have BW := Lib.hid (tW_in a b 12 w).2
  have aw := Lib.hid (fun W => awake10 W)
  have hd : (a == b) = false := by simpa using hc
  clear hc
  go_enter Try.func6, Try.ntmps6
  go_wp2_with (first
    | (go_at_call 17; go_must ((with_reducible refine hw.out.mono ?_); rintro e w1 ⟨sA, sn, sc, oA, on, oc, bA, bn, bc, rfl, m, hb⟩; obtain ⟨rfl, rfl, rfl⟩ : sn = 1 ∧ on = 0 ∧ bn = 0 := m.lens (fun _ h => by cases h); have B1 := Lib.hid (bnext (bnext BW.out hb) (var_below w1 (mC 3 6 (.slice sA 1 sc) 0 0 0 0 (.slice oA 0 oc) false 0))); have M1 := Lib.hid (m.below (var_below w1 (mC 3 6 (.slice sA 1 sc) 0 0 0 0 (.slice oA 0 oc) false 0))); have K1 := Lib.hid (var_bk w1 (mC 3 6 (.slice sA 1 sc) 0 0 0 0 (.slice oA 0 oc) false 0)); have N1 := Lib.hid (Bk.new w1 32 mZ); clear m hb))
    | (with_reducible refine st_mach w1.heap.size N1.out rfl rfl _ _ rfl rfl rfl rfl ?_)
    | (go_at_call 10; go_must ((with_reducible refine (aw.out _).mono ?_); rintro e w2 ⟨rfl, hb2⟩; have B2 := Lib.hid (bnext B1.out hb2); have kl := (K1.out.below hb2).lt; have t8 : w2.cell? ⟨w1.heap.size, 8, none⟩ = some (.bool false) := (K1.out.below hb2).cell 8; obtain ⟨g, off, rfl, hg, hv⟩ := (M1.out.below hb2).st.int (j := 0) (by decide); have t2 : w2.cell? ⟨w1.heap.size, 2, none⟩ = some (.slice (some ⟨g, off, none⟩) 1 sc) := (K1.out.below hb2).cell 2; have hv' : w2.cell? ⟨g, off, none⟩ = some (.int .i64 (0)) := hv; clear hv hb2)))
  go_ret
  exact ⟨rfl, B2.out⟩

theorem machineTwos_walk (a b op : Int) (ho : 0 ≤ op ∧ op ≤ 255) (w : World) : Calls Try.prog 6 #[.int .i64 a, .int .i64 b, .int .u8 op] w fun e w' => e = .returned (.bool true) ∧ Below w.heap.size w w' := by
  rcases (show op % 6 = 0 ∨ op % 6 = 1 ∨ op % 6 = 2 ∨ op % 6 = 3 ∨ op % 6 = 4 ∨ op % 6 = 5 by omega) with h | h | h | h | h | h
  · exact twos_add a b op ho h w
  · exact twos_sub a b op ho h w
  · exact twos_mul a b op ho h w
  · by_cases hb : b = 0
    · exact twos_zero a b op ho h hb w
    · exact twos_div a b op ho h hb w
  · by_cases hc : a < b
    · exact twos_less a b op ho h hc w
    · exact twos_more a b op ho h hc w
  · by_cases hc : a = b
    · exact twos_same a b op ho h hc w
    · exact twos_unlike a b op ho h hc w

end Go.Proofs.Ytehaknnoplcbcaa
