/-
  MachineKeeps, walked: true of any two numbers and any two bytes, in whatever memory.
-/
import Derived.Test.YtehaknnoplcbcaaMchT
import Derived.Deep.QuietTactic
import Derived.BigQuiet
namespace Go.Proofs.Ytehaknnoplcbcaa
open Go.RowKit

def codeU (n r i : Int) : List Ins := [⟨1, n, 0⟩, ⟨3, r, 0⟩, ⟨2, r, 0⟩, ⟨5, 0, i⟩, ⟨4, 0, i⟩, ⟨15, 0, 0⟩, ⟨6, 0, 0⟩, ⟨15, 0, 0⟩, ⟨17, 0, 0⟩]
def cmdU (n arg r i : Int) : Cmd := ⟨[], [3], [arg], 20, codeU n r i⟩

theorem fitI_reg (c : Cmd) (op : Int) (hop : op = 2 ∨ op = 3) (a b : Int) (ha : 0 ≤ a ∧ a < 4) (m : Mac) (own : Blks) (h : offN op ≤ m.stack.length) : FitI c ⟨op, a, b⟩ m own :=
  ⟨by simp only; omega, fun _ => ha, fun h => by simp only at h; omega, fun h => by simp only at h; omega, fun h => by simp only at h; omega, h⟩
theorem fitI_blk (c : Cmd) (op : Int) (hop : op = 4 ∨ op = 5) (b : Int) (m : Mac) (own : Blks) (hl : own.length = 1) (h : offN op ≤ m.stack.length) : FitI c ⟨op, 0, b⟩ m own :=
  ⟨by simp only; omega, fun h => by simp only at h; omega, fun _ => by simp only; omega, fun h => by simp only at h; omega, fun h => by simp only at h; omega, h⟩
theorem fitI_emit (c : Cmd) (a b : Int) (m : Mac) (own : Blks) (h : 1 ≤ m.stack.length) : FitI c ⟨15, a, b⟩ m own :=
  ⟨(show (1 : Int) ≤ 15 ∧ (15 : Int) ≤ 17 by decide), fun h => absurd h (show ¬ ((15 : Int) = 2 ∨ (15 : Int) = 3) by decide), fun h => absurd h (show ¬ ((15 : Int) = 4 ∨ (15 : Int) = 5) by decide), fun h => absurd h (show ¬ (15 : Int) = 6 by decide), fun h => absurd h (show ¬ ((15 : Int) = 13 ∨ (15 : Int) = 14) by decide), h⟩
theorem fitI_arg (c : Cmd) (b : Int) (m : Mac) (own : Blks) (h : 0 < c.args.length) : FitI c ⟨6, 0, b⟩ m own :=
  ⟨(show (1 : Int) ≤ 6 ∧ (6 : Int) ≤ 17 by decide), fun h => absurd h (show ¬ ((6 : Int) = 2 ∨ (6 : Int) = 3) by decide), fun h => absurd h (show ¬ ((6 : Int) = 4 ∨ (6 : Int) = 5) by decide), fun _ => ⟨Int.le_refl _, by simp only; omega⟩, fun h => absurd h (show ¬ ((6 : Int) = 13 ∨ (6 : Int) = 14) by decide), Nat.zero_le _⟩
theorem fitI_end (c : Cmd) (a b : Int) (m : Mac) (own : Blks) : FitI c ⟨17, a, b⟩ m own :=
  ⟨(show (1 : Int) ≤ 17 ∧ (17 : Int) ≤ 17 by decide), fun h => absurd h (show ¬ ((17 : Int) = 2 ∨ (17 : Int) = 3) by decide), fun h => absurd h (show ¬ ((17 : Int) = 4 ∨ (17 : Int) = 5) by decide), fun h => absurd h (show ¬ (17 : Int) = 6 by decide), fun h => absurd h (show ¬ ((17 : Int) = 13 ∨ (17 : Int) = 14) by decide), Nat.zero_le _⟩

theorem put_z8 (n : Int) (i : Nat) (hi : i < 8) : (putC z8 i n).length = 8 ∧ getC (putC z8 i n) i = n ∧ (putC z8 i n)[i]?.getD 0 = n := by
  have h8 : (putC z8 i n).length = 8 := by rw [putC_length]; rfl
  have h1 : getC (putC z8 i n) i = n := by rw [getC_putC rfl, if_pos ⟨rfl, by omega, by omega⟩]
  refine ⟨h8, h1, ?_⟩
  rw [getC, if_pos ⟨by omega, by omega⟩, Int.toNat_natCast] at h1
  exact h1

abbrev uC (q : Nat) : Array Value := #[.slice none 0 0, .slice (some ⟨q, 0, none⟩) 1 1, .slice (some ⟨q + 1, 0, none⟩) 1 1, .int .i64 20, .slice (some ⟨q + 1 + 1, 0, none⟩) 9 9]
abbrev ucC (n r i : Int) : Array Value := #[.int .i64 1, .int .i64 n, .int .i64 0, .int .i64 3, .int .i64 r, .int .i64 0, .int .i64 2, .int .i64 r, .int .i64 0, .int .i64 5, .int .i64 0, .int .i64 i, .int .i64 4, .int .i64 0, .int .i64 i, .int .i64 15, .int .i64 0, .int .i64 0, .int .i64 6, .int .i64 0, .int .i64 0, .int .i64 15, .int .i64 0, .int .i64 0, .int .i64 17, .int .i64 0, .int .i64 0]

section
variable (n arg : Int) (i : Nat) (hi : i < 8)
theorem u0_1 : stepsM (cmdU n arg 0 i) 1 (newM (cmdU n arg 0 i), [z8]) = (⟨1, 19, [n], [0, 0, 0, 0], [], false, 0⟩, [z8]) := by
  rw [steps_succ]
  rfl
theorem u0_2 : stepsM (cmdU n arg 0 i) 2 (newM (cmdU n arg 0 i), [z8]) = (⟨2, 18, [], [n, 0, 0, 0], [], false, 0⟩, [z8]) := by
  rw [steps_succ, u0_1]
  rfl
theorem u0_3 : stepsM (cmdU n arg 0 i) 3 (newM (cmdU n arg 0 i), [z8]) = (⟨3, 17, [n], [n, 0, 0, 0], [], false, 0⟩, [z8]) := by
  rw [steps_succ, u0_2]
  rfl
theorem u0_4 : stepsM (cmdU n arg 0 i) 4 (newM (cmdU n arg 0 i), [z8]) = (⟨4, 16, [], [n, 0, 0, 0], [], false, 0⟩, [putC z8 i n]) := by
  rw [steps_succ, u0_3]
  rfl
theorem u0_5 (hi : i < 8) : stepsM (cmdU n arg 0 i) 5 (newM (cmdU n arg 0 i), [z8]) = (⟨5, 15, [n], [n, 0, 0, 0], [], false, 0⟩, [putC z8 i n]) := by
  rw [steps_succ, u0_4]
  show doM (cmdU n arg 0 i) ⟨4, 0, i⟩ ⟨5, 15, [], [n, 0, 0, 0], [], false, 0⟩ [putC z8 i n] = _
  have hg := (put_z8 n i hi).2.1
  simp [doM, hg]
theorem u0_6 (hi : i < 8) : stepsM (cmdU n arg 0 i) 6 (newM (cmdU n arg 0 i), [z8]) = (⟨6, 14, [], [n, 0, 0, 0], [n], false, 0⟩, [putC z8 i n]) := by
  rw [steps_succ, u0_5 n arg i hi]
  rfl
theorem u0_7 (hi : i < 8) : stepsM (cmdU n arg 0 i) 7 (newM (cmdU n arg 0 i), [z8]) = (⟨7, 13, [arg], [n, 0, 0, 0], [n], false, 0⟩, [putC z8 i n]) := by
  rw [steps_succ, u0_6 n arg i hi]
  rfl
theorem u0_8 (hi : i < 8) : stepsM (cmdU n arg 0 i) 8 (newM (cmdU n arg 0 i), [z8]) = (⟨8, 12, [], [n, 0, 0, 0], [n, arg], false, 0⟩, [putC z8 i n]) := by
  rw [steps_succ, u0_7 n arg i hi]
  rfl
theorem u0_9 (hi : i < 8) : stepsM (cmdU n arg 0 i) 9 (newM (cmdU n arg 0 i), [z8]) = (⟨9, 11, [], [n, 0, 0, 0], [n, arg], true, 0⟩, [putC z8 i n]) := by
  rw [steps_succ, u0_8 n arg i hi]
  rfl
theorem fitU0 (hi : i < 8) : ∀ k, k < 9 → Fit (cmdU n arg 0 i) (stepsM (cmdU n arg 0 i) k (newM (cmdU n arg 0 i), [z8])).1 (stepsM (cmdU n arg 0 i) k (newM (cmdU n arg 0 i), [z8])).2 := by
  intro k hk
  have h8 := (put_z8 n i hi).1
  rcases (show k = 0 ∨ k = 1 ∨ k = 2 ∨ k = 3 ∨ k = 4 ∨ k = 5 ∨ k = 6 ∨ k = 7 ∨ k = 8 by omega) with rfl | rfl | rfl | rfl | rfl | rfl | rfl | rfl | rfl
  · exact ⟨(show (0 : Int) ≤ 20 ∧ (20 : Int) ≤ 1000 by decide), (show 0 ≤ 100 by decide), (show 0 ≤ 100 by decide), rfl, (fun b hb => by rw [List.mem_singleton.1 hb]; rfl), (show 1 ≤ 100 by decide), fun _ _ => ⟨(show (0 : Int) ≤ 0 by decide), (show (0 : Int) < 9 by decide), (show 9 ≤ 1000 by decide), fitI_push _ _ _ _ _⟩⟩
  · rw [u0_1]
    exact ⟨(show (0 : Int) ≤ 19 ∧ (19 : Int) ≤ 1000 by decide), (show 1 ≤ 100 by decide), (show 0 ≤ 100 by decide), rfl, (fun b hb => by rw [List.mem_singleton.1 hb]; rfl), (show 1 ≤ 100 by decide), fun _ _ => ⟨(show (0 : Int) ≤ 1 by decide), (show (1 : Int) < 9 by decide), (show 9 ≤ 1000 by decide), fitI_reg _ 3 (.inr rfl) _ _ (by decide) _ _ (show 1 ≤ 1 by decide)⟩⟩
  · rw [u0_2]
    exact ⟨(show (0 : Int) ≤ 18 ∧ (18 : Int) ≤ 1000 by decide), (show 0 ≤ 100 by decide), (show 0 ≤ 100 by decide), rfl, (fun b hb => by rw [List.mem_singleton.1 hb]; rfl), (show 1 ≤ 100 by decide), fun _ _ => ⟨(show (0 : Int) ≤ 2 by decide), (show (2 : Int) < 9 by decide), (show 9 ≤ 1000 by decide), fitI_reg _ 2 (.inl rfl) _ _ (by decide) _ _ (show 0 ≤ 0 by decide)⟩⟩
  · rw [u0_3]
    exact ⟨(show (0 : Int) ≤ 17 ∧ (17 : Int) ≤ 1000 by decide), (show 1 ≤ 100 by decide), (show 0 ≤ 100 by decide), rfl, (fun b hb => by rw [List.mem_singleton.1 hb]; rfl), (show 1 ≤ 100 by decide), fun _ _ => ⟨(show (0 : Int) ≤ 3 by decide), (show (3 : Int) < 9 by decide), (show 9 ≤ 1000 by decide), fitI_blk _ 5 (.inr rfl) _ _ _ rfl (show 1 ≤ 1 by decide)⟩⟩
  · rw [u0_4]
    exact ⟨(show (0 : Int) ≤ 16 ∧ (16 : Int) ≤ 1000 by decide), (show 0 ≤ 100 by decide), (show 0 ≤ 100 by decide), rfl, (fun b hb => by rw [List.mem_singleton.1 hb]; exact h8), (show 1 ≤ 100 by decide), fun _ _ => ⟨(show (0 : Int) ≤ 4 by decide), (show (4 : Int) < 9 by decide), (show 9 ≤ 1000 by decide), fitI_blk _ 4 (.inl rfl) _ _ _ rfl (show 0 ≤ 0 by decide)⟩⟩
  · rw [u0_5 n arg i hi]
    exact ⟨(show (0 : Int) ≤ 15 ∧ (15 : Int) ≤ 1000 by decide), (show 1 ≤ 100 by decide), (show 0 ≤ 100 by decide), rfl, (fun b hb => by rw [List.mem_singleton.1 hb]; exact h8), (show 1 ≤ 100 by decide), fun _ _ => ⟨(show (0 : Int) ≤ 5 by decide), (show (5 : Int) < 9 by decide), (show 9 ≤ 1000 by decide), fitI_emit _ _ _ _ _ (show 1 ≤ 1 by decide)⟩⟩
  · rw [u0_6 n arg i hi]
    exact ⟨(show (0 : Int) ≤ 14 ∧ (14 : Int) ≤ 1000 by decide), (show 0 ≤ 100 by decide), (show 1 ≤ 100 by decide), rfl, (fun b hb => by rw [List.mem_singleton.1 hb]; exact h8), (show 1 ≤ 100 by decide), fun _ _ => ⟨(show (0 : Int) ≤ 6 by decide), (show (6 : Int) < 9 by decide), (show 9 ≤ 1000 by decide), fitI_arg _ _ _ _ (show 0 < 1 by decide)⟩⟩
  · rw [u0_7 n arg i hi]
    exact ⟨(show (0 : Int) ≤ 13 ∧ (13 : Int) ≤ 1000 by decide), (show 1 ≤ 100 by decide), (show 1 ≤ 100 by decide), rfl, (fun b hb => by rw [List.mem_singleton.1 hb]; exact h8), (show 1 ≤ 100 by decide), fun _ _ => ⟨(show (0 : Int) ≤ 7 by decide), (show (7 : Int) < 9 by decide), (show 9 ≤ 1000 by decide), fitI_emit _ _ _ _ _ (show 1 ≤ 1 by decide)⟩⟩
  · rw [u0_8 n arg i hi]
    exact ⟨(show (0 : Int) ≤ 12 ∧ (12 : Int) ≤ 1000 by decide), (show 0 ≤ 100 by decide), (show 2 ≤ 100 by decide), rfl, (fun b hb => by rw [List.mem_singleton.1 hb]; exact h8), (show 1 ≤ 100 by decide), fun _ _ => ⟨(show (0 : Int) ≤ 8 by decide), (show (8 : Int) < 9 by decide), (show 9 ≤ 1000 by decide), fitI_end _ _ _ _ _⟩⟩
end

abbrev uW0 (n arg : Int) (i q : Nat) (X : World) : World := (((X.alloc (.cells #[.int .i64 3] 3)).alloc (.cells #[.int .i64 arg] 3)).alloc (.cells (ucC n 0 i) 43)).alloc (.cells (uC q) 25)
theorem uW0_in (n arg : Int) (i q : Nat) (X : World) (hq : X.heap.size = q) : CmIn (uW0 n arg i q X) (cmdU n arg 0 i) none 0 0 (some ⟨q, 0, none⟩) 1 1 (some ⟨q + 1, 0, none⟩) 1 1 (some ⟨q + 1 + 1, 0, none⟩) 9 9 ∧ (uW0 n arg i q X).heap.size = q + 1 + 1 + 1 + 1 ∧ Below X.heap.size X (uW0 n arg i q X) := by
  subst hq
  have b2 := below_alloc1 X (.cells #[.int .i64 3] 3)
  have b3 := below_alloc1 (X.alloc (.cells #[.int .i64 3] 3)) (.cells #[.int .i64 arg] 3)
  have b4 := below_alloc1 ((X.alloc (.cells #[.int .i64 3] 3)).alloc (.cells #[.int .i64 arg] 3)) (.cells (ucC n 0 i) 43)
  have b5 := below_alloc1 (((X.alloc (.cells #[.int .i64 3] 3)).alloc (.cells #[.int .i64 arg] 3)).alloc (.cells (ucC n 0 i) 43)) (.cells (uC X.heap.size) 25)
  have k1 := ints_new [3] X
  have k2 := ints_new [arg] (X.alloc (.cells #[.int .i64 3] 3))
  have k3 := inss_new (codeU n 0 i) ((X.alloc (.cells #[.int .i64 3] 3)).alloc (.cells #[.int .i64 arg] 3))
  rw [World.size_alloc] at k2
  rw [World.size_alloc, World.size_alloc] at k3
  refine ⟨⟨rfl, rfl, rfl, rfl, ⟨rfl, Nat.le_refl _, fun _ => ⟨rfl, rfl⟩, fun h => absurd h (show ¬ 0 < 0 by decide)⟩, Ints.below k1 (bnext (bnext b3 b4) b5), Ints.below k2 (bnext b4 b5), Inss.below k3 b5, by decide, by decide, by decide, by decide⟩, by simp only [World.size_alloc], bnext (bnext (bnext b2 b3) b4) b5⟩

theorem wentU0 (n arg : Int) (i q : Nat) (hi : i < 8) (X : World) (hq : X.heap.size = q) :
    Calls Try.prog 17 #[.agg (uC q), .slice (some ⟨q + 1 + 1 + 1 + 1, 0, none⟩) 1 1, .int .i64 9] ((uW0 n arg i q X).alloc (.cells #[.int .i64 0, .int .i64 0, .int .i64 0, .int .i64 0, .int .i64 0, .int .i64 0, .int .i64 0, .int .i64 0] 40)) (WLit 9 11 [] n 0 0 0 [n, arg] true 0 [putC z8 i n] ((uW0 n arg i q X).alloc (.cells #[.int .i64 0, .int .i64 0, .int .i64 0, .int .i64 0, .int .i64 0, .int .i64 0, .int .i64 0, .int .i64 0] 40))) := by
  obtain ⟨hc, hs, hb⟩ := uW0_in n arg i q X hq
  have k := Bk.new (uW0 n arg i q X) 40 #[.int .i64 0, .int .i64 0, .int .i64 0, .int .i64 0, .int .i64 0, .int .i64 0, .int .i64 0, .int .i64 0]
  rw [hs] at k
  have hO : Sl ((uW0 n arg i q X).alloc (.cells #[.int .i64 0, .int .i64 0, .int .i64 0, .int .i64 0, .int .i64 0, .int .i64 0, .int .i64 0, .int .i64 0] 40)) 8 (some ⟨q + 1 + 1 + 1 + 1, 0, none⟩) 1 1 (blksW [z8]) := ⟨rfl, Nat.le_refl _, fun h => (by cases h), fun _ => ⟨_, _, rfl, k.lt, fun j hj => by
    rw [k.cell]
    rcases (show j = 0 ∨ j = 1 ∨ j = 2 ∨ j = 3 ∨ j = 4 ∨ j = 5 ∨ j = 6 ∨ j = 7 by omega) with rfl | rfl | rfl | rfl | rfl | rfl | rfl | rfl <;> rfl⟩⟩
  have h := went_any none 0 0 (some ⟨q, 0, none⟩) 1 1 (some ⟨q + 1, 0, none⟩) 1 1 (some ⟨q + 1 + 1, 0, none⟩) 9 9 (cmdU n arg 0 i) [z8] 9 _ 1 1 _ (hc.below (below_alloc1 _ _)) hO (by decide) (fitU0 n arg i hi)
  rw [u0_9 n arg i hi] at h
  exact h

set_option maxHeartbeats 2000000 in
theorem keeps0 (n arg x y : Int) (hx : 0 ≤ x ∧ x ≤ 255) (hy : 0 ≤ y ∧ y ≤ 255) (hq : x % 4 = 0) (i : Nat) (hi : i < 8) (hqi : y % 8 = i) (w : World) :
    Calls Try.prog 8 #[.int .i64 n, .int .i64 arg, .agg #[.int .u8 x, .int .u8 y]] w fun e w' => e = .returned (.bool true) ∧ Below w.heap.size w w' := by
  obtain ⟨W0, hW0⟩ : ∃ W0, W0 = w.alloc (.cells #[.int .u8 x, .int .u8 y] 48) := ⟨_, rfl⟩
  have hsz : Hid (∀ q, ((w.alloc (.cells #[.int .u8 x, .int .u8 y] 48)).drewN q).heap.size = w.heap.size + 1) := Lib.hid (fun q => by simp only [World.heap_drewN, World.size_alloc])
  have hw := Lib.hid (fun q => wentU0 n arg i (w.heap.size + 1) hi ((w.alloc (.cells #[.int .u8 x, .int .u8 y] 48)).drewN q) (hsz.out q))
  have BW : Hid (∀ q, Below w.heap.size w ((uW0 n arg i (w.heap.size + 1) ((w.alloc (.cells #[.int .u8 x, .int .u8 y] 48)).drewN q)).alloc (.cells #[.int .i64 0, .int .i64 0, .int .i64 0, .int .i64 0, .int .i64 0, .int .i64 0, .int .i64 0, .int .i64 0] 40))) := Lib.hid (fun q => bnext (bnext (bnext (below_alloc1 _ _) (drewN_below _ q)) (uW0_in n arg i _ _ (hsz.out q)).2.2) (below_alloc1 _ _))
  have aw := Lib.hid (fun W => awake10 W)
  have hp := Lib.hid (put_z8 n i hi)
  have e1 : (i : Int) < 8 := by omega
  clear hW0 W0
  go_enter Try.func8, Try.ntmps8
  go_wp2
  go_quiet (fail)
  clear hq hqi
  go_wp2_with (first
    | (go_at_call 17; go_must ((with_reducible refine (hw.out _).mono ?_); rintro e w1 ⟨sA, sn, sc, oA, on, oc, bA, bn, bc, rfl, m, hb⟩; obtain ⟨rfl, rfl, rfl⟩ : sn = 0 ∧ on = 2 ∧ bn = 1 := m.lens (fun b hb => by rw [List.mem_singleton.1 hb]; exact hp.out.1); have B1 := Lib.hid (bnext (bnext (BW.out _) hb) (var_below w1 (mC 9 11 (.slice sA 0 sc) n 0 0 0 (.slice oA 2 oc) true 0))); have M1 := Lib.hid (m.below (var_below w1 (mC 9 11 (.slice sA 0 sc) n 0 0 0 (.slice oA 2 oc) true 0))); have K1 := Lib.hid (var_bk w1 (mC 9 11 (.slice sA 0 sc) n 0 0 0 (.slice oA 2 oc) true 0)); have N1 := Lib.hid (Bk.new w1 32 mZ); clear m hb))
    | (with_reducible refine st_mach w1.heap.size N1.out rfl rfl _ _ rfl rfl rfl rfl ?_)
    | (go_at_call 10; go_must ((with_reducible refine (aw.out _).mono ?_); rintro e w2 ⟨rfl, hb2⟩; have B2 := Lib.hid (bnext B1.out hb2); have kl := (K1.out.below hb2).lt; have t8 : w2.cell? ⟨w1.heap.size, 8, none⟩ = some (.bool true) := (K1.out.below hb2).cell 8; have t9 : w2.cell? ⟨w1.heap.size, 9, none⟩ = some (.int .i64 0) := (K1.out.below hb2).cell 9; have t1 : w2.cell? ⟨w1.heap.size, 1, none⟩ = some (.int .i64 11) := (K1.out.below hb2).cell 1; have tr : w2.cell? ⟨w1.heap.size, 3, none⟩ = some (.int .i64 n) := (K1.out.below hb2).cell 3; obtain ⟨g, off, rfl, hg, hv⟩ := (M1.out.below hb2).ou.int (j := 0) (by decide); obtain ⟨g', off', hgg, -, hv1⟩ := (M1.out.below hb2).ou.int (j := 1) (by decide); obtain ⟨rfl, rfl⟩ : g = g' ∧ off = off' := (by simpa using hgg); have t7 : w2.cell? ⟨w1.heap.size, 7, none⟩ = some (.slice (some ⟨g, off, none⟩) 2 oc) := (K1.out.below hb2).cell 7; have hv' : w2.cell? ⟨g, off, none⟩ = some (.int .i64 n) := hv; have hv1' : w2.cell? ⟨g, off + 1, none⟩ = some (.int .i64 arg) := hv1; obtain ⟨gb, ob, rfl, hgb, hvb⟩ := (M1.out.below hb2).bk.2.2.2 (by decide); have hb8 : w2.cell? ⟨gb, ob + i, none⟩ = some (.int .i64 n) := (by rw [hvb i (by omega)]; have hat := blksW_at [putC z8 i n] (fun b hb => by rw [List.mem_singleton.1 hb]; exact hp.out.1) 0 (Nat.succ_pos 0) i hi; rw [Nat.zero_mul, Nat.zero_add] at hat; rw [hat]; exact congrArg (fun z => some (Value.int .i64 z)) hp.out.2.2); clear hv hv1 hgg hvb hb2)))
  go_ret
  exact ⟨rfl, B2.out⟩

section
variable (n arg : Int) (i : Nat) (hi : i < 8)
theorem u1_1 : stepsM (cmdU n arg 1 i) 1 (newM (cmdU n arg 1 i), [z8]) = (⟨1, 19, [n], [0, 0, 0, 0], [], false, 0⟩, [z8]) := by
  rw [steps_succ]
  rfl
theorem u1_2 : stepsM (cmdU n arg 1 i) 2 (newM (cmdU n arg 1 i), [z8]) = (⟨2, 18, [], [0, n, 0, 0], [], false, 0⟩, [z8]) := by
  rw [steps_succ, u1_1]
  rfl
theorem u1_3 : stepsM (cmdU n arg 1 i) 3 (newM (cmdU n arg 1 i), [z8]) = (⟨3, 17, [n], [0, n, 0, 0], [], false, 0⟩, [z8]) := by
  rw [steps_succ, u1_2]
  rfl
theorem u1_4 : stepsM (cmdU n arg 1 i) 4 (newM (cmdU n arg 1 i), [z8]) = (⟨4, 16, [], [0, n, 0, 0], [], false, 0⟩, [putC z8 i n]) := by
  rw [steps_succ, u1_3]
  rfl
theorem u1_5 (hi : i < 8) : stepsM (cmdU n arg 1 i) 5 (newM (cmdU n arg 1 i), [z8]) = (⟨5, 15, [n], [0, n, 0, 0], [], false, 0⟩, [putC z8 i n]) := by
  rw [steps_succ, u1_4]
  show doM (cmdU n arg 1 i) ⟨4, 0, i⟩ ⟨5, 15, [], [0, n, 0, 0], [], false, 0⟩ [putC z8 i n] = _
  have hg := (put_z8 n i hi).2.1
  simp [doM, hg]
theorem u1_6 (hi : i < 8) : stepsM (cmdU n arg 1 i) 6 (newM (cmdU n arg 1 i), [z8]) = (⟨6, 14, [], [0, n, 0, 0], [n], false, 0⟩, [putC z8 i n]) := by
  rw [steps_succ, u1_5 n arg i hi]
  rfl
theorem u1_7 (hi : i < 8) : stepsM (cmdU n arg 1 i) 7 (newM (cmdU n arg 1 i), [z8]) = (⟨7, 13, [arg], [0, n, 0, 0], [n], false, 0⟩, [putC z8 i n]) := by
  rw [steps_succ, u1_6 n arg i hi]
  rfl
theorem u1_8 (hi : i < 8) : stepsM (cmdU n arg 1 i) 8 (newM (cmdU n arg 1 i), [z8]) = (⟨8, 12, [], [0, n, 0, 0], [n, arg], false, 0⟩, [putC z8 i n]) := by
  rw [steps_succ, u1_7 n arg i hi]
  rfl
theorem u1_9 (hi : i < 8) : stepsM (cmdU n arg 1 i) 9 (newM (cmdU n arg 1 i), [z8]) = (⟨9, 11, [], [0, n, 0, 0], [n, arg], true, 0⟩, [putC z8 i n]) := by
  rw [steps_succ, u1_8 n arg i hi]
  rfl
theorem fitU1 (hi : i < 8) : ∀ k, k < 9 → Fit (cmdU n arg 1 i) (stepsM (cmdU n arg 1 i) k (newM (cmdU n arg 1 i), [z8])).1 (stepsM (cmdU n arg 1 i) k (newM (cmdU n arg 1 i), [z8])).2 := by
  intro k hk
  have h8 := (put_z8 n i hi).1
  rcases (show k = 0 ∨ k = 1 ∨ k = 2 ∨ k = 3 ∨ k = 4 ∨ k = 5 ∨ k = 6 ∨ k = 7 ∨ k = 8 by omega) with rfl | rfl | rfl | rfl | rfl | rfl | rfl | rfl | rfl
  · exact ⟨(show (0 : Int) ≤ 20 ∧ (20 : Int) ≤ 1000 by decide), (show 0 ≤ 100 by decide), (show 0 ≤ 100 by decide), rfl, (fun b hb => by rw [List.mem_singleton.1 hb]; rfl), (show 1 ≤ 100 by decide), fun _ _ => ⟨(show (0 : Int) ≤ 0 by decide), (show (0 : Int) < 9 by decide), (show 9 ≤ 1000 by decide), fitI_push _ _ _ _ _⟩⟩
  · rw [u1_1]
    exact ⟨(show (0 : Int) ≤ 19 ∧ (19 : Int) ≤ 1000 by decide), (show 1 ≤ 100 by decide), (show 0 ≤ 100 by decide), rfl, (fun b hb => by rw [List.mem_singleton.1 hb]; rfl), (show 1 ≤ 100 by decide), fun _ _ => ⟨(show (0 : Int) ≤ 1 by decide), (show (1 : Int) < 9 by decide), (show 9 ≤ 1000 by decide), fitI_reg _ 3 (.inr rfl) _ _ (by decide) _ _ (show 1 ≤ 1 by decide)⟩⟩
  · rw [u1_2]
    exact ⟨(show (0 : Int) ≤ 18 ∧ (18 : Int) ≤ 1000 by decide), (show 0 ≤ 100 by decide), (show 0 ≤ 100 by decide), rfl, (fun b hb => by rw [List.mem_singleton.1 hb]; rfl), (show 1 ≤ 100 by decide), fun _ _ => ⟨(show (0 : Int) ≤ 2 by decide), (show (2 : Int) < 9 by decide), (show 9 ≤ 1000 by decide), fitI_reg _ 2 (.inl rfl) _ _ (by decide) _ _ (show 0 ≤ 0 by decide)⟩⟩
  · rw [u1_3]
    exact ⟨(show (0 : Int) ≤ 17 ∧ (17 : Int) ≤ 1000 by decide), (show 1 ≤ 100 by decide), (show 0 ≤ 100 by decide), rfl, (fun b hb => by rw [List.mem_singleton.1 hb]; rfl), (show 1 ≤ 100 by decide), fun _ _ => ⟨(show (0 : Int) ≤ 3 by decide), (show (3 : Int) < 9 by decide), (show 9 ≤ 1000 by decide), fitI_blk _ 5 (.inr rfl) _ _ _ rfl (show 1 ≤ 1 by decide)⟩⟩
  · rw [u1_4]
    exact ⟨(show (0 : Int) ≤ 16 ∧ (16 : Int) ≤ 1000 by decide), (show 0 ≤ 100 by decide), (show 0 ≤ 100 by decide), rfl, (fun b hb => by rw [List.mem_singleton.1 hb]; exact h8), (show 1 ≤ 100 by decide), fun _ _ => ⟨(show (0 : Int) ≤ 4 by decide), (show (4 : Int) < 9 by decide), (show 9 ≤ 1000 by decide), fitI_blk _ 4 (.inl rfl) _ _ _ rfl (show 0 ≤ 0 by decide)⟩⟩
  · rw [u1_5 n arg i hi]
    exact ⟨(show (0 : Int) ≤ 15 ∧ (15 : Int) ≤ 1000 by decide), (show 1 ≤ 100 by decide), (show 0 ≤ 100 by decide), rfl, (fun b hb => by rw [List.mem_singleton.1 hb]; exact h8), (show 1 ≤ 100 by decide), fun _ _ => ⟨(show (0 : Int) ≤ 5 by decide), (show (5 : Int) < 9 by decide), (show 9 ≤ 1000 by decide), fitI_emit _ _ _ _ _ (show 1 ≤ 1 by decide)⟩⟩
  · rw [u1_6 n arg i hi]
    exact ⟨(show (0 : Int) ≤ 14 ∧ (14 : Int) ≤ 1000 by decide), (show 0 ≤ 100 by decide), (show 1 ≤ 100 by decide), rfl, (fun b hb => by rw [List.mem_singleton.1 hb]; exact h8), (show 1 ≤ 100 by decide), fun _ _ => ⟨(show (0 : Int) ≤ 6 by decide), (show (6 : Int) < 9 by decide), (show 9 ≤ 1000 by decide), fitI_arg _ _ _ _ (show 0 < 1 by decide)⟩⟩
  · rw [u1_7 n arg i hi]
    exact ⟨(show (0 : Int) ≤ 13 ∧ (13 : Int) ≤ 1000 by decide), (show 1 ≤ 100 by decide), (show 1 ≤ 100 by decide), rfl, (fun b hb => by rw [List.mem_singleton.1 hb]; exact h8), (show 1 ≤ 100 by decide), fun _ _ => ⟨(show (0 : Int) ≤ 7 by decide), (show (7 : Int) < 9 by decide), (show 9 ≤ 1000 by decide), fitI_emit _ _ _ _ _ (show 1 ≤ 1 by decide)⟩⟩
  · rw [u1_8 n arg i hi]
    exact ⟨(show (0 : Int) ≤ 12 ∧ (12 : Int) ≤ 1000 by decide), (show 0 ≤ 100 by decide), (show 2 ≤ 100 by decide), rfl, (fun b hb => by rw [List.mem_singleton.1 hb]; exact h8), (show 1 ≤ 100 by decide), fun _ _ => ⟨(show (0 : Int) ≤ 8 by decide), (show (8 : Int) < 9 by decide), (show 9 ≤ 1000 by decide), fitI_end _ _ _ _ _⟩⟩
end

abbrev uW1 (n arg : Int) (i q : Nat) (X : World) : World := (((X.alloc (.cells #[.int .i64 3] 3)).alloc (.cells #[.int .i64 arg] 3)).alloc (.cells (ucC n 1 i) 43)).alloc (.cells (uC q) 25)
theorem uW1_in (n arg : Int) (i q : Nat) (X : World) (hq : X.heap.size = q) : CmIn (uW1 n arg i q X) (cmdU n arg 1 i) none 0 0 (some ⟨q, 0, none⟩) 1 1 (some ⟨q + 1, 0, none⟩) 1 1 (some ⟨q + 1 + 1, 0, none⟩) 9 9 ∧ (uW1 n arg i q X).heap.size = q + 1 + 1 + 1 + 1 ∧ Below X.heap.size X (uW1 n arg i q X) := by
  subst hq
  have b2 := below_alloc1 X (.cells #[.int .i64 3] 3)
  have b3 := below_alloc1 (X.alloc (.cells #[.int .i64 3] 3)) (.cells #[.int .i64 arg] 3)
  have b4 := below_alloc1 ((X.alloc (.cells #[.int .i64 3] 3)).alloc (.cells #[.int .i64 arg] 3)) (.cells (ucC n 1 i) 43)
  have b5 := below_alloc1 (((X.alloc (.cells #[.int .i64 3] 3)).alloc (.cells #[.int .i64 arg] 3)).alloc (.cells (ucC n 1 i) 43)) (.cells (uC X.heap.size) 25)
  have k1 := ints_new [3] X
  have k2 := ints_new [arg] (X.alloc (.cells #[.int .i64 3] 3))
  have k3 := inss_new (codeU n 1 i) ((X.alloc (.cells #[.int .i64 3] 3)).alloc (.cells #[.int .i64 arg] 3))
  rw [World.size_alloc] at k2
  rw [World.size_alloc, World.size_alloc] at k3
  refine ⟨⟨rfl, rfl, rfl, rfl, ⟨rfl, Nat.le_refl _, fun _ => ⟨rfl, rfl⟩, fun h => absurd h (show ¬ 0 < 0 by decide)⟩, Ints.below k1 (bnext (bnext b3 b4) b5), Ints.below k2 (bnext b4 b5), Inss.below k3 b5, by decide, by decide, by decide, by decide⟩, by simp only [World.size_alloc], bnext (bnext (bnext b2 b3) b4) b5⟩

theorem wentU1 (n arg : Int) (i q : Nat) (hi : i < 8) (X : World) (hq : X.heap.size = q) :
    Calls Try.prog 17 #[.agg (uC q), .slice (some ⟨q + 1 + 1 + 1 + 1, 0, none⟩) 1 1, .int .i64 9] ((uW1 n arg i q X).alloc (.cells #[.int .i64 0, .int .i64 0, .int .i64 0, .int .i64 0, .int .i64 0, .int .i64 0, .int .i64 0, .int .i64 0] 40)) (WLit 9 11 [] 0 n 0 0 [n, arg] true 0 [putC z8 i n] ((uW1 n arg i q X).alloc (.cells #[.int .i64 0, .int .i64 0, .int .i64 0, .int .i64 0, .int .i64 0, .int .i64 0, .int .i64 0, .int .i64 0] 40))) := by
  obtain ⟨hc, hs, hb⟩ := uW1_in n arg i q X hq
  have k := Bk.new (uW1 n arg i q X) 40 #[.int .i64 0, .int .i64 0, .int .i64 0, .int .i64 0, .int .i64 0, .int .i64 0, .int .i64 0, .int .i64 0]
  rw [hs] at k
  have hO : Sl ((uW1 n arg i q X).alloc (.cells #[.int .i64 0, .int .i64 0, .int .i64 0, .int .i64 0, .int .i64 0, .int .i64 0, .int .i64 0, .int .i64 0] 40)) 8 (some ⟨q + 1 + 1 + 1 + 1, 0, none⟩) 1 1 (blksW [z8]) := ⟨rfl, Nat.le_refl _, fun h => (by cases h), fun _ => ⟨_, _, rfl, k.lt, fun j hj => by
    rw [k.cell]
    rcases (show j = 0 ∨ j = 1 ∨ j = 2 ∨ j = 3 ∨ j = 4 ∨ j = 5 ∨ j = 6 ∨ j = 7 by omega) with rfl | rfl | rfl | rfl | rfl | rfl | rfl | rfl <;> rfl⟩⟩
  have h := went_any none 0 0 (some ⟨q, 0, none⟩) 1 1 (some ⟨q + 1, 0, none⟩) 1 1 (some ⟨q + 1 + 1, 0, none⟩) 9 9 (cmdU n arg 1 i) [z8] 9 _ 1 1 _ (hc.below (below_alloc1 _ _)) hO (by decide) (fitU1 n arg i hi)
  rw [u1_9 n arg i hi] at h
  exact h

set_option maxHeartbeats 2000000 in
theorem keeps1 (n arg x y : Int) (hx : 0 ≤ x ∧ x ≤ 255) (hy : 0 ≤ y ∧ y ≤ 255) (hq : x % 4 = 1) (i : Nat) (hi : i < 8) (hqi : y % 8 = i) (w : World) :
    Calls Try.prog 8 #[.int .i64 n, .int .i64 arg, .agg #[.int .u8 x, .int .u8 y]] w fun e w' => e = .returned (.bool true) ∧ Below w.heap.size w w' := by
  obtain ⟨W0, hW0⟩ : ∃ W0, W0 = w.alloc (.cells #[.int .u8 x, .int .u8 y] 48) := ⟨_, rfl⟩
  have hsz : Hid (∀ q, ((w.alloc (.cells #[.int .u8 x, .int .u8 y] 48)).drewN q).heap.size = w.heap.size + 1) := Lib.hid (fun q => by simp only [World.heap_drewN, World.size_alloc])
  have hw := Lib.hid (fun q => wentU1 n arg i (w.heap.size + 1) hi ((w.alloc (.cells #[.int .u8 x, .int .u8 y] 48)).drewN q) (hsz.out q))
  have BW : Hid (∀ q, Below w.heap.size w ((uW1 n arg i (w.heap.size + 1) ((w.alloc (.cells #[.int .u8 x, .int .u8 y] 48)).drewN q)).alloc (.cells #[.int .i64 0, .int .i64 0, .int .i64 0, .int .i64 0, .int .i64 0, .int .i64 0, .int .i64 0, .int .i64 0] 40))) := Lib.hid (fun q => bnext (bnext (bnext (below_alloc1 _ _) (drewN_below _ q)) (uW1_in n arg i _ _ (hsz.out q)).2.2) (below_alloc1 _ _))
  have aw := Lib.hid (fun W => awake10 W)
  have hp := Lib.hid (put_z8 n i hi)
  have e1 : (i : Int) < 8 := by omega
  clear hW0 W0
  go_enter Try.func8, Try.ntmps8
  go_wp2
  go_quiet (fail)
  clear hq hqi
  go_wp2_with (first
    | (go_at_call 17; go_must ((with_reducible refine (hw.out _).mono ?_); rintro e w1 ⟨sA, sn, sc, oA, on, oc, bA, bn, bc, rfl, m, hb⟩; obtain ⟨rfl, rfl, rfl⟩ : sn = 0 ∧ on = 2 ∧ bn = 1 := m.lens (fun b hb => by rw [List.mem_singleton.1 hb]; exact hp.out.1); have B1 := Lib.hid (bnext (bnext (BW.out _) hb) (var_below w1 (mC 9 11 (.slice sA 0 sc) 0 n 0 0 (.slice oA 2 oc) true 0))); have M1 := Lib.hid (m.below (var_below w1 (mC 9 11 (.slice sA 0 sc) 0 n 0 0 (.slice oA 2 oc) true 0))); have K1 := Lib.hid (var_bk w1 (mC 9 11 (.slice sA 0 sc) 0 n 0 0 (.slice oA 2 oc) true 0)); have N1 := Lib.hid (Bk.new w1 32 mZ); clear m hb))
    | (with_reducible refine st_mach w1.heap.size N1.out rfl rfl _ _ rfl rfl rfl rfl ?_)
    | (go_at_call 10; go_must ((with_reducible refine (aw.out _).mono ?_); rintro e w2 ⟨rfl, hb2⟩; have B2 := Lib.hid (bnext B1.out hb2); have kl := (K1.out.below hb2).lt; have t8 : w2.cell? ⟨w1.heap.size, 8, none⟩ = some (.bool true) := (K1.out.below hb2).cell 8; have t9 : w2.cell? ⟨w1.heap.size, 9, none⟩ = some (.int .i64 0) := (K1.out.below hb2).cell 9; have t1 : w2.cell? ⟨w1.heap.size, 1, none⟩ = some (.int .i64 11) := (K1.out.below hb2).cell 1; have tr : w2.cell? ⟨w1.heap.size, 4, none⟩ = some (.int .i64 n) := (K1.out.below hb2).cell 4; obtain ⟨g, off, rfl, hg, hv⟩ := (M1.out.below hb2).ou.int (j := 0) (by decide); obtain ⟨g', off', hgg, -, hv1⟩ := (M1.out.below hb2).ou.int (j := 1) (by decide); obtain ⟨rfl, rfl⟩ : g = g' ∧ off = off' := (by simpa using hgg); have t7 : w2.cell? ⟨w1.heap.size, 7, none⟩ = some (.slice (some ⟨g, off, none⟩) 2 oc) := (K1.out.below hb2).cell 7; have hv' : w2.cell? ⟨g, off, none⟩ = some (.int .i64 n) := hv; have hv1' : w2.cell? ⟨g, off + 1, none⟩ = some (.int .i64 arg) := hv1; obtain ⟨gb, ob, rfl, hgb, hvb⟩ := (M1.out.below hb2).bk.2.2.2 (by decide); have hb8 : w2.cell? ⟨gb, ob + i, none⟩ = some (.int .i64 n) := (by rw [hvb i (by omega)]; have hat := blksW_at [putC z8 i n] (fun b hb => by rw [List.mem_singleton.1 hb]; exact hp.out.1) 0 (Nat.succ_pos 0) i hi; rw [Nat.zero_mul, Nat.zero_add] at hat; rw [hat]; exact congrArg (fun z => some (Value.int .i64 z)) hp.out.2.2); clear hv hv1 hgg hvb hb2)))
  go_ret
  exact ⟨rfl, B2.out⟩

section
variable (n arg : Int) (i : Nat) (hi : i < 8)
theorem u2_1 : stepsM (cmdU n arg 2 i) 1 (newM (cmdU n arg 2 i), [z8]) = (⟨1, 19, [n], [0, 0, 0, 0], [], false, 0⟩, [z8]) := by
  rw [steps_succ]
  rfl
theorem u2_2 : stepsM (cmdU n arg 2 i) 2 (newM (cmdU n arg 2 i), [z8]) = (⟨2, 18, [], [0, 0, n, 0], [], false, 0⟩, [z8]) := by
  rw [steps_succ, u2_1]
  rfl
theorem u2_3 : stepsM (cmdU n arg 2 i) 3 (newM (cmdU n arg 2 i), [z8]) = (⟨3, 17, [n], [0, 0, n, 0], [], false, 0⟩, [z8]) := by
  rw [steps_succ, u2_2]
  rfl
theorem u2_4 : stepsM (cmdU n arg 2 i) 4 (newM (cmdU n arg 2 i), [z8]) = (⟨4, 16, [], [0, 0, n, 0], [], false, 0⟩, [putC z8 i n]) := by
  rw [steps_succ, u2_3]
  rfl
theorem u2_5 (hi : i < 8) : stepsM (cmdU n arg 2 i) 5 (newM (cmdU n arg 2 i), [z8]) = (⟨5, 15, [n], [0, 0, n, 0], [], false, 0⟩, [putC z8 i n]) := by
  rw [steps_succ, u2_4]
  show doM (cmdU n arg 2 i) ⟨4, 0, i⟩ ⟨5, 15, [], [0, 0, n, 0], [], false, 0⟩ [putC z8 i n] = _
  have hg := (put_z8 n i hi).2.1
  simp [doM, hg]
theorem u2_6 (hi : i < 8) : stepsM (cmdU n arg 2 i) 6 (newM (cmdU n arg 2 i), [z8]) = (⟨6, 14, [], [0, 0, n, 0], [n], false, 0⟩, [putC z8 i n]) := by
  rw [steps_succ, u2_5 n arg i hi]
  rfl
theorem u2_7 (hi : i < 8) : stepsM (cmdU n arg 2 i) 7 (newM (cmdU n arg 2 i), [z8]) = (⟨7, 13, [arg], [0, 0, n, 0], [n], false, 0⟩, [putC z8 i n]) := by
  rw [steps_succ, u2_6 n arg i hi]
  rfl
theorem u2_8 (hi : i < 8) : stepsM (cmdU n arg 2 i) 8 (newM (cmdU n arg 2 i), [z8]) = (⟨8, 12, [], [0, 0, n, 0], [n, arg], false, 0⟩, [putC z8 i n]) := by
  rw [steps_succ, u2_7 n arg i hi]
  rfl
theorem u2_9 (hi : i < 8) : stepsM (cmdU n arg 2 i) 9 (newM (cmdU n arg 2 i), [z8]) = (⟨9, 11, [], [0, 0, n, 0], [n, arg], true, 0⟩, [putC z8 i n]) := by
  rw [steps_succ, u2_8 n arg i hi]
  rfl
theorem fitU2 (hi : i < 8) : ∀ k, k < 9 → Fit (cmdU n arg 2 i) (stepsM (cmdU n arg 2 i) k (newM (cmdU n arg 2 i), [z8])).1 (stepsM (cmdU n arg 2 i) k (newM (cmdU n arg 2 i), [z8])).2 := by
  intro k hk
  have h8 := (put_z8 n i hi).1
  rcases (show k = 0 ∨ k = 1 ∨ k = 2 ∨ k = 3 ∨ k = 4 ∨ k = 5 ∨ k = 6 ∨ k = 7 ∨ k = 8 by omega) with rfl | rfl | rfl | rfl | rfl | rfl | rfl | rfl | rfl
  · exact ⟨(show (0 : Int) ≤ 20 ∧ (20 : Int) ≤ 1000 by decide), (show 0 ≤ 100 by decide), (show 0 ≤ 100 by decide), rfl, (fun b hb => by rw [List.mem_singleton.1 hb]; rfl), (show 1 ≤ 100 by decide), fun _ _ => ⟨(show (0 : Int) ≤ 0 by decide), (show (0 : Int) < 9 by decide), (show 9 ≤ 1000 by decide), fitI_push _ _ _ _ _⟩⟩
  · rw [u2_1]
    exact ⟨(show (0 : Int) ≤ 19 ∧ (19 : Int) ≤ 1000 by decide), (show 1 ≤ 100 by decide), (show 0 ≤ 100 by decide), rfl, (fun b hb => by rw [List.mem_singleton.1 hb]; rfl), (show 1 ≤ 100 by decide), fun _ _ => ⟨(show (0 : Int) ≤ 1 by decide), (show (1 : Int) < 9 by decide), (show 9 ≤ 1000 by decide), fitI_reg _ 3 (.inr rfl) _ _ (by decide) _ _ (show 1 ≤ 1 by decide)⟩⟩
  · rw [u2_2]
    exact ⟨(show (0 : Int) ≤ 18 ∧ (18 : Int) ≤ 1000 by decide), (show 0 ≤ 100 by decide), (show 0 ≤ 100 by decide), rfl, (fun b hb => by rw [List.mem_singleton.1 hb]; rfl), (show 1 ≤ 100 by decide), fun _ _ => ⟨(show (0 : Int) ≤ 2 by decide), (show (2 : Int) < 9 by decide), (show 9 ≤ 1000 by decide), fitI_reg _ 2 (.inl rfl) _ _ (by decide) _ _ (show 0 ≤ 0 by decide)⟩⟩
  · rw [u2_3]
    exact ⟨(show (0 : Int) ≤ 17 ∧ (17 : Int) ≤ 1000 by decide), (show 1 ≤ 100 by decide), (show 0 ≤ 100 by decide), rfl, (fun b hb => by rw [List.mem_singleton.1 hb]; rfl), (show 1 ≤ 100 by decide), fun _ _ => ⟨(show (0 : Int) ≤ 3 by decide), (show (3 : Int) < 9 by decide), (show 9 ≤ 1000 by decide), fitI_blk _ 5 (.inr rfl) _ _ _ rfl (show 1 ≤ 1 by decide)⟩⟩
  · rw [u2_4]
    exact ⟨(show (0 : Int) ≤ 16 ∧ (16 : Int) ≤ 1000 by decide), (show 0 ≤ 100 by decide), (show 0 ≤ 100 by decide), rfl, (fun b hb => by rw [List.mem_singleton.1 hb]; exact h8), (show 1 ≤ 100 by decide), fun _ _ => ⟨(show (0 : Int) ≤ 4 by decide), (show (4 : Int) < 9 by decide), (show 9 ≤ 1000 by decide), fitI_blk _ 4 (.inl rfl) _ _ _ rfl (show 0 ≤ 0 by decide)⟩⟩
  · rw [u2_5 n arg i hi]
    exact ⟨(show (0 : Int) ≤ 15 ∧ (15 : Int) ≤ 1000 by decide), (show 1 ≤ 100 by decide), (show 0 ≤ 100 by decide), rfl, (fun b hb => by rw [List.mem_singleton.1 hb]; exact h8), (show 1 ≤ 100 by decide), fun _ _ => ⟨(show (0 : Int) ≤ 5 by decide), (show (5 : Int) < 9 by decide), (show 9 ≤ 1000 by decide), fitI_emit _ _ _ _ _ (show 1 ≤ 1 by decide)⟩⟩
  · rw [u2_6 n arg i hi]
    exact ⟨(show (0 : Int) ≤ 14 ∧ (14 : Int) ≤ 1000 by decide), (show 0 ≤ 100 by decide), (show 1 ≤ 100 by decide), rfl, (fun b hb => by rw [List.mem_singleton.1 hb]; exact h8), (show 1 ≤ 100 by decide), fun _ _ => ⟨(show (0 : Int) ≤ 6 by decide), (show (6 : Int) < 9 by decide), (show 9 ≤ 1000 by decide), fitI_arg _ _ _ _ (show 0 < 1 by decide)⟩⟩
  · rw [u2_7 n arg i hi]
    exact ⟨(show (0 : Int) ≤ 13 ∧ (13 : Int) ≤ 1000 by decide), (show 1 ≤ 100 by decide), (show 1 ≤ 100 by decide), rfl, (fun b hb => by rw [List.mem_singleton.1 hb]; exact h8), (show 1 ≤ 100 by decide), fun _ _ => ⟨(show (0 : Int) ≤ 7 by decide), (show (7 : Int) < 9 by decide), (show 9 ≤ 1000 by decide), fitI_emit _ _ _ _ _ (show 1 ≤ 1 by decide)⟩⟩
  · rw [u2_8 n arg i hi]
    exact ⟨(show (0 : Int) ≤ 12 ∧ (12 : Int) ≤ 1000 by decide), (show 0 ≤ 100 by decide), (show 2 ≤ 100 by decide), rfl, (fun b hb => by rw [List.mem_singleton.1 hb]; exact h8), (show 1 ≤ 100 by decide), fun _ _ => ⟨(show (0 : Int) ≤ 8 by decide), (show (8 : Int) < 9 by decide), (show 9 ≤ 1000 by decide), fitI_end _ _ _ _ _⟩⟩
end

abbrev uW2 (n arg : Int) (i q : Nat) (X : World) : World := (((X.alloc (.cells #[.int .i64 3] 3)).alloc (.cells #[.int .i64 arg] 3)).alloc (.cells (ucC n 2 i) 43)).alloc (.cells (uC q) 25)
theorem uW2_in (n arg : Int) (i q : Nat) (X : World) (hq : X.heap.size = q) : CmIn (uW2 n arg i q X) (cmdU n arg 2 i) none 0 0 (some ⟨q, 0, none⟩) 1 1 (some ⟨q + 1, 0, none⟩) 1 1 (some ⟨q + 1 + 1, 0, none⟩) 9 9 ∧ (uW2 n arg i q X).heap.size = q + 1 + 1 + 1 + 1 ∧ Below X.heap.size X (uW2 n arg i q X) := by
  subst hq
  have b2 := below_alloc1 X (.cells #[.int .i64 3] 3)
  have b3 := below_alloc1 (X.alloc (.cells #[.int .i64 3] 3)) (.cells #[.int .i64 arg] 3)
  have b4 := below_alloc1 ((X.alloc (.cells #[.int .i64 3] 3)).alloc (.cells #[.int .i64 arg] 3)) (.cells (ucC n 2 i) 43)
  have b5 := below_alloc1 (((X.alloc (.cells #[.int .i64 3] 3)).alloc (.cells #[.int .i64 arg] 3)).alloc (.cells (ucC n 2 i) 43)) (.cells (uC X.heap.size) 25)
  have k1 := ints_new [3] X
  have k2 := ints_new [arg] (X.alloc (.cells #[.int .i64 3] 3))
  have k3 := inss_new (codeU n 2 i) ((X.alloc (.cells #[.int .i64 3] 3)).alloc (.cells #[.int .i64 arg] 3))
  rw [World.size_alloc] at k2
  rw [World.size_alloc, World.size_alloc] at k3
  refine ⟨⟨rfl, rfl, rfl, rfl, ⟨rfl, Nat.le_refl _, fun _ => ⟨rfl, rfl⟩, fun h => absurd h (show ¬ 0 < 0 by decide)⟩, Ints.below k1 (bnext (bnext b3 b4) b5), Ints.below k2 (bnext b4 b5), Inss.below k3 b5, by decide, by decide, by decide, by decide⟩, by simp only [World.size_alloc], bnext (bnext (bnext b2 b3) b4) b5⟩

theorem wentU2 (n arg : Int) (i q : Nat) (hi : i < 8) (X : World) (hq : X.heap.size = q) :
    Calls Try.prog 17 #[.agg (uC q), .slice (some ⟨q + 1 + 1 + 1 + 1, 0, none⟩) 1 1, .int .i64 9] ((uW2 n arg i q X).alloc (.cells #[.int .i64 0, .int .i64 0, .int .i64 0, .int .i64 0, .int .i64 0, .int .i64 0, .int .i64 0, .int .i64 0] 40)) (WLit 9 11 [] 0 0 n 0 [n, arg] true 0 [putC z8 i n] ((uW2 n arg i q X).alloc (.cells #[.int .i64 0, .int .i64 0, .int .i64 0, .int .i64 0, .int .i64 0, .int .i64 0, .int .i64 0, .int .i64 0] 40))) := by
  obtain ⟨hc, hs, hb⟩ := uW2_in n arg i q X hq
  have k := Bk.new (uW2 n arg i q X) 40 #[.int .i64 0, .int .i64 0, .int .i64 0, .int .i64 0, .int .i64 0, .int .i64 0, .int .i64 0, .int .i64 0]
  rw [hs] at k
  have hO : Sl ((uW2 n arg i q X).alloc (.cells #[.int .i64 0, .int .i64 0, .int .i64 0, .int .i64 0, .int .i64 0, .int .i64 0, .int .i64 0, .int .i64 0] 40)) 8 (some ⟨q + 1 + 1 + 1 + 1, 0, none⟩) 1 1 (blksW [z8]) := ⟨rfl, Nat.le_refl _, fun h => (by cases h), fun _ => ⟨_, _, rfl, k.lt, fun j hj => by
    rw [k.cell]
    rcases (show j = 0 ∨ j = 1 ∨ j = 2 ∨ j = 3 ∨ j = 4 ∨ j = 5 ∨ j = 6 ∨ j = 7 by omega) with rfl | rfl | rfl | rfl | rfl | rfl | rfl | rfl <;> rfl⟩⟩
  have h := went_any none 0 0 (some ⟨q, 0, none⟩) 1 1 (some ⟨q + 1, 0, none⟩) 1 1 (some ⟨q + 1 + 1, 0, none⟩) 9 9 (cmdU n arg 2 i) [z8] 9 _ 1 1 _ (hc.below (below_alloc1 _ _)) hO (by decide) (fitU2 n arg i hi)
  rw [u2_9 n arg i hi] at h
  exact h

set_option maxHeartbeats 2000000 in
theorem keeps2 (n arg x y : Int) (hx : 0 ≤ x ∧ x ≤ 255) (hy : 0 ≤ y ∧ y ≤ 255) (hq : x % 4 = 2) (i : Nat) (hi : i < 8) (hqi : y % 8 = i) (w : World) :
    Calls Try.prog 8 #[.int .i64 n, .int .i64 arg, .agg #[.int .u8 x, .int .u8 y]] w fun e w' => e = .returned (.bool true) ∧ Below w.heap.size w w' := by
  obtain ⟨W0, hW0⟩ : ∃ W0, W0 = w.alloc (.cells #[.int .u8 x, .int .u8 y] 48) := ⟨_, rfl⟩
  have hsz : Hid (∀ q, ((w.alloc (.cells #[.int .u8 x, .int .u8 y] 48)).drewN q).heap.size = w.heap.size + 1) := Lib.hid (fun q => by simp only [World.heap_drewN, World.size_alloc])
  have hw := Lib.hid (fun q => wentU2 n arg i (w.heap.size + 1) hi ((w.alloc (.cells #[.int .u8 x, .int .u8 y] 48)).drewN q) (hsz.out q))
  have BW : Hid (∀ q, Below w.heap.size w ((uW2 n arg i (w.heap.size + 1) ((w.alloc (.cells #[.int .u8 x, .int .u8 y] 48)).drewN q)).alloc (.cells #[.int .i64 0, .int .i64 0, .int .i64 0, .int .i64 0, .int .i64 0, .int .i64 0, .int .i64 0, .int .i64 0] 40))) := Lib.hid (fun q => bnext (bnext (bnext (below_alloc1 _ _) (drewN_below _ q)) (uW2_in n arg i _ _ (hsz.out q)).2.2) (below_alloc1 _ _))
  have aw := Lib.hid (fun W => awake10 W)
  have hp := Lib.hid (put_z8 n i hi)
  have e1 : (i : Int) < 8 := by omega
  clear hW0 W0
  go_enter Try.func8, Try.ntmps8
  go_wp2
  go_quiet (fail)
  clear hq hqi
  go_wp2_with (first
    | (go_at_call 17; go_must ((with_reducible refine (hw.out _).mono ?_); rintro e w1 ⟨sA, sn, sc, oA, on, oc, bA, bn, bc, rfl, m, hb⟩; obtain ⟨rfl, rfl, rfl⟩ : sn = 0 ∧ on = 2 ∧ bn = 1 := m.lens (fun b hb => by rw [List.mem_singleton.1 hb]; exact hp.out.1); have B1 := Lib.hid (bnext (bnext (BW.out _) hb) (var_below w1 (mC 9 11 (.slice sA 0 sc) 0 0 n 0 (.slice oA 2 oc) true 0))); have M1 := Lib.hid (m.below (var_below w1 (mC 9 11 (.slice sA 0 sc) 0 0 n 0 (.slice oA 2 oc) true 0))); have K1 := Lib.hid (var_bk w1 (mC 9 11 (.slice sA 0 sc) 0 0 n 0 (.slice oA 2 oc) true 0)); have N1 := Lib.hid (Bk.new w1 32 mZ); clear m hb))
    | (with_reducible refine st_mach w1.heap.size N1.out rfl rfl _ _ rfl rfl rfl rfl ?_)
    | (go_at_call 10; go_must ((with_reducible refine (aw.out _).mono ?_); rintro e w2 ⟨rfl, hb2⟩; have B2 := Lib.hid (bnext B1.out hb2); have kl := (K1.out.below hb2).lt; have t8 : w2.cell? ⟨w1.heap.size, 8, none⟩ = some (.bool true) := (K1.out.below hb2).cell 8; have t9 : w2.cell? ⟨w1.heap.size, 9, none⟩ = some (.int .i64 0) := (K1.out.below hb2).cell 9; have t1 : w2.cell? ⟨w1.heap.size, 1, none⟩ = some (.int .i64 11) := (K1.out.below hb2).cell 1; have tr : w2.cell? ⟨w1.heap.size, 5, none⟩ = some (.int .i64 n) := (K1.out.below hb2).cell 5; obtain ⟨g, off, rfl, hg, hv⟩ := (M1.out.below hb2).ou.int (j := 0) (by decide); obtain ⟨g', off', hgg, -, hv1⟩ := (M1.out.below hb2).ou.int (j := 1) (by decide); obtain ⟨rfl, rfl⟩ : g = g' ∧ off = off' := (by simpa using hgg); have t7 : w2.cell? ⟨w1.heap.size, 7, none⟩ = some (.slice (some ⟨g, off, none⟩) 2 oc) := (K1.out.below hb2).cell 7; have hv' : w2.cell? ⟨g, off, none⟩ = some (.int .i64 n) := hv; have hv1' : w2.cell? ⟨g, off + 1, none⟩ = some (.int .i64 arg) := hv1; obtain ⟨gb, ob, rfl, hgb, hvb⟩ := (M1.out.below hb2).bk.2.2.2 (by decide); have hb8 : w2.cell? ⟨gb, ob + i, none⟩ = some (.int .i64 n) := (by rw [hvb i (by omega)]; have hat := blksW_at [putC z8 i n] (fun b hb => by rw [List.mem_singleton.1 hb]; exact hp.out.1) 0 (Nat.succ_pos 0) i hi; rw [Nat.zero_mul, Nat.zero_add] at hat; rw [hat]; exact congrArg (fun z => some (Value.int .i64 z)) hp.out.2.2); clear hv hv1 hgg hvb hb2)))
  go_ret
  exact ⟨rfl, B2.out⟩

section
variable (n arg : Int) (i : Nat) (hi : i < 8)
theorem u3_1 : stepsM (cmdU n arg 3 i) 1 (newM (cmdU n arg 3 i), [z8]) = (⟨1, 19, [n], [0, 0, 0, 0], [], false, 0⟩, [z8]) := by
  rw [steps_succ]
  rfl
theorem u3_2 : stepsM (cmdU n arg 3 i) 2 (newM (cmdU n arg 3 i), [z8]) = (⟨2, 18, [], [0, 0, 0, n], [], false, 0⟩, [z8]) := by
  rw [steps_succ, u3_1]
  rfl
theorem u3_3 : stepsM (cmdU n arg 3 i) 3 (newM (cmdU n arg 3 i), [z8]) = (⟨3, 17, [n], [0, 0, 0, n], [], false, 0⟩, [z8]) := by
  rw [steps_succ, u3_2]
  rfl
theorem u3_4 : stepsM (cmdU n arg 3 i) 4 (newM (cmdU n arg 3 i), [z8]) = (⟨4, 16, [], [0, 0, 0, n], [], false, 0⟩, [putC z8 i n]) := by
  rw [steps_succ, u3_3]
  rfl
theorem u3_5 (hi : i < 8) : stepsM (cmdU n arg 3 i) 5 (newM (cmdU n arg 3 i), [z8]) = (⟨5, 15, [n], [0, 0, 0, n], [], false, 0⟩, [putC z8 i n]) := by
  rw [steps_succ, u3_4]
  show doM (cmdU n arg 3 i) ⟨4, 0, i⟩ ⟨5, 15, [], [0, 0, 0, n], [], false, 0⟩ [putC z8 i n] = _
  have hg := (put_z8 n i hi).2.1
  simp [doM, hg]
theorem u3_6 (hi : i < 8) : stepsM (cmdU n arg 3 i) 6 (newM (cmdU n arg 3 i), [z8]) = (⟨6, 14, [], [0, 0, 0, n], [n], false, 0⟩, [putC z8 i n]) := by
  rw [steps_succ, u3_5 n arg i hi]
  rfl
theorem u3_7 (hi : i < 8) : stepsM (cmdU n arg 3 i) 7 (newM (cmdU n arg 3 i), [z8]) = (⟨7, 13, [arg], [0, 0, 0, n], [n], false, 0⟩, [putC z8 i n]) := by
  rw [steps_succ, u3_6 n arg i hi]
  rfl
theorem u3_8 (hi : i < 8) : stepsM (cmdU n arg 3 i) 8 (newM (cmdU n arg 3 i), [z8]) = (⟨8, 12, [], [0, 0, 0, n], [n, arg], false, 0⟩, [putC z8 i n]) := by
  rw [steps_succ, u3_7 n arg i hi]
  rfl
theorem u3_9 (hi : i < 8) : stepsM (cmdU n arg 3 i) 9 (newM (cmdU n arg 3 i), [z8]) = (⟨9, 11, [], [0, 0, 0, n], [n, arg], true, 0⟩, [putC z8 i n]) := by
  rw [steps_succ, u3_8 n arg i hi]
  rfl
theorem fitU3 (hi : i < 8) : ∀ k, k < 9 → Fit (cmdU n arg 3 i) (stepsM (cmdU n arg 3 i) k (newM (cmdU n arg 3 i), [z8])).1 (stepsM (cmdU n arg 3 i) k (newM (cmdU n arg 3 i), [z8])).2 := by
  intro k hk
  have h8 := (put_z8 n i hi).1
  rcases (show k = 0 ∨ k = 1 ∨ k = 2 ∨ k = 3 ∨ k = 4 ∨ k = 5 ∨ k = 6 ∨ k = 7 ∨ k = 8 by omega) with rfl | rfl | rfl | rfl | rfl | rfl | rfl | rfl | rfl
  · exact ⟨(show (0 : Int) ≤ 20 ∧ (20 : Int) ≤ 1000 by decide), (show 0 ≤ 100 by decide), (show 0 ≤ 100 by decide), rfl, (fun b hb => by rw [List.mem_singleton.1 hb]; rfl), (show 1 ≤ 100 by decide), fun _ _ => ⟨(show (0 : Int) ≤ 0 by decide), (show (0 : Int) < 9 by decide), (show 9 ≤ 1000 by decide), fitI_push _ _ _ _ _⟩⟩
  · rw [u3_1]
    exact ⟨(show (0 : Int) ≤ 19 ∧ (19 : Int) ≤ 1000 by decide), (show 1 ≤ 100 by decide), (show 0 ≤ 100 by decide), rfl, (fun b hb => by rw [List.mem_singleton.1 hb]; rfl), (show 1 ≤ 100 by decide), fun _ _ => ⟨(show (0 : Int) ≤ 1 by decide), (show (1 : Int) < 9 by decide), (show 9 ≤ 1000 by decide), fitI_reg _ 3 (.inr rfl) _ _ (by decide) _ _ (show 1 ≤ 1 by decide)⟩⟩
  · rw [u3_2]
    exact ⟨(show (0 : Int) ≤ 18 ∧ (18 : Int) ≤ 1000 by decide), (show 0 ≤ 100 by decide), (show 0 ≤ 100 by decide), rfl, (fun b hb => by rw [List.mem_singleton.1 hb]; rfl), (show 1 ≤ 100 by decide), fun _ _ => ⟨(show (0 : Int) ≤ 2 by decide), (show (2 : Int) < 9 by decide), (show 9 ≤ 1000 by decide), fitI_reg _ 2 (.inl rfl) _ _ (by decide) _ _ (show 0 ≤ 0 by decide)⟩⟩
  · rw [u3_3]
    exact ⟨(show (0 : Int) ≤ 17 ∧ (17 : Int) ≤ 1000 by decide), (show 1 ≤ 100 by decide), (show 0 ≤ 100 by decide), rfl, (fun b hb => by rw [List.mem_singleton.1 hb]; rfl), (show 1 ≤ 100 by decide), fun _ _ => ⟨(show (0 : Int) ≤ 3 by decide), (show (3 : Int) < 9 by decide), (show 9 ≤ 1000 by decide), fitI_blk _ 5 (.inr rfl) _ _ _ rfl (show 1 ≤ 1 by decide)⟩⟩
  · rw [u3_4]
    exact ⟨(show (0 : Int) ≤ 16 ∧ (16 : Int) ≤ 1000 by decide), (show 0 ≤ 100 by decide), (show 0 ≤ 100 by decide), rfl, (fun b hb => by rw [List.mem_singleton.1 hb]; exact h8), (show 1 ≤ 100 by decide), fun _ _ => ⟨(show (0 : Int) ≤ 4 by decide), (show (4 : Int) < 9 by decide), (show 9 ≤ 1000 by decide), fitI_blk _ 4 (.inl rfl) _ _ _ rfl (show 0 ≤ 0 by decide)⟩⟩
  · rw [u3_5 n arg i hi]
    exact ⟨(show (0 : Int) ≤ 15 ∧ (15 : Int) ≤ 1000 by decide), (show 1 ≤ 100 by decide), (show 0 ≤ 100 by decide), rfl, (fun b hb => by rw [List.mem_singleton.1 hb]; exact h8), (show 1 ≤ 100 by decide), fun _ _ => ⟨(show (0 : Int) ≤ 5 by decide), (show (5 : Int) < 9 by decide), (show 9 ≤ 1000 by decide), fitI_emit _ _ _ _ _ (show 1 ≤ 1 by decide)⟩⟩
  · rw [u3_6 n arg i hi]
    exact ⟨(show (0 : Int) ≤ 14 ∧ (14 : Int) ≤ 1000 by decide), (show 0 ≤ 100 by decide), (show 1 ≤ 100 by decide), rfl, (fun b hb => by rw [List.mem_singleton.1 hb]; exact h8), (show 1 ≤ 100 by decide), fun _ _ => ⟨(show (0 : Int) ≤ 6 by decide), (show (6 : Int) < 9 by decide), (show 9 ≤ 1000 by decide), fitI_arg _ _ _ _ (show 0 < 1 by decide)⟩⟩
  · rw [u3_7 n arg i hi]
    exact ⟨(show (0 : Int) ≤ 13 ∧ (13 : Int) ≤ 1000 by decide), (show 1 ≤ 100 by decide), (show 1 ≤ 100 by decide), rfl, (fun b hb => by rw [List.mem_singleton.1 hb]; exact h8), (show 1 ≤ 100 by decide), fun _ _ => ⟨(show (0 : Int) ≤ 7 by decide), (show (7 : Int) < 9 by decide), (show 9 ≤ 1000 by decide), fitI_emit _ _ _ _ _ (show 1 ≤ 1 by decide)⟩⟩
  · rw [u3_8 n arg i hi]
    exact ⟨(show (0 : Int) ≤ 12 ∧ (12 : Int) ≤ 1000 by decide), (show 0 ≤ 100 by decide), (show 2 ≤ 100 by decide), rfl, (fun b hb => by rw [List.mem_singleton.1 hb]; exact h8), (show 1 ≤ 100 by decide), fun _ _ => ⟨(show (0 : Int) ≤ 8 by decide), (show (8 : Int) < 9 by decide), (show 9 ≤ 1000 by decide), fitI_end _ _ _ _ _⟩⟩
end

abbrev uW3 (n arg : Int) (i q : Nat) (X : World) : World := (((X.alloc (.cells #[.int .i64 3] 3)).alloc (.cells #[.int .i64 arg] 3)).alloc (.cells (ucC n 3 i) 43)).alloc (.cells (uC q) 25)
theorem uW3_in (n arg : Int) (i q : Nat) (X : World) (hq : X.heap.size = q) : CmIn (uW3 n arg i q X) (cmdU n arg 3 i) none 0 0 (some ⟨q, 0, none⟩) 1 1 (some ⟨q + 1, 0, none⟩) 1 1 (some ⟨q + 1 + 1, 0, none⟩) 9 9 ∧ (uW3 n arg i q X).heap.size = q + 1 + 1 + 1 + 1 ∧ Below X.heap.size X (uW3 n arg i q X) := by
  subst hq
  have b2 := below_alloc1 X (.cells #[.int .i64 3] 3)
  have b3 := below_alloc1 (X.alloc (.cells #[.int .i64 3] 3)) (.cells #[.int .i64 arg] 3)
  have b4 := below_alloc1 ((X.alloc (.cells #[.int .i64 3] 3)).alloc (.cells #[.int .i64 arg] 3)) (.cells (ucC n 3 i) 43)
  have b5 := below_alloc1 (((X.alloc (.cells #[.int .i64 3] 3)).alloc (.cells #[.int .i64 arg] 3)).alloc (.cells (ucC n 3 i) 43)) (.cells (uC X.heap.size) 25)
  have k1 := ints_new [3] X
  have k2 := ints_new [arg] (X.alloc (.cells #[.int .i64 3] 3))
  have k3 := inss_new (codeU n 3 i) ((X.alloc (.cells #[.int .i64 3] 3)).alloc (.cells #[.int .i64 arg] 3))
  rw [World.size_alloc] at k2
  rw [World.size_alloc, World.size_alloc] at k3
  refine ⟨⟨rfl, rfl, rfl, rfl, ⟨rfl, Nat.le_refl _, fun _ => ⟨rfl, rfl⟩, fun h => absurd h (show ¬ 0 < 0 by decide)⟩, Ints.below k1 (bnext (bnext b3 b4) b5), Ints.below k2 (bnext b4 b5), Inss.below k3 b5, by decide, by decide, by decide, by decide⟩, by simp only [World.size_alloc], bnext (bnext (bnext b2 b3) b4) b5⟩

theorem wentU3 (n arg : Int) (i q : Nat) (hi : i < 8) (X : World) (hq : X.heap.size = q) :
    Calls Try.prog 17 #[.agg (uC q), .slice (some ⟨q + 1 + 1 + 1 + 1, 0, none⟩) 1 1, .int .i64 9] ((uW3 n arg i q X).alloc (.cells #[.int .i64 0, .int .i64 0, .int .i64 0, .int .i64 0, .int .i64 0, .int .i64 0, .int .i64 0, .int .i64 0] 40)) (WLit 9 11 [] 0 0 0 n [n, arg] true 0 [putC z8 i n] ((uW3 n arg i q X).alloc (.cells #[.int .i64 0, .int .i64 0, .int .i64 0, .int .i64 0, .int .i64 0, .int .i64 0, .int .i64 0, .int .i64 0] 40))) := by
  obtain ⟨hc, hs, hb⟩ := uW3_in n arg i q X hq
  have k := Bk.new (uW3 n arg i q X) 40 #[.int .i64 0, .int .i64 0, .int .i64 0, .int .i64 0, .int .i64 0, .int .i64 0, .int .i64 0, .int .i64 0]
  rw [hs] at k
  have hO : Sl ((uW3 n arg i q X).alloc (.cells #[.int .i64 0, .int .i64 0, .int .i64 0, .int .i64 0, .int .i64 0, .int .i64 0, .int .i64 0, .int .i64 0] 40)) 8 (some ⟨q + 1 + 1 + 1 + 1, 0, none⟩) 1 1 (blksW [z8]) := ⟨rfl, Nat.le_refl _, fun h => (by cases h), fun _ => ⟨_, _, rfl, k.lt, fun j hj => by
    rw [k.cell]
    rcases (show j = 0 ∨ j = 1 ∨ j = 2 ∨ j = 3 ∨ j = 4 ∨ j = 5 ∨ j = 6 ∨ j = 7 by omega) with rfl | rfl | rfl | rfl | rfl | rfl | rfl | rfl <;> rfl⟩⟩
  have h := went_any none 0 0 (some ⟨q, 0, none⟩) 1 1 (some ⟨q + 1, 0, none⟩) 1 1 (some ⟨q + 1 + 1, 0, none⟩) 9 9 (cmdU n arg 3 i) [z8] 9 _ 1 1 _ (hc.below (below_alloc1 _ _)) hO (by decide) (fitU3 n arg i hi)
  rw [u3_9 n arg i hi] at h
  exact h

set_option maxHeartbeats 2000000 in
theorem keeps3 (n arg x y : Int) (hx : 0 ≤ x ∧ x ≤ 255) (hy : 0 ≤ y ∧ y ≤ 255) (hq : x % 4 = 3) (i : Nat) (hi : i < 8) (hqi : y % 8 = i) (w : World) :
    Calls Try.prog 8 #[.int .i64 n, .int .i64 arg, .agg #[.int .u8 x, .int .u8 y]] w fun e w' => e = .returned (.bool true) ∧ Below w.heap.size w w' := by
  obtain ⟨W0, hW0⟩ : ∃ W0, W0 = w.alloc (.cells #[.int .u8 x, .int .u8 y] 48) := ⟨_, rfl⟩
  have hsz : Hid (∀ q, ((w.alloc (.cells #[.int .u8 x, .int .u8 y] 48)).drewN q).heap.size = w.heap.size + 1) := Lib.hid (fun q => by simp only [World.heap_drewN, World.size_alloc])
  have hw := Lib.hid (fun q => wentU3 n arg i (w.heap.size + 1) hi ((w.alloc (.cells #[.int .u8 x, .int .u8 y] 48)).drewN q) (hsz.out q))
  have BW : Hid (∀ q, Below w.heap.size w ((uW3 n arg i (w.heap.size + 1) ((w.alloc (.cells #[.int .u8 x, .int .u8 y] 48)).drewN q)).alloc (.cells #[.int .i64 0, .int .i64 0, .int .i64 0, .int .i64 0, .int .i64 0, .int .i64 0, .int .i64 0, .int .i64 0] 40))) := Lib.hid (fun q => bnext (bnext (bnext (below_alloc1 _ _) (drewN_below _ q)) (uW3_in n arg i _ _ (hsz.out q)).2.2) (below_alloc1 _ _))
  have aw := Lib.hid (fun W => awake10 W)
  have hp := Lib.hid (put_z8 n i hi)
  have e1 : (i : Int) < 8 := by omega
  clear hW0 W0
  go_enter Try.func8, Try.ntmps8
  go_wp2
  go_quiet (fail)
  clear hq hqi
  go_wp2_with (first
    | (go_at_call 17; go_must ((with_reducible refine (hw.out _).mono ?_); rintro e w1 ⟨sA, sn, sc, oA, on, oc, bA, bn, bc, rfl, m, hb⟩; obtain ⟨rfl, rfl, rfl⟩ : sn = 0 ∧ on = 2 ∧ bn = 1 := m.lens (fun b hb => by rw [List.mem_singleton.1 hb]; exact hp.out.1); have B1 := Lib.hid (bnext (bnext (BW.out _) hb) (var_below w1 (mC 9 11 (.slice sA 0 sc) 0 0 0 n (.slice oA 2 oc) true 0))); have M1 := Lib.hid (m.below (var_below w1 (mC 9 11 (.slice sA 0 sc) 0 0 0 n (.slice oA 2 oc) true 0))); have K1 := Lib.hid (var_bk w1 (mC 9 11 (.slice sA 0 sc) 0 0 0 n (.slice oA 2 oc) true 0)); have N1 := Lib.hid (Bk.new w1 32 mZ); clear m hb))
    | (with_reducible refine st_mach w1.heap.size N1.out rfl rfl _ _ rfl rfl rfl rfl ?_)
    | (go_at_call 10; go_must ((with_reducible refine (aw.out _).mono ?_); rintro e w2 ⟨rfl, hb2⟩; have B2 := Lib.hid (bnext B1.out hb2); have kl := (K1.out.below hb2).lt; have t8 : w2.cell? ⟨w1.heap.size, 8, none⟩ = some (.bool true) := (K1.out.below hb2).cell 8; have t9 : w2.cell? ⟨w1.heap.size, 9, none⟩ = some (.int .i64 0) := (K1.out.below hb2).cell 9; have t1 : w2.cell? ⟨w1.heap.size, 1, none⟩ = some (.int .i64 11) := (K1.out.below hb2).cell 1; have tr : w2.cell? ⟨w1.heap.size, 6, none⟩ = some (.int .i64 n) := (K1.out.below hb2).cell 6; obtain ⟨g, off, rfl, hg, hv⟩ := (M1.out.below hb2).ou.int (j := 0) (by decide); obtain ⟨g', off', hgg, -, hv1⟩ := (M1.out.below hb2).ou.int (j := 1) (by decide); obtain ⟨rfl, rfl⟩ : g = g' ∧ off = off' := (by simpa using hgg); have t7 : w2.cell? ⟨w1.heap.size, 7, none⟩ = some (.slice (some ⟨g, off, none⟩) 2 oc) := (K1.out.below hb2).cell 7; have hv' : w2.cell? ⟨g, off, none⟩ = some (.int .i64 n) := hv; have hv1' : w2.cell? ⟨g, off + 1, none⟩ = some (.int .i64 arg) := hv1; obtain ⟨gb, ob, rfl, hgb, hvb⟩ := (M1.out.below hb2).bk.2.2.2 (by decide); have hb8 : w2.cell? ⟨gb, ob + i, none⟩ = some (.int .i64 n) := (by rw [hvb i (by omega)]; have hat := blksW_at [putC z8 i n] (fun b hb => by rw [List.mem_singleton.1 hb]; exact hp.out.1) 0 (Nat.succ_pos 0) i hi; rw [Nat.zero_mul, Nat.zero_add] at hat; rw [hat]; exact congrArg (fun z => some (Value.int .i64 z)) hp.out.2.2); clear hv hv1 hgg hvb hb2)))
  go_ret
  exact ⟨rfl, B2.out⟩

theorem machineKeeps_walk (n arg x y : Int) (hx : 0 ≤ x ∧ x ≤ 255) (hy : 0 ≤ y ∧ y ≤ 255) (w : World) : Calls Try.prog 8 #[.int .i64 n, .int .i64 arg, .agg #[.int .u8 x, .int .u8 y]] w fun e w' => e = .returned (.bool true) ∧ Below w.heap.size w w' := by
  obtain ⟨i, hi⟩ : ∃ i : Nat, y % 8 = i := ⟨(y % 8).toNat, by omega⟩
  rcases (show x % 4 = 0 ∨ x % 4 = 1 ∨ x % 4 = 2 ∨ x % 4 = 3 by omega) with h | h | h | h
  · exact keeps0 n arg x y hx hy h i (by omega) hi w
  · exact keeps1 n arg x y hx hy h i (by omega) hi w
  · exact keeps2 n arg x y hx hy h i (by omega) hi w
  · exact keeps3 n arg x y hx hy h i (by omega) hi w

end Go.Proofs.Ytehaknnoplcbcaa
