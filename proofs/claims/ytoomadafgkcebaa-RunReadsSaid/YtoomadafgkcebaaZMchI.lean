/-
  What machine.takes answers of a keep, in whatever memory. No conditions but those that stand there.
-/
import Derived.Test.YtoomadafgkcebaaZMchG
namespace Go.Proofs.Ytoomadafgkcebaa
open Go.RowKit

section
variable (pc fuel : Int) (sA : Option Addr) (sc : Nat) (r0 r1 r2 r3 : Int) (oA : Option Addr) (on oc : Nat) (ov : Bool) (e0 : Int) (bA : Option Addr) (bn bc : Nat)

theorem takes_keep0 (k : Nat) (b : Int) (B : Nat) (st ou : List Int) (own : Blks) (w : World) (hB : B ≤ w.heap.size) (hR : MRow B w st ou own sA (k + 1) sc oA on oc bA bn bc) (hk : k ≤ 1000) :
    Calls Try.prog 40 #[.agg #[.int .i64 3, .int .i64 0, .int .i64 b], .agg (mC pc fuel (.slice sA (k + 1 : Nat) sc) r0 r1 r2 r3 (.slice oA on oc) ov e0), .slice bA bn bc] w
      (StepPost B (.slice sA (k + 1 : Nat) sc) (.slice oA on oc) (.slice bA bn bc) pc fuel (st.take k) (st[k]?.getD 0) r1 r2 r3 ou ov e0 own w) := by
  obtain ⟨g, rfl, hg, hsc, hv⟩ := hR.top (j := k) (Nat.le_refl _)
  have hb0 := nR_below ⟨3, 0, b⟩ (mC pc fuel (.slice (some ⟨g, 0, none⟩) (k + 1 : Nat) sc) r0 r1 r2 r3 (.slice oA on oc) ov e0) w
  have hat := Lib.hid (atInt_in g 0 (k + 1) sc k _ (nR ⟨3, 0, b⟩ (mC pc fuel (.slice (some ⟨g, 0, none⟩) (k + 1 : Nat) sc) r0 r1 r2 r3 (.slice oA on oc) ov e0) w) (by omega) hsc ((hb0.cell (p := ⟨g, 0 + k, none⟩) hg).trans hv))
  have hk2 : (k : Int) < (sc : Int) := by omega
  generalize st[k]?.getD 0 = top at *
  have hR' := Lib.hid (hR.cut (k := k) (by omega))
  clear hv hR hb0
  have hat2 : Hid (∀ n, Calls Try.prog 43 #[.slice (some ⟨w.heap.size + 1, 3, none⟩) 4 4, .int .i64 0] ((nR ⟨3, 0, b⟩ (mC pc fuel (.slice (some ⟨g, 0, none⟩) k sc) r0 r1 r2 r3 (.slice oA on oc) ov e0) w).drewN n)
      fun e w' => e = .returned (.tuple #[.int .i64 r0, .bool true]) ∧ w' = (nR ⟨3, 0, b⟩ (mC pc fuel (.slice (some ⟨g, 0, none⟩) k sc) r0 r1 r2 r3 (.slice oA on oc) ov e0) w).drewN n) := Lib.hid (fun n =>
    (atInt_in (w.heap.size + 1) 3 4 4 0 _ _ (by decide) (Nat.le_refl _) (((nR_box ⟨3, 0, b⟩ _ w).drewN n).cell (3))).mono fun e w' ⟨h1, h2⟩ => ⟨h1, h2.symm⟩)
  have hbx : Hid (∀ n, Bk (((nR ⟨3, 0, b⟩ (mC pc fuel (.slice (some ⟨g, 0, none⟩) k sc) r0 r1 r2 r3 (.slice oA on oc) ov e0) w).drewN n).setCell ⟨w.heap.size + 1, 3, none⟩ (.int .i64 top)) (w.heap.size + 1) 32 (mC pc fuel (.slice (some ⟨g, 0, none⟩) k sc) top r1 r2 r3 (.slice oA on oc) ov e0)) := Lib.hid (fun n => by
    have := ((nR_box ⟨3, 0, b⟩ (mC pc fuel (.slice (some ⟨g, 0, none⟩) k sc) r0 r1 r2 r3 (.slice oA on oc) ov e0) w).drewN n).set (3) (.int .i64 top)
    simpa using this)
  have hrs : Hid (∀ n, Bk (((nR ⟨3, 0, b⟩ (mC pc fuel (.slice (some ⟨g, 0, none⟩) k sc) r0 r1 r2 r3 (.slice oA on oc) ov e0) w).drewN n).setCell ⟨w.heap.size + 1, 3, none⟩ (.int .i64 top)) (w.heap.size + 1 + 1) 32 mZ) := Lib.hid (fun n =>
    ((nR_res ⟨3, 0, b⟩ (mC pc fuel (.slice (some ⟨g, 0, none⟩) k sc) r0 r1 r2 r3 (.slice oA on oc) ov e0) w).drewN n).far (p := ⟨w.heap.size + 1, 3, none⟩) (by simp) _)
  have hbe := Lib.hid (fun n => bnext (nR_below ⟨3, 0, b⟩ (mC pc fuel (.slice (some ⟨g, 0, none⟩) k sc) r0 r1 r2 r3 (.slice oA on oc) ov e0) w) (drewN_below _ n))
  go_enter Try.func40, Try.ntmps40
  go_wp2_with (go_at_call 43; go_must ((with_reducible refine hat.out.mono ?_); rintro e w1 ⟨rfl, rfl⟩))
  go_quiet ((go_at_call 43; exact Calls.quiet_of_same (hat2.out _)))
  go_wp2_with (first
    | (with_reducible refine ld_mach (w.heap.size + 1) (hbx.out _) _ rfl rfl rfl ?_)
    | (with_reducible refine st_mach (w.heap.size + 1 + 1) (hrs.out _) rfl rfl _ _ rfl rfl rfl rfl ?_))
  exact bodyPost_ret (v := .tuple #[.agg (mC pc fuel (.slice (some ⟨g, 0, none⟩) k sc) top r1 r2 r3 (.slice oA on oc) ov e0), .slice bA bn bc]) (res2_mach rfl _ _ (w.heap.size + 1 + 1) _ rfl rfl (Bk.setRow (hrs.out _) _)) rfl
    ⟨_, _, _, _, _, _, _, _, _, rfl, ((hR'.out.below (hbe.out _)).set (hR'.out.off (by omega)) _ _).setRow (hR'.out.off (by omega)) _, ((Rows3.start hB (hbe.out _)).set hB (by omega) _ _).setRow hB (by omega) _⟩

theorem takes_keep1 (k : Nat) (b : Int) (B : Nat) (st ou : List Int) (own : Blks) (w : World) (hB : B ≤ w.heap.size) (hR : MRow B w st ou own sA (k + 1) sc oA on oc bA bn bc) (hk : k ≤ 1000) :
    Calls Try.prog 40 #[.agg #[.int .i64 3, .int .i64 1, .int .i64 b], .agg (mC pc fuel (.slice sA (k + 1 : Nat) sc) r0 r1 r2 r3 (.slice oA on oc) ov e0), .slice bA bn bc] w
      (StepPost B (.slice sA (k + 1 : Nat) sc) (.slice oA on oc) (.slice bA bn bc) pc fuel (st.take k) r0 (st[k]?.getD 0) r2 r3 ou ov e0 own w) := by
  obtain ⟨g, rfl, hg, hsc, hv⟩ := hR.top (j := k) (Nat.le_refl _)
  have hb0 := nR_below ⟨3, 1, b⟩ (mC pc fuel (.slice (some ⟨g, 0, none⟩) (k + 1 : Nat) sc) r0 r1 r2 r3 (.slice oA on oc) ov e0) w
  have hat := Lib.hid (atInt_in g 0 (k + 1) sc k _ (nR ⟨3, 1, b⟩ (mC pc fuel (.slice (some ⟨g, 0, none⟩) (k + 1 : Nat) sc) r0 r1 r2 r3 (.slice oA on oc) ov e0) w) (by omega) hsc ((hb0.cell (p := ⟨g, 0 + k, none⟩) hg).trans hv))
  have hk2 : (k : Int) < (sc : Int) := by omega
  generalize st[k]?.getD 0 = top at *
  have hR' := Lib.hid (hR.cut (k := k) (by omega))
  clear hv hR hb0
  have hat2 : Hid (∀ n, Calls Try.prog 43 #[.slice (some ⟨w.heap.size + 1, 3, none⟩) 4 4, .int .i64 1] ((nR ⟨3, 1, b⟩ (mC pc fuel (.slice (some ⟨g, 0, none⟩) k sc) r0 r1 r2 r3 (.slice oA on oc) ov e0) w).drewN n)
      fun e w' => e = .returned (.tuple #[.int .i64 r1, .bool true]) ∧ w' = (nR ⟨3, 1, b⟩ (mC pc fuel (.slice (some ⟨g, 0, none⟩) k sc) r0 r1 r2 r3 (.slice oA on oc) ov e0) w).drewN n) := Lib.hid (fun n =>
    (atInt_in (w.heap.size + 1) 3 4 4 1 _ _ (by decide) (Nat.le_refl _) (((nR_box ⟨3, 1, b⟩ _ w).drewN n).cell (4))).mono fun e w' ⟨h1, h2⟩ => ⟨h1, h2.symm⟩)
  have hbx : Hid (∀ n, Bk (((nR ⟨3, 1, b⟩ (mC pc fuel (.slice (some ⟨g, 0, none⟩) k sc) r0 r1 r2 r3 (.slice oA on oc) ov e0) w).drewN n).setCell ⟨w.heap.size + 1, 4, none⟩ (.int .i64 top)) (w.heap.size + 1) 32 (mC pc fuel (.slice (some ⟨g, 0, none⟩) k sc) r0 top r2 r3 (.slice oA on oc) ov e0)) := Lib.hid (fun n => by
    have := ((nR_box ⟨3, 1, b⟩ (mC pc fuel (.slice (some ⟨g, 0, none⟩) k sc) r0 r1 r2 r3 (.slice oA on oc) ov e0) w).drewN n).set (4) (.int .i64 top)
    simpa using this)
  have hrs : Hid (∀ n, Bk (((nR ⟨3, 1, b⟩ (mC pc fuel (.slice (some ⟨g, 0, none⟩) k sc) r0 r1 r2 r3 (.slice oA on oc) ov e0) w).drewN n).setCell ⟨w.heap.size + 1, 4, none⟩ (.int .i64 top)) (w.heap.size + 1 + 1) 32 mZ) := Lib.hid (fun n =>
    ((nR_res ⟨3, 1, b⟩ (mC pc fuel (.slice (some ⟨g, 0, none⟩) k sc) r0 r1 r2 r3 (.slice oA on oc) ov e0) w).drewN n).far (p := ⟨w.heap.size + 1, 4, none⟩) (by simp) _)
  have hbe := Lib.hid (fun n => bnext (nR_below ⟨3, 1, b⟩ (mC pc fuel (.slice (some ⟨g, 0, none⟩) k sc) r0 r1 r2 r3 (.slice oA on oc) ov e0) w) (drewN_below _ n))
  go_enter Try.func40, Try.ntmps40
  go_wp2_with (go_at_call 43; go_must ((with_reducible refine hat.out.mono ?_); rintro e w1 ⟨rfl, rfl⟩))
  go_quiet ((go_at_call 43; exact Calls.quiet_of_same (hat2.out _)))
  go_wp2_with (first
    | (with_reducible refine ld_mach (w.heap.size + 1) (hbx.out _) _ rfl rfl rfl ?_)
    | (with_reducible refine st_mach (w.heap.size + 1 + 1) (hrs.out _) rfl rfl _ _ rfl rfl rfl rfl ?_))
  exact bodyPost_ret (v := .tuple #[.agg (mC pc fuel (.slice (some ⟨g, 0, none⟩) k sc) r0 top r2 r3 (.slice oA on oc) ov e0), .slice bA bn bc]) (res2_mach rfl _ _ (w.heap.size + 1 + 1) _ rfl rfl (Bk.setRow (hrs.out _) _)) rfl
    ⟨_, _, _, _, _, _, _, _, _, rfl, ((hR'.out.below (hbe.out _)).set (hR'.out.off (by omega)) _ _).setRow (hR'.out.off (by omega)) _, ((Rows3.start hB (hbe.out _)).set hB (by omega) _ _).setRow hB (by omega) _⟩

theorem takes_keep2 (k : Nat) (b : Int) (B : Nat) (st ou : List Int) (own : Blks) (w : World) (hB : B ≤ w.heap.size) (hR : MRow B w st ou own sA (k + 1) sc oA on oc bA bn bc) (hk : k ≤ 1000) :
    Calls Try.prog 40 #[.agg #[.int .i64 3, .int .i64 2, .int .i64 b], .agg (mC pc fuel (.slice sA (k + 1 : Nat) sc) r0 r1 r2 r3 (.slice oA on oc) ov e0), .slice bA bn bc] w
      (StepPost B (.slice sA (k + 1 : Nat) sc) (.slice oA on oc) (.slice bA bn bc) pc fuel (st.take k) r0 r1 (st[k]?.getD 0) r3 ou ov e0 own w) := by
  obtain ⟨g, rfl, hg, hsc, hv⟩ := hR.top (j := k) (Nat.le_refl _)
  have hb0 := nR_below ⟨3, 2, b⟩ (mC pc fuel (.slice (some ⟨g, 0, none⟩) (k + 1 : Nat) sc) r0 r1 r2 r3 (.slice oA on oc) ov e0) w
  have hat := Lib.hid (atInt_in g 0 (k + 1) sc k _ (nR ⟨3, 2, b⟩ (mC pc fuel (.slice (some ⟨g, 0, none⟩) (k + 1 : Nat) sc) r0 r1 r2 r3 (.slice oA on oc) ov e0) w) (by omega) hsc ((hb0.cell (p := ⟨g, 0 + k, none⟩) hg).trans hv))
  have hk2 : (k : Int) < (sc : Int) := by omega
  generalize st[k]?.getD 0 = top at *
  have hR' := Lib.hid (hR.cut (k := k) (by omega))
  clear hv hR hb0
  have hat2 : Hid (∀ n, Calls Try.prog 43 #[.slice (some ⟨w.heap.size + 1, 3, none⟩) 4 4, .int .i64 2] ((nR ⟨3, 2, b⟩ (mC pc fuel (.slice (some ⟨g, 0, none⟩) k sc) r0 r1 r2 r3 (.slice oA on oc) ov e0) w).drewN n)
      fun e w' => e = .returned (.tuple #[.int .i64 r2, .bool true]) ∧ w' = (nR ⟨3, 2, b⟩ (mC pc fuel (.slice (some ⟨g, 0, none⟩) k sc) r0 r1 r2 r3 (.slice oA on oc) ov e0) w).drewN n) := Lib.hid (fun n =>
    (atInt_in (w.heap.size + 1) 3 4 4 2 _ _ (by decide) (Nat.le_refl _) (((nR_box ⟨3, 2, b⟩ _ w).drewN n).cell (5))).mono fun e w' ⟨h1, h2⟩ => ⟨h1, h2.symm⟩)
  have hbx : Hid (∀ n, Bk (((nR ⟨3, 2, b⟩ (mC pc fuel (.slice (some ⟨g, 0, none⟩) k sc) r0 r1 r2 r3 (.slice oA on oc) ov e0) w).drewN n).setCell ⟨w.heap.size + 1, 5, none⟩ (.int .i64 top)) (w.heap.size + 1) 32 (mC pc fuel (.slice (some ⟨g, 0, none⟩) k sc) r0 r1 top r3 (.slice oA on oc) ov e0)) := Lib.hid (fun n => by
    have := ((nR_box ⟨3, 2, b⟩ (mC pc fuel (.slice (some ⟨g, 0, none⟩) k sc) r0 r1 r2 r3 (.slice oA on oc) ov e0) w).drewN n).set (5) (.int .i64 top)
    simpa using this)
  have hrs : Hid (∀ n, Bk (((nR ⟨3, 2, b⟩ (mC pc fuel (.slice (some ⟨g, 0, none⟩) k sc) r0 r1 r2 r3 (.slice oA on oc) ov e0) w).drewN n).setCell ⟨w.heap.size + 1, 5, none⟩ (.int .i64 top)) (w.heap.size + 1 + 1) 32 mZ) := Lib.hid (fun n =>
    ((nR_res ⟨3, 2, b⟩ (mC pc fuel (.slice (some ⟨g, 0, none⟩) k sc) r0 r1 r2 r3 (.slice oA on oc) ov e0) w).drewN n).far (p := ⟨w.heap.size + 1, 5, none⟩) (by simp) _)
  have hbe := Lib.hid (fun n => bnext (nR_below ⟨3, 2, b⟩ (mC pc fuel (.slice (some ⟨g, 0, none⟩) k sc) r0 r1 r2 r3 (.slice oA on oc) ov e0) w) (drewN_below _ n))
  go_enter Try.func40, Try.ntmps40
  go_wp2_with (go_at_call 43; go_must ((with_reducible refine hat.out.mono ?_); rintro e w1 ⟨rfl, rfl⟩))
  go_quiet ((go_at_call 43; exact Calls.quiet_of_same (hat2.out _)))
  go_wp2_with (first
    | (with_reducible refine ld_mach (w.heap.size + 1) (hbx.out _) _ rfl rfl rfl ?_)
    | (with_reducible refine st_mach (w.heap.size + 1 + 1) (hrs.out _) rfl rfl _ _ rfl rfl rfl rfl ?_))
  exact bodyPost_ret (v := .tuple #[.agg (mC pc fuel (.slice (some ⟨g, 0, none⟩) k sc) r0 r1 top r3 (.slice oA on oc) ov e0), .slice bA bn bc]) (res2_mach rfl _ _ (w.heap.size + 1 + 1) _ rfl rfl (Bk.setRow (hrs.out _) _)) rfl
    ⟨_, _, _, _, _, _, _, _, _, rfl, ((hR'.out.below (hbe.out _)).set (hR'.out.off (by omega)) _ _).setRow (hR'.out.off (by omega)) _, ((Rows3.start hB (hbe.out _)).set hB (by omega) _ _).setRow hB (by omega) _⟩

theorem takes_keep3 (k : Nat) (b : Int) (B : Nat) (st ou : List Int) (own : Blks) (w : World) (hB : B ≤ w.heap.size) (hR : MRow B w st ou own sA (k + 1) sc oA on oc bA bn bc) (hk : k ≤ 1000) :
    Calls Try.prog 40 #[.agg #[.int .i64 3, .int .i64 3, .int .i64 b], .agg (mC pc fuel (.slice sA (k + 1 : Nat) sc) r0 r1 r2 r3 (.slice oA on oc) ov e0), .slice bA bn bc] w
      (StepPost B (.slice sA (k + 1 : Nat) sc) (.slice oA on oc) (.slice bA bn bc) pc fuel (st.take k) r0 r1 r2 (st[k]?.getD 0) ou ov e0 own w) := by
  obtain ⟨g, rfl, hg, hsc, hv⟩ := hR.top (j := k) (Nat.le_refl _)
  have hb0 := nR_below ⟨3, 3, b⟩ (mC pc fuel (.slice (some ⟨g, 0, none⟩) (k + 1 : Nat) sc) r0 r1 r2 r3 (.slice oA on oc) ov e0) w
  have hat := Lib.hid (atInt_in g 0 (k + 1) sc k _ (nR ⟨3, 3, b⟩ (mC pc fuel (.slice (some ⟨g, 0, none⟩) (k + 1 : Nat) sc) r0 r1 r2 r3 (.slice oA on oc) ov e0) w) (by omega) hsc ((hb0.cell (p := ⟨g, 0 + k, none⟩) hg).trans hv))
  have hk2 : (k : Int) < (sc : Int) := by omega
  generalize st[k]?.getD 0 = top at *
  have hR' := Lib.hid (hR.cut (k := k) (by omega))
  clear hv hR hb0
  have hat2 : Hid (∀ n, Calls Try.prog 43 #[.slice (some ⟨w.heap.size + 1, 3, none⟩) 4 4, .int .i64 3] ((nR ⟨3, 3, b⟩ (mC pc fuel (.slice (some ⟨g, 0, none⟩) k sc) r0 r1 r2 r3 (.slice oA on oc) ov e0) w).drewN n)
      fun e w' => e = .returned (.tuple #[.int .i64 r3, .bool true]) ∧ w' = (nR ⟨3, 3, b⟩ (mC pc fuel (.slice (some ⟨g, 0, none⟩) k sc) r0 r1 r2 r3 (.slice oA on oc) ov e0) w).drewN n) := Lib.hid (fun n =>
    (atInt_in (w.heap.size + 1) 3 4 4 3 _ _ (by decide) (Nat.le_refl _) (((nR_box ⟨3, 3, b⟩ _ w).drewN n).cell (6))).mono fun e w' ⟨h1, h2⟩ => ⟨h1, h2.symm⟩)
  have hbx : Hid (∀ n, Bk (((nR ⟨3, 3, b⟩ (mC pc fuel (.slice (some ⟨g, 0, none⟩) k sc) r0 r1 r2 r3 (.slice oA on oc) ov e0) w).drewN n).setCell ⟨w.heap.size + 1, 6, none⟩ (.int .i64 top)) (w.heap.size + 1) 32 (mC pc fuel (.slice (some ⟨g, 0, none⟩) k sc) r0 r1 r2 top (.slice oA on oc) ov e0)) := Lib.hid (fun n => by
    have := ((nR_box ⟨3, 3, b⟩ (mC pc fuel (.slice (some ⟨g, 0, none⟩) k sc) r0 r1 r2 r3 (.slice oA on oc) ov e0) w).drewN n).set (6) (.int .i64 top)
    simpa using this)
  have hrs : Hid (∀ n, Bk (((nR ⟨3, 3, b⟩ (mC pc fuel (.slice (some ⟨g, 0, none⟩) k sc) r0 r1 r2 r3 (.slice oA on oc) ov e0) w).drewN n).setCell ⟨w.heap.size + 1, 6, none⟩ (.int .i64 top)) (w.heap.size + 1 + 1) 32 mZ) := Lib.hid (fun n =>
    ((nR_res ⟨3, 3, b⟩ (mC pc fuel (.slice (some ⟨g, 0, none⟩) k sc) r0 r1 r2 r3 (.slice oA on oc) ov e0) w).drewN n).far (p := ⟨w.heap.size + 1, 6, none⟩) (by simp) _)
  have hbe := Lib.hid (fun n => bnext (nR_below ⟨3, 3, b⟩ (mC pc fuel (.slice (some ⟨g, 0, none⟩) k sc) r0 r1 r2 r3 (.slice oA on oc) ov e0) w) (drewN_below _ n))
  go_enter Try.func40, Try.ntmps40
  go_wp2_with (go_at_call 43; go_must ((with_reducible refine hat.out.mono ?_); rintro e w1 ⟨rfl, rfl⟩))
  go_quiet ((go_at_call 43; exact Calls.quiet_of_same (hat2.out _)))
  go_wp2_with (first
    | (with_reducible refine ld_mach (w.heap.size + 1) (hbx.out _) _ rfl rfl rfl ?_)
    | (with_reducible refine st_mach (w.heap.size + 1 + 1) (hrs.out _) rfl rfl _ _ rfl rfl rfl rfl ?_))
  exact bodyPost_ret (v := .tuple #[.agg (mC pc fuel (.slice (some ⟨g, 0, none⟩) k sc) r0 r1 r2 top (.slice oA on oc) ov e0), .slice bA bn bc]) (res2_mach rfl _ _ (w.heap.size + 1 + 1) _ rfl rfl (Bk.setRow (hrs.out _) _)) rfl
    ⟨_, _, _, _, _, _, _, _, _, rfl, ((hR'.out.below (hbe.out _)).set (hR'.out.off (by omega)) _ _).setRow (hR'.out.off (by omega)) _, ((Rows3.start hB (hbe.out _)).set hB (by omega) _ _).setRow hB (by omega) _⟩

end
end Go.Proofs.Ytoomadafgkcebaa
