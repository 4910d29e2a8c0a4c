/-
  What machine.behind answers, kind by kind, in whatever memory. No conditions but those that stand there.
-/
import Derived.Test.YtibmfhmeoohdeaaZMchH
import Derived.Test.YtibmfhmeoohdeaaQMchF
namespace Go.Proofs.Ytibmfhmeoohdeaa
open Go.RowKit

theorem Rows3.after {B : Nat} {S O A : Value} {w W w' : World} (hB : B ≤ w.heap.size) (hb : Below w.heap.size w W) (k : Rows3 B S O A W w') : Rows3 B S O A w w' :=
  ⟨(hb.mono hB).trans k.below, fun i hi h1 h2 h3 => (k.kept i (Nat.lt_of_lt_of_le hi hb.size) h1 h2 h3).trans (hb.block i hi)⟩

section
variable (pc fuel : Int) (sA : Option Addr) (sn sc : Nat) (r0 r1 r2 r3 : Int) (oA : Option Addr) (on oc : Nat) (ov : Bool) (e0 : Int) (aA : Option Addr) (an ac : Nat) (bA : Option Addr) (bn bc : Nat)

theorem behind_puts1 (v : Int) (a b : Int) (B : Nat) (st ou : List Int) (own : Blks) (w : World) (hB : B ≤ w.heap.size) (hR : MRow B w st ou own sA sn sc oA on oc bA bn bc) (hn : sn ≤ 1000)
    (hnm : ∀ W, Below w.heap.size w W → Calls Try.prog 53 #[.agg #[.int .i64 1, .int .i64 a, .int .i64 b], .slice aA an ac, .agg (mC pc fuel (.slice sA sn sc) r0 r1 r2 r3 (.slice oA on oc) ov e0), .slice bA bn bc] W (NamedPost v W)) :
    Calls Try.prog 44 #[.agg #[.int .i64 1, .int .i64 a, .int .i64 b], .slice aA an ac, .agg (mC pc fuel (.slice sA sn sc) r0 r1 r2 r3 (.slice oA on oc) ov e0), .slice bA bn bc] w
      (StepPost B (.slice sA sn sc) (.slice oA on oc) (.slice bA bn bc) pc fuel (st ++ [v]) r0 r1 r2 r3 ou ov e0 own w) := by
  have hbe := Lib.hid (nR_below ⟨1, a, b⟩ (mC pc fuel (.slice sA sn sc) r0 r1 r2 r3 (.slice oA on oc) ov e0) w)
  have hbx := Lib.hid (nR_box ⟨1, a, b⟩ (mC pc fuel (.slice sA sn sc) r0 r1 r2 r3 (.slice oA on oc) ov e0) w)
  have hrs := Lib.hid (nR_res ⟨1, a, b⟩ (mC pc fuel (.slice sA sn sc) r0 r1 r2 r3 (.slice oA on oc) ov e0) w)
  have HR := Lib.hid hR
  have hof := Lib.hid ((hR.below hbe.out).offM hrs.out)
  have hc := Lib.hid (puts_any pc fuel sA sn sc r0 r1 r2 r3 oA on oc ov e0 aA an ac bA bn bc ⟨1, a, b⟩ B st ou own v (nR ⟨1, a, b⟩ (mC pc fuel (.slice sA sn sc) r0 r1 r2 r3 (.slice oA on oc) ov e0) w) (Nat.le_trans hB hbe.out.size) (hR.below hbe.out) hn (fun W hW => hnm W (bnext hbe.out hW)))
  clear hR hnm
  go_enter Try.func44, Try.ntmps44
  go_wp2_with (first
    | (with_reducible refine ld_mach (w.heap.size + 1) hbx.out _ rfl rfl rfl ?_)
    | (go_at_call 50; go_must ((with_reducible refine hc.out.mono ?_); rintro e w1 ⟨g, cap, rfl, M1, B1⟩; have R1 := Lib.hid (B1.bk hrs.out hof.out.1 hof.out.2.1 hof.out.2.2); have M2 := Lib.hid M1; have B2 := Lib.hid (Rows3.after hB hbe.out B1); clear M1 B1))
    | (with_reducible refine st_mach (w.heap.size + 1 + 1) R1.out rfl rfl _ _ rfl rfl rfl rfl ?_))
  exact bodyPost_ret (v := .tuple #[.agg (mC pc fuel (.slice (some ⟨g, 0, none⟩) (sn + 1) cap) r0 r1 r2 r3 (.slice oA on oc) ov e0), .slice bA bn bc]) (res2_mach rfl _ _ (w.heap.size + 1 + 1) _ rfl rfl (Bk.setRow R1.out _)) rfl
    ⟨_, _, _, _, _, _, _, _, _, rfl, M2.out.setRow (M2.out.offM R1.out) _, B2.out.setRow hB (by omega) _⟩

theorem behind_puts2 (v : Int) (a b : Int) (B : Nat) (st ou : List Int) (own : Blks) (w : World) (hB : B ≤ w.heap.size) (hR : MRow B w st ou own sA sn sc oA on oc bA bn bc) (hn : sn ≤ 1000)
    (hnm : ∀ W, Below w.heap.size w W → Calls Try.prog 53 #[.agg #[.int .i64 2, .int .i64 a, .int .i64 b], .slice aA an ac, .agg (mC pc fuel (.slice sA sn sc) r0 r1 r2 r3 (.slice oA on oc) ov e0), .slice bA bn bc] W (NamedPost v W)) :
    Calls Try.prog 44 #[.agg #[.int .i64 2, .int .i64 a, .int .i64 b], .slice aA an ac, .agg (mC pc fuel (.slice sA sn sc) r0 r1 r2 r3 (.slice oA on oc) ov e0), .slice bA bn bc] w
      (StepPost B (.slice sA sn sc) (.slice oA on oc) (.slice bA bn bc) pc fuel (st ++ [v]) r0 r1 r2 r3 ou ov e0 own w) := by
  have hbe := Lib.hid (nR_below ⟨2, a, b⟩ (mC pc fuel (.slice sA sn sc) r0 r1 r2 r3 (.slice oA on oc) ov e0) w)
  have hbx := Lib.hid (nR_box ⟨2, a, b⟩ (mC pc fuel (.slice sA sn sc) r0 r1 r2 r3 (.slice oA on oc) ov e0) w)
  have hrs := Lib.hid (nR_res ⟨2, a, b⟩ (mC pc fuel (.slice sA sn sc) r0 r1 r2 r3 (.slice oA on oc) ov e0) w)
  have HR := Lib.hid hR
  have hof := Lib.hid ((hR.below hbe.out).offM hrs.out)
  have hc := Lib.hid (puts_any pc fuel sA sn sc r0 r1 r2 r3 oA on oc ov e0 aA an ac bA bn bc ⟨2, a, b⟩ B st ou own v (nR ⟨2, a, b⟩ (mC pc fuel (.slice sA sn sc) r0 r1 r2 r3 (.slice oA on oc) ov e0) w) (Nat.le_trans hB hbe.out.size) (hR.below hbe.out) hn (fun W hW => hnm W (bnext hbe.out hW)))
  clear hR hnm
  go_enter Try.func44, Try.ntmps44
  go_wp2_with (first
    | (with_reducible refine ld_mach (w.heap.size + 1) hbx.out _ rfl rfl rfl ?_)
    | (go_at_call 50; go_must ((with_reducible refine hc.out.mono ?_); rintro e w1 ⟨g, cap, rfl, M1, B1⟩; have R1 := Lib.hid (B1.bk hrs.out hof.out.1 hof.out.2.1 hof.out.2.2); have M2 := Lib.hid M1; have B2 := Lib.hid (Rows3.after hB hbe.out B1); clear M1 B1))
    | (with_reducible refine st_mach (w.heap.size + 1 + 1) R1.out rfl rfl _ _ rfl rfl rfl rfl ?_))
  exact bodyPost_ret (v := .tuple #[.agg (mC pc fuel (.slice (some ⟨g, 0, none⟩) (sn + 1) cap) r0 r1 r2 r3 (.slice oA on oc) ov e0), .slice bA bn bc]) (res2_mach rfl _ _ (w.heap.size + 1 + 1) _ rfl rfl (Bk.setRow R1.out _)) rfl
    ⟨_, _, _, _, _, _, _, _, _, rfl, M2.out.setRow (M2.out.offM R1.out) _, B2.out.setRow hB (by omega) _⟩

theorem behind_puts4 (v : Int) (a b : Int) (B : Nat) (st ou : List Int) (own : Blks) (w : World) (hB : B ≤ w.heap.size) (hR : MRow B w st ou own sA sn sc oA on oc bA bn bc) (hn : sn ≤ 1000)
    (hnm : ∀ W, Below w.heap.size w W → Calls Try.prog 53 #[.agg #[.int .i64 4, .int .i64 a, .int .i64 b], .slice aA an ac, .agg (mC pc fuel (.slice sA sn sc) r0 r1 r2 r3 (.slice oA on oc) ov e0), .slice bA bn bc] W (NamedPost v W)) :
    Calls Try.prog 44 #[.agg #[.int .i64 4, .int .i64 a, .int .i64 b], .slice aA an ac, .agg (mC pc fuel (.slice sA sn sc) r0 r1 r2 r3 (.slice oA on oc) ov e0), .slice bA bn bc] w
      (StepPost B (.slice sA sn sc) (.slice oA on oc) (.slice bA bn bc) pc fuel (st ++ [v]) r0 r1 r2 r3 ou ov e0 own w) := by
  have hbe := Lib.hid (nR_below ⟨4, a, b⟩ (mC pc fuel (.slice sA sn sc) r0 r1 r2 r3 (.slice oA on oc) ov e0) w)
  have hbx := Lib.hid (nR_box ⟨4, a, b⟩ (mC pc fuel (.slice sA sn sc) r0 r1 r2 r3 (.slice oA on oc) ov e0) w)
  have hrs := Lib.hid (nR_res ⟨4, a, b⟩ (mC pc fuel (.slice sA sn sc) r0 r1 r2 r3 (.slice oA on oc) ov e0) w)
  have HR := Lib.hid hR
  have hof := Lib.hid ((hR.below hbe.out).offM hrs.out)
  have hc := Lib.hid (puts_any pc fuel sA sn sc r0 r1 r2 r3 oA on oc ov e0 aA an ac bA bn bc ⟨4, a, b⟩ B st ou own v (nR ⟨4, a, b⟩ (mC pc fuel (.slice sA sn sc) r0 r1 r2 r3 (.slice oA on oc) ov e0) w) (Nat.le_trans hB hbe.out.size) (hR.below hbe.out) hn (fun W hW => hnm W (bnext hbe.out hW)))
  clear hR hnm
  go_enter Try.func44, Try.ntmps44
  go_wp2_with (first
    | (with_reducible refine ld_mach (w.heap.size + 1) hbx.out _ rfl rfl rfl ?_)
    | (go_at_call 50; go_must ((with_reducible refine hc.out.mono ?_); rintro e w1 ⟨g, cap, rfl, M1, B1⟩; have R1 := Lib.hid (B1.bk hrs.out hof.out.1 hof.out.2.1 hof.out.2.2); have M2 := Lib.hid M1; have B2 := Lib.hid (Rows3.after hB hbe.out B1); clear M1 B1))
    | (with_reducible refine st_mach (w.heap.size + 1 + 1) R1.out rfl rfl _ _ rfl rfl rfl rfl ?_))
  exact bodyPost_ret (v := .tuple #[.agg (mC pc fuel (.slice (some ⟨g, 0, none⟩) (sn + 1) cap) r0 r1 r2 r3 (.slice oA on oc) ov e0), .slice bA bn bc]) (res2_mach rfl _ _ (w.heap.size + 1 + 1) _ rfl rfl (Bk.setRow R1.out _)) rfl
    ⟨_, _, _, _, _, _, _, _, _, rfl, M2.out.setRow (M2.out.offM R1.out) _, B2.out.setRow hB (by omega) _⟩

theorem behind_puts6 (v : Int) (a b : Int) (B : Nat) (st ou : List Int) (own : Blks) (w : World) (hB : B ≤ w.heap.size) (hR : MRow B w st ou own sA sn sc oA on oc bA bn bc) (hn : sn ≤ 1000)
    (hnm : ∀ W, Below w.heap.size w W → Calls Try.prog 53 #[.agg #[.int .i64 6, .int .i64 a, .int .i64 b], .slice aA an ac, .agg (mC pc fuel (.slice sA sn sc) r0 r1 r2 r3 (.slice oA on oc) ov e0), .slice bA bn bc] W (NamedPost v W)) :
    Calls Try.prog 44 #[.agg #[.int .i64 6, .int .i64 a, .int .i64 b], .slice aA an ac, .agg (mC pc fuel (.slice sA sn sc) r0 r1 r2 r3 (.slice oA on oc) ov e0), .slice bA bn bc] w
      (StepPost B (.slice sA sn sc) (.slice oA on oc) (.slice bA bn bc) pc fuel (st ++ [v]) r0 r1 r2 r3 ou ov e0 own w) := by
  have hbe := Lib.hid (nR_below ⟨6, a, b⟩ (mC pc fuel (.slice sA sn sc) r0 r1 r2 r3 (.slice oA on oc) ov e0) w)
  have hbx := Lib.hid (nR_box ⟨6, a, b⟩ (mC pc fuel (.slice sA sn sc) r0 r1 r2 r3 (.slice oA on oc) ov e0) w)
  have hrs := Lib.hid (nR_res ⟨6, a, b⟩ (mC pc fuel (.slice sA sn sc) r0 r1 r2 r3 (.slice oA on oc) ov e0) w)
  have HR := Lib.hid hR
  have hof := Lib.hid ((hR.below hbe.out).offM hrs.out)
  have hc := Lib.hid (puts_any pc fuel sA sn sc r0 r1 r2 r3 oA on oc ov e0 aA an ac bA bn bc ⟨6, a, b⟩ B st ou own v (nR ⟨6, a, b⟩ (mC pc fuel (.slice sA sn sc) r0 r1 r2 r3 (.slice oA on oc) ov e0) w) (Nat.le_trans hB hbe.out.size) (hR.below hbe.out) hn (fun W hW => hnm W (bnext hbe.out hW)))
  clear hR hnm
  go_enter Try.func44, Try.ntmps44
  go_wp2_with (first
    | (with_reducible refine ld_mach (w.heap.size + 1) hbx.out _ rfl rfl rfl ?_)
    | (go_at_call 50; go_must ((with_reducible refine hc.out.mono ?_); rintro e w1 ⟨g, cap, rfl, M1, B1⟩; have R1 := Lib.hid (B1.bk hrs.out hof.out.1 hof.out.2.1 hof.out.2.2); have M2 := Lib.hid M1; have B2 := Lib.hid (Rows3.after hB hbe.out B1); clear M1 B1))
    | (with_reducible refine st_mach (w.heap.size + 1 + 1) R1.out rfl rfl _ _ rfl rfl rfl rfl ?_))
  exact bodyPost_ret (v := .tuple #[.agg (mC pc fuel (.slice (some ⟨g, 0, none⟩) (sn + 1) cap) r0 r1 r2 r3 (.slice oA on oc) ov e0), .slice bA bn bc]) (res2_mach rfl _ _ (w.heap.size + 1 + 1) _ rfl rfl (Bk.setRow R1.out _)) rfl
    ⟨_, _, _, _, _, _, _, _, _, rfl, M2.out.setRow (M2.out.offM R1.out) _, B2.out.setRow hB (by omega) _⟩

theorem behind_takes3 (pc' : Int) (st' ou' : List Int) (q0 q1 q2 q3 : Int) (own' : Blks) (a b : Int) (B : Nat) (st ou : List Int) (own : Blks) (w : World) (hB : B ≤ w.heap.size) (hR : MRow B w st ou own sA sn sc oA on oc bA bn bc)
    (htk : ∀ W, Below w.heap.size w W → Calls Try.prog 51 #[.agg #[.int .i64 3, .int .i64 a, .int .i64 b], .agg (mC pc fuel (.slice sA sn sc) r0 r1 r2 r3 (.slice oA on oc) ov e0), .slice bA bn bc] W (StepPost B (.slice sA sn sc) (.slice oA on oc) (.slice bA bn bc) pc' fuel st' q0 q1 q2 q3 ou' ov e0 own' W)) :
    Calls Try.prog 44 #[.agg #[.int .i64 3, .int .i64 a, .int .i64 b], .slice aA an ac, .agg (mC pc fuel (.slice sA sn sc) r0 r1 r2 r3 (.slice oA on oc) ov e0), .slice bA bn bc] w
      (StepPost B (.slice sA sn sc) (.slice oA on oc) (.slice bA bn bc) pc' fuel st' q0 q1 q2 q3 ou' ov e0 own' w) := by
  have hbe := Lib.hid (nR_below ⟨3, a, b⟩ (mC pc fuel (.slice sA sn sc) r0 r1 r2 r3 (.slice oA on oc) ov e0) w)
  have hbx := Lib.hid (nR_box ⟨3, a, b⟩ (mC pc fuel (.slice sA sn sc) r0 r1 r2 r3 (.slice oA on oc) ov e0) w)
  have hrs := Lib.hid (nR_res ⟨3, a, b⟩ (mC pc fuel (.slice sA sn sc) r0 r1 r2 r3 (.slice oA on oc) ov e0) w)
  have HR := Lib.hid hR
  have hof := Lib.hid ((hR.below hbe.out).offM hrs.out)
  have hc := Lib.hid (htk _ hbe.out)
  clear hR htk
  go_enter Try.func44, Try.ntmps44
  go_wp2_with (first
    | (with_reducible refine ld_mach (w.heap.size + 1) hbx.out _ rfl rfl rfl ?_)
    | (go_at_call 51; go_must ((with_reducible refine hc.out.mono ?_); rintro e w1 ⟨sA', sn', sc', oA', on', oc', bA', bn', bc', rfl, M1, B1⟩; have R1 := Lib.hid (B1.bk hrs.out hof.out.1 hof.out.2.1 hof.out.2.2); have M2 := Lib.hid M1; have B2 := Lib.hid (Rows3.after hB hbe.out B1); clear M1 B1))
    | (with_reducible refine st_mach (w.heap.size + 1 + 1) R1.out rfl rfl _ _ rfl rfl rfl rfl ?_))
  exact bodyPost_ret (v := .tuple #[.agg (mC pc' fuel (.slice sA' sn' sc') q0 q1 q2 q3 (.slice oA' on' oc') ov e0), .slice bA' bn' bc']) (res2_mach rfl _ _ (w.heap.size + 1 + 1) _ rfl rfl (Bk.setRow R1.out _)) rfl
    ⟨_, _, _, _, _, _, _, _, _, rfl, M2.out.setRow (M2.out.offM R1.out) _, B2.out.setRow hB (by omega) _⟩

theorem behind_takes5 (pc' : Int) (st' ou' : List Int) (q0 q1 q2 q3 : Int) (own' : Blks) (a b : Int) (B : Nat) (st ou : List Int) (own : Blks) (w : World) (hB : B ≤ w.heap.size) (hR : MRow B w st ou own sA sn sc oA on oc bA bn bc)
    (htk : ∀ W, Below w.heap.size w W → Calls Try.prog 51 #[.agg #[.int .i64 5, .int .i64 a, .int .i64 b], .agg (mC pc fuel (.slice sA sn sc) r0 r1 r2 r3 (.slice oA on oc) ov e0), .slice bA bn bc] W (StepPost B (.slice sA sn sc) (.slice oA on oc) (.slice bA bn bc) pc' fuel st' q0 q1 q2 q3 ou' ov e0 own' W)) :
    Calls Try.prog 44 #[.agg #[.int .i64 5, .int .i64 a, .int .i64 b], .slice aA an ac, .agg (mC pc fuel (.slice sA sn sc) r0 r1 r2 r3 (.slice oA on oc) ov e0), .slice bA bn bc] w
      (StepPost B (.slice sA sn sc) (.slice oA on oc) (.slice bA bn bc) pc' fuel st' q0 q1 q2 q3 ou' ov e0 own' w) := by
  have hbe := Lib.hid (nR_below ⟨5, a, b⟩ (mC pc fuel (.slice sA sn sc) r0 r1 r2 r3 (.slice oA on oc) ov e0) w)
  have hbx := Lib.hid (nR_box ⟨5, a, b⟩ (mC pc fuel (.slice sA sn sc) r0 r1 r2 r3 (.slice oA on oc) ov e0) w)
  have hrs := Lib.hid (nR_res ⟨5, a, b⟩ (mC pc fuel (.slice sA sn sc) r0 r1 r2 r3 (.slice oA on oc) ov e0) w)
  have HR := Lib.hid hR
  have hof := Lib.hid ((hR.below hbe.out).offM hrs.out)
  have hc := Lib.hid (htk _ hbe.out)
  clear hR htk
  go_enter Try.func44, Try.ntmps44
  go_wp2_with (first
    | (with_reducible refine ld_mach (w.heap.size + 1) hbx.out _ rfl rfl rfl ?_)
    | (go_at_call 51; go_must ((with_reducible refine hc.out.mono ?_); rintro e w1 ⟨sA', sn', sc', oA', on', oc', bA', bn', bc', rfl, M1, B1⟩; have R1 := Lib.hid (B1.bk hrs.out hof.out.1 hof.out.2.1 hof.out.2.2); have M2 := Lib.hid M1; have B2 := Lib.hid (Rows3.after hB hbe.out B1); clear M1 B1))
    | (with_reducible refine st_mach (w.heap.size + 1 + 1) R1.out rfl rfl _ _ rfl rfl rfl rfl ?_))
  exact bodyPost_ret (v := .tuple #[.agg (mC pc' fuel (.slice sA' sn' sc') q0 q1 q2 q3 (.slice oA' on' oc') ov e0), .slice bA' bn' bc']) (res2_mach rfl _ _ (w.heap.size + 1 + 1) _ rfl rfl (Bk.setRow R1.out _)) rfl
    ⟨_, _, _, _, _, _, _, _, _, rfl, M2.out.setRow (M2.out.offM R1.out) _, B2.out.setRow hB (by omega) _⟩

theorem behind_takes13 (pc' : Int) (st' ou' : List Int) (q0 q1 q2 q3 : Int) (own' : Blks) (a b : Int) (B : Nat) (st ou : List Int) (own : Blks) (w : World) (hB : B ≤ w.heap.size) (hR : MRow B w st ou own sA sn sc oA on oc bA bn bc)
    (htk : ∀ W, Below w.heap.size w W → Calls Try.prog 51 #[.agg #[.int .i64 13, .int .i64 a, .int .i64 b], .agg (mC pc fuel (.slice sA sn sc) r0 r1 r2 r3 (.slice oA on oc) ov e0), .slice bA bn bc] W (StepPost B (.slice sA sn sc) (.slice oA on oc) (.slice bA bn bc) pc' fuel st' q0 q1 q2 q3 ou' ov e0 own' W)) :
    Calls Try.prog 44 #[.agg #[.int .i64 13, .int .i64 a, .int .i64 b], .slice aA an ac, .agg (mC pc fuel (.slice sA sn sc) r0 r1 r2 r3 (.slice oA on oc) ov e0), .slice bA bn bc] w
      (StepPost B (.slice sA sn sc) (.slice oA on oc) (.slice bA bn bc) pc' fuel st' q0 q1 q2 q3 ou' ov e0 own' w) := by
  have hbe := Lib.hid (nR_below ⟨13, a, b⟩ (mC pc fuel (.slice sA sn sc) r0 r1 r2 r3 (.slice oA on oc) ov e0) w)
  have hbx := Lib.hid (nR_box ⟨13, a, b⟩ (mC pc fuel (.slice sA sn sc) r0 r1 r2 r3 (.slice oA on oc) ov e0) w)
  have hrs := Lib.hid (nR_res ⟨13, a, b⟩ (mC pc fuel (.slice sA sn sc) r0 r1 r2 r3 (.slice oA on oc) ov e0) w)
  have HR := Lib.hid hR
  have hof := Lib.hid ((hR.below hbe.out).offM hrs.out)
  have hc := Lib.hid (htk _ hbe.out)
  clear hR htk
  go_enter Try.func44, Try.ntmps44
  go_wp2_with (first
    | (with_reducible refine ld_mach (w.heap.size + 1) hbx.out _ rfl rfl rfl ?_)
    | (go_at_call 51; go_must ((with_reducible refine hc.out.mono ?_); rintro e w1 ⟨sA', sn', sc', oA', on', oc', bA', bn', bc', rfl, M1, B1⟩; have R1 := Lib.hid (B1.bk hrs.out hof.out.1 hof.out.2.1 hof.out.2.2); have M2 := Lib.hid M1; have B2 := Lib.hid (Rows3.after hB hbe.out B1); clear M1 B1))
    | (with_reducible refine st_mach (w.heap.size + 1 + 1) R1.out rfl rfl _ _ rfl rfl rfl rfl ?_))
  exact bodyPost_ret (v := .tuple #[.agg (mC pc' fuel (.slice sA' sn' sc') q0 q1 q2 q3 (.slice oA' on' oc') ov e0), .slice bA' bn' bc']) (res2_mach rfl _ _ (w.heap.size + 1 + 1) _ rfl rfl (Bk.setRow R1.out _)) rfl
    ⟨_, _, _, _, _, _, _, _, _, rfl, M2.out.setRow (M2.out.offM R1.out) _, B2.out.setRow hB (by omega) _⟩

theorem behind_takes15 (pc' : Int) (st' ou' : List Int) (q0 q1 q2 q3 : Int) (own' : Blks) (a b : Int) (B : Nat) (st ou : List Int) (own : Blks) (w : World) (hB : B ≤ w.heap.size) (hR : MRow B w st ou own sA sn sc oA on oc bA bn bc)
    (htk : ∀ W, Below w.heap.size w W → Calls Try.prog 51 #[.agg #[.int .i64 15, .int .i64 a, .int .i64 b], .agg (mC pc fuel (.slice sA sn sc) r0 r1 r2 r3 (.slice oA on oc) ov e0), .slice bA bn bc] W (StepPost B (.slice sA sn sc) (.slice oA on oc) (.slice bA bn bc) pc' fuel st' q0 q1 q2 q3 ou' ov e0 own' W)) :
    Calls Try.prog 44 #[.agg #[.int .i64 15, .int .i64 a, .int .i64 b], .slice aA an ac, .agg (mC pc fuel (.slice sA sn sc) r0 r1 r2 r3 (.slice oA on oc) ov e0), .slice bA bn bc] w
      (StepPost B (.slice sA sn sc) (.slice oA on oc) (.slice bA bn bc) pc' fuel st' q0 q1 q2 q3 ou' ov e0 own' w) := by
  have hbe := Lib.hid (nR_below ⟨15, a, b⟩ (mC pc fuel (.slice sA sn sc) r0 r1 r2 r3 (.slice oA on oc) ov e0) w)
  have hbx := Lib.hid (nR_box ⟨15, a, b⟩ (mC pc fuel (.slice sA sn sc) r0 r1 r2 r3 (.slice oA on oc) ov e0) w)
  have hrs := Lib.hid (nR_res ⟨15, a, b⟩ (mC pc fuel (.slice sA sn sc) r0 r1 r2 r3 (.slice oA on oc) ov e0) w)
  have HR := Lib.hid hR
  have hof := Lib.hid ((hR.below hbe.out).offM hrs.out)
  have hc := Lib.hid (htk _ hbe.out)
  clear hR htk
  go_enter Try.func44, Try.ntmps44
  go_wp2_with (first
    | (with_reducible refine ld_mach (w.heap.size + 1) hbx.out _ rfl rfl rfl ?_)
    | (go_at_call 51; go_must ((with_reducible refine hc.out.mono ?_); rintro e w1 ⟨sA', sn', sc', oA', on', oc', bA', bn', bc', rfl, M1, B1⟩; have R1 := Lib.hid (B1.bk hrs.out hof.out.1 hof.out.2.1 hof.out.2.2); have M2 := Lib.hid M1; have B2 := Lib.hid (Rows3.after hB hbe.out B1); clear M1 B1))
    | (with_reducible refine st_mach (w.heap.size + 1 + 1) R1.out rfl rfl _ _ rfl rfl rfl rfl ?_))
  exact bodyPost_ret (v := .tuple #[.agg (mC pc' fuel (.slice sA' sn' sc') q0 q1 q2 q3 (.slice oA' on' oc') ov e0), .slice bA' bn' bc']) (res2_mach rfl _ _ (w.heap.size + 1 + 1) _ rfl rfl (Bk.setRow R1.out _)) rfl
    ⟨_, _, _, _, _, _, _, _, _, rfl, M2.out.setRow (M2.out.offM R1.out) _, B2.out.setRow hB (by omega) _⟩

theorem behind_reckons7 (st' ou' : List Int) (ov' : Bool) (e0' : Int) (a b : Int) (B : Nat) (st ou : List Int) (own : Blks) (w : World) (hB : B ≤ w.heap.size) (hR : MRow B w st ou own sA sn sc oA on oc bA bn bc)
    (htk : ∀ W, Below w.heap.size w W → Calls Try.prog 52 #[.int .i64 7, .agg (mC pc fuel (.slice sA sn sc) r0 r1 r2 r3 (.slice oA on oc) ov e0)] W (MachPost B (.slice sA sn sc) (.slice oA on oc) (.slice bA bn bc) pc fuel st' r0 r1 r2 r3 ou' ov' e0' own bA bn bc W)) :
    Calls Try.prog 44 #[.agg #[.int .i64 7, .int .i64 a, .int .i64 b], .slice aA an ac, .agg (mC pc fuel (.slice sA sn sc) r0 r1 r2 r3 (.slice oA on oc) ov e0), .slice bA bn bc] w
      (StepPost B (.slice sA sn sc) (.slice oA on oc) (.slice bA bn bc) pc fuel st' r0 r1 r2 r3 ou' ov' e0' own w) := by
  have hbe := Lib.hid (nR_below ⟨7, a, b⟩ (mC pc fuel (.slice sA sn sc) r0 r1 r2 r3 (.slice oA on oc) ov e0) w)
  have hbx := Lib.hid (nR_box ⟨7, a, b⟩ (mC pc fuel (.slice sA sn sc) r0 r1 r2 r3 (.slice oA on oc) ov e0) w)
  have hrs := Lib.hid (nR_res ⟨7, a, b⟩ (mC pc fuel (.slice sA sn sc) r0 r1 r2 r3 (.slice oA on oc) ov e0) w)
  have HR := Lib.hid hR
  have hof := Lib.hid ((hR.below hbe.out).offM hrs.out)
  have hc := Lib.hid (htk _ hbe.out)
  clear hR htk
  go_enter Try.func44, Try.ntmps44
  go_wp2_with (first
    | (with_reducible refine ld_mach (w.heap.size + 1) hbx.out _ rfl rfl rfl ?_)
    | (go_at_call 52; go_must ((with_reducible refine hc.out.mono ?_); rintro e w1 ⟨sA', sn', sc', oA', on', oc', rfl, M1, B1⟩; have R1 := Lib.hid (B1.bk hrs.out hof.out.1 hof.out.2.1 hof.out.2.2); have M2 := Lib.hid M1; have B2 := Lib.hid (Rows3.after hB hbe.out B1); clear M1 B1))
    | (with_reducible refine st_mach (w.heap.size + 1 + 1) R1.out rfl rfl _ _ rfl rfl rfl rfl ?_))
  exact bodyPost_ret (v := .tuple #[.agg (mC pc fuel (.slice sA' sn' sc') r0 r1 r2 r3 (.slice oA' on' oc') ov' e0'), .slice bA bn bc]) (res2_mach rfl _ _ (w.heap.size + 1 + 1) _ rfl rfl (Bk.setRow R1.out _)) rfl
    ⟨_, _, _, _, _, _, _, _, _, rfl, M2.out.setRow (M2.out.offM R1.out) _, B2.out.setRow hB (by omega) _⟩

theorem behind_reckons8 (st' ou' : List Int) (ov' : Bool) (e0' : Int) (a b : Int) (B : Nat) (st ou : List Int) (own : Blks) (w : World) (hB : B ≤ w.heap.size) (hR : MRow B w st ou own sA sn sc oA on oc bA bn bc)
    (htk : ∀ W, Below w.heap.size w W → Calls Try.prog 52 #[.int .i64 8, .agg (mC pc fuel (.slice sA sn sc) r0 r1 r2 r3 (.slice oA on oc) ov e0)] W (MachPost B (.slice sA sn sc) (.slice oA on oc) (.slice bA bn bc) pc fuel st' r0 r1 r2 r3 ou' ov' e0' own bA bn bc W)) :
    Calls Try.prog 44 #[.agg #[.int .i64 8, .int .i64 a, .int .i64 b], .slice aA an ac, .agg (mC pc fuel (.slice sA sn sc) r0 r1 r2 r3 (.slice oA on oc) ov e0), .slice bA bn bc] w
      (StepPost B (.slice sA sn sc) (.slice oA on oc) (.slice bA bn bc) pc fuel st' r0 r1 r2 r3 ou' ov' e0' own w) := by
  have hbe := Lib.hid (nR_below ⟨8, a, b⟩ (mC pc fuel (.slice sA sn sc) r0 r1 r2 r3 (.slice oA on oc) ov e0) w)
  have hbx := Lib.hid (nR_box ⟨8, a, b⟩ (mC pc fuel (.slice sA sn sc) r0 r1 r2 r3 (.slice oA on oc) ov e0) w)
  have hrs := Lib.hid (nR_res ⟨8, a, b⟩ (mC pc fuel (.slice sA sn sc) r0 r1 r2 r3 (.slice oA on oc) ov e0) w)
  have HR := Lib.hid hR
  have hof := Lib.hid ((hR.below hbe.out).offM hrs.out)
  have hc := Lib.hid (htk _ hbe.out)
  clear hR htk
  go_enter Try.func44, Try.ntmps44
  go_wp2_with (first
    | (with_reducible refine ld_mach (w.heap.size + 1) hbx.out _ rfl rfl rfl ?_)
    | (go_at_call 52; go_must ((with_reducible refine hc.out.mono ?_); rintro e w1 ⟨sA', sn', sc', oA', on', oc', rfl, M1, B1⟩; have R1 := Lib.hid (B1.bk hrs.out hof.out.1 hof.out.2.1 hof.out.2.2); have M2 := Lib.hid M1; have B2 := Lib.hid (Rows3.after hB hbe.out B1); clear M1 B1))
    | (with_reducible refine st_mach (w.heap.size + 1 + 1) R1.out rfl rfl _ _ rfl rfl rfl rfl ?_))
  exact bodyPost_ret (v := .tuple #[.agg (mC pc fuel (.slice sA' sn' sc') r0 r1 r2 r3 (.slice oA' on' oc') ov' e0'), .slice bA bn bc]) (res2_mach rfl _ _ (w.heap.size + 1 + 1) _ rfl rfl (Bk.setRow R1.out _)) rfl
    ⟨_, _, _, _, _, _, _, _, _, rfl, M2.out.setRow (M2.out.offM R1.out) _, B2.out.setRow hB (by omega) _⟩

theorem behind_reckons9 (st' ou' : List Int) (ov' : Bool) (e0' : Int) (a b : Int) (B : Nat) (st ou : List Int) (own : Blks) (w : World) (hB : B ≤ w.heap.size) (hR : MRow B w st ou own sA sn sc oA on oc bA bn bc)
    (htk : ∀ W, Below w.heap.size w W → Calls Try.prog 52 #[.int .i64 9, .agg (mC pc fuel (.slice sA sn sc) r0 r1 r2 r3 (.slice oA on oc) ov e0)] W (MachPost B (.slice sA sn sc) (.slice oA on oc) (.slice bA bn bc) pc fuel st' r0 r1 r2 r3 ou' ov' e0' own bA bn bc W)) :
    Calls Try.prog 44 #[.agg #[.int .i64 9, .int .i64 a, .int .i64 b], .slice aA an ac, .agg (mC pc fuel (.slice sA sn sc) r0 r1 r2 r3 (.slice oA on oc) ov e0), .slice bA bn bc] w
      (StepPost B (.slice sA sn sc) (.slice oA on oc) (.slice bA bn bc) pc fuel st' r0 r1 r2 r3 ou' ov' e0' own w) := by
  have hbe := Lib.hid (nR_below ⟨9, a, b⟩ (mC pc fuel (.slice sA sn sc) r0 r1 r2 r3 (.slice oA on oc) ov e0) w)
  have hbx := Lib.hid (nR_box ⟨9, a, b⟩ (mC pc fuel (.slice sA sn sc) r0 r1 r2 r3 (.slice oA on oc) ov e0) w)
  have hrs := Lib.hid (nR_res ⟨9, a, b⟩ (mC pc fuel (.slice sA sn sc) r0 r1 r2 r3 (.slice oA on oc) ov e0) w)
  have HR := Lib.hid hR
  have hof := Lib.hid ((hR.below hbe.out).offM hrs.out)
  have hc := Lib.hid (htk _ hbe.out)
  clear hR htk
  go_enter Try.func44, Try.ntmps44
  go_wp2_with (first
    | (with_reducible refine ld_mach (w.heap.size + 1) hbx.out _ rfl rfl rfl ?_)
    | (go_at_call 52; go_must ((with_reducible refine hc.out.mono ?_); rintro e w1 ⟨sA', sn', sc', oA', on', oc', rfl, M1, B1⟩; have R1 := Lib.hid (B1.bk hrs.out hof.out.1 hof.out.2.1 hof.out.2.2); have M2 := Lib.hid M1; have B2 := Lib.hid (Rows3.after hB hbe.out B1); clear M1 B1))
    | (with_reducible refine st_mach (w.heap.size + 1 + 1) R1.out rfl rfl _ _ rfl rfl rfl rfl ?_))
  exact bodyPost_ret (v := .tuple #[.agg (mC pc fuel (.slice sA' sn' sc') r0 r1 r2 r3 (.slice oA' on' oc') ov' e0'), .slice bA bn bc]) (res2_mach rfl _ _ (w.heap.size + 1 + 1) _ rfl rfl (Bk.setRow R1.out _)) rfl
    ⟨_, _, _, _, _, _, _, _, _, rfl, M2.out.setRow (M2.out.offM R1.out) _, B2.out.setRow hB (by omega) _⟩

theorem behind_reckons10 (st' ou' : List Int) (ov' : Bool) (e0' : Int) (a b : Int) (B : Nat) (st ou : List Int) (own : Blks) (w : World) (hB : B ≤ w.heap.size) (hR : MRow B w st ou own sA sn sc oA on oc bA bn bc)
    (htk : ∀ W, Below w.heap.size w W → Calls Try.prog 52 #[.int .i64 10, .agg (mC pc fuel (.slice sA sn sc) r0 r1 r2 r3 (.slice oA on oc) ov e0)] W (MachPost B (.slice sA sn sc) (.slice oA on oc) (.slice bA bn bc) pc fuel st' r0 r1 r2 r3 ou' ov' e0' own bA bn bc W)) :
    Calls Try.prog 44 #[.agg #[.int .i64 10, .int .i64 a, .int .i64 b], .slice aA an ac, .agg (mC pc fuel (.slice sA sn sc) r0 r1 r2 r3 (.slice oA on oc) ov e0), .slice bA bn bc] w
      (StepPost B (.slice sA sn sc) (.slice oA on oc) (.slice bA bn bc) pc fuel st' r0 r1 r2 r3 ou' ov' e0' own w) := by
  have hbe := Lib.hid (nR_below ⟨10, a, b⟩ (mC pc fuel (.slice sA sn sc) r0 r1 r2 r3 (.slice oA on oc) ov e0) w)
  have hbx := Lib.hid (nR_box ⟨10, a, b⟩ (mC pc fuel (.slice sA sn sc) r0 r1 r2 r3 (.slice oA on oc) ov e0) w)
  have hrs := Lib.hid (nR_res ⟨10, a, b⟩ (mC pc fuel (.slice sA sn sc) r0 r1 r2 r3 (.slice oA on oc) ov e0) w)
  have HR := Lib.hid hR
  have hof := Lib.hid ((hR.below hbe.out).offM hrs.out)
  have hc := Lib.hid (htk _ hbe.out)
  clear hR htk
  go_enter Try.func44, Try.ntmps44
  go_wp2_with (first
    | (with_reducible refine ld_mach (w.heap.size + 1) hbx.out _ rfl rfl rfl ?_)
    | (go_at_call 52; go_must ((with_reducible refine hc.out.mono ?_); rintro e w1 ⟨sA', sn', sc', oA', on', oc', rfl, M1, B1⟩; have R1 := Lib.hid (B1.bk hrs.out hof.out.1 hof.out.2.1 hof.out.2.2); have M2 := Lib.hid M1; have B2 := Lib.hid (Rows3.after hB hbe.out B1); clear M1 B1))
    | (with_reducible refine st_mach (w.heap.size + 1 + 1) R1.out rfl rfl _ _ rfl rfl rfl rfl ?_))
  exact bodyPost_ret (v := .tuple #[.agg (mC pc fuel (.slice sA' sn' sc') r0 r1 r2 r3 (.slice oA' on' oc') ov' e0'), .slice bA bn bc]) (res2_mach rfl _ _ (w.heap.size + 1 + 1) _ rfl rfl (Bk.setRow R1.out _)) rfl
    ⟨_, _, _, _, _, _, _, _, _, rfl, M2.out.setRow (M2.out.offM R1.out) _, B2.out.setRow hB (by omega) _⟩

theorem behind_reckons11 (st' ou' : List Int) (ov' : Bool) (e0' : Int) (a b : Int) (B : Nat) (st ou : List Int) (own : Blks) (w : World) (hB : B ≤ w.heap.size) (hR : MRow B w st ou own sA sn sc oA on oc bA bn bc)
    (htk : ∀ W, Below w.heap.size w W → Calls Try.prog 52 #[.int .i64 11, .agg (mC pc fuel (.slice sA sn sc) r0 r1 r2 r3 (.slice oA on oc) ov e0)] W (MachPost B (.slice sA sn sc) (.slice oA on oc) (.slice bA bn bc) pc fuel st' r0 r1 r2 r3 ou' ov' e0' own bA bn bc W)) :
    Calls Try.prog 44 #[.agg #[.int .i64 11, .int .i64 a, .int .i64 b], .slice aA an ac, .agg (mC pc fuel (.slice sA sn sc) r0 r1 r2 r3 (.slice oA on oc) ov e0), .slice bA bn bc] w
      (StepPost B (.slice sA sn sc) (.slice oA on oc) (.slice bA bn bc) pc fuel st' r0 r1 r2 r3 ou' ov' e0' own w) := by
  have hbe := Lib.hid (nR_below ⟨11, a, b⟩ (mC pc fuel (.slice sA sn sc) r0 r1 r2 r3 (.slice oA on oc) ov e0) w)
  have hbx := Lib.hid (nR_box ⟨11, a, b⟩ (mC pc fuel (.slice sA sn sc) r0 r1 r2 r3 (.slice oA on oc) ov e0) w)
  have hrs := Lib.hid (nR_res ⟨11, a, b⟩ (mC pc fuel (.slice sA sn sc) r0 r1 r2 r3 (.slice oA on oc) ov e0) w)
  have HR := Lib.hid hR
  have hof := Lib.hid ((hR.below hbe.out).offM hrs.out)
  have hc := Lib.hid (htk _ hbe.out)
  clear hR htk
  go_enter Try.func44, Try.ntmps44
  go_wp2_with (first
    | (with_reducible refine ld_mach (w.heap.size + 1) hbx.out _ rfl rfl rfl ?_)
    | (go_at_call 52; go_must ((with_reducible refine hc.out.mono ?_); rintro e w1 ⟨sA', sn', sc', oA', on', oc', rfl, M1, B1⟩; have R1 := Lib.hid (B1.bk hrs.out hof.out.1 hof.out.2.1 hof.out.2.2); have M2 := Lib.hid M1; have B2 := Lib.hid (Rows3.after hB hbe.out B1); clear M1 B1))
    | (with_reducible refine st_mach (w.heap.size + 1 + 1) R1.out rfl rfl _ _ rfl rfl rfl rfl ?_))
  exact bodyPost_ret (v := .tuple #[.agg (mC pc fuel (.slice sA' sn' sc') r0 r1 r2 r3 (.slice oA' on' oc') ov' e0'), .slice bA bn bc]) (res2_mach rfl _ _ (w.heap.size + 1 + 1) _ rfl rfl (Bk.setRow R1.out _)) rfl
    ⟨_, _, _, _, _, _, _, _, _, rfl, M2.out.setRow (M2.out.offM R1.out) _, B2.out.setRow hB (by omega) _⟩

theorem behind_reckons12 (st' ou' : List Int) (ov' : Bool) (e0' : Int) (a b : Int) (B : Nat) (st ou : List Int) (own : Blks) (w : World) (hB : B ≤ w.heap.size) (hR : MRow B w st ou own sA sn sc oA on oc bA bn bc)
    (htk : ∀ W, Below w.heap.size w W → Calls Try.prog 52 #[.int .i64 12, .agg (mC pc fuel (.slice sA sn sc) r0 r1 r2 r3 (.slice oA on oc) ov e0)] W (MachPost B (.slice sA sn sc) (.slice oA on oc) (.slice bA bn bc) pc fuel st' r0 r1 r2 r3 ou' ov' e0' own bA bn bc W)) :
    Calls Try.prog 44 #[.agg #[.int .i64 12, .int .i64 a, .int .i64 b], .slice aA an ac, .agg (mC pc fuel (.slice sA sn sc) r0 r1 r2 r3 (.slice oA on oc) ov e0), .slice bA bn bc] w
      (StepPost B (.slice sA sn sc) (.slice oA on oc) (.slice bA bn bc) pc fuel st' r0 r1 r2 r3 ou' ov' e0' own w) := by
  have hbe := Lib.hid (nR_below ⟨12, a, b⟩ (mC pc fuel (.slice sA sn sc) r0 r1 r2 r3 (.slice oA on oc) ov e0) w)
  have hbx := Lib.hid (nR_box ⟨12, a, b⟩ (mC pc fuel (.slice sA sn sc) r0 r1 r2 r3 (.slice oA on oc) ov e0) w)
  have hrs := Lib.hid (nR_res ⟨12, a, b⟩ (mC pc fuel (.slice sA sn sc) r0 r1 r2 r3 (.slice oA on oc) ov e0) w)
  have HR := Lib.hid hR
  have hof := Lib.hid ((hR.below hbe.out).offM hrs.out)
  have hc := Lib.hid (htk _ hbe.out)
  clear hR htk
  go_enter Try.func44, Try.ntmps44
  go_wp2_with (first
    | (with_reducible refine ld_mach (w.heap.size + 1) hbx.out _ rfl rfl rfl ?_)
    | (go_at_call 52; go_must ((with_reducible refine hc.out.mono ?_); rintro e w1 ⟨sA', sn', sc', oA', on', oc', rfl, M1, B1⟩; have R1 := Lib.hid (B1.bk hrs.out hof.out.1 hof.out.2.1 hof.out.2.2); have M2 := Lib.hid M1; have B2 := Lib.hid (Rows3.after hB hbe.out B1); clear M1 B1))
    | (with_reducible refine st_mach (w.heap.size + 1 + 1) R1.out rfl rfl _ _ rfl rfl rfl rfl ?_))
  exact bodyPost_ret (v := .tuple #[.agg (mC pc fuel (.slice sA' sn' sc') r0 r1 r2 r3 (.slice oA' on' oc') ov' e0'), .slice bA bn bc]) (res2_mach rfl _ _ (w.heap.size + 1 + 1) _ rfl rfl (Bk.setRow R1.out _)) rfl
    ⟨_, _, _, _, _, _, _, _, _, rfl, M2.out.setRow (M2.out.offM R1.out) _, B2.out.setRow hB (by omega) _⟩

theorem behind_go (a b : Int) (B : Nat) (st ou : List Int) (own : Blks) (w : World) (hB : B ≤ w.heap.size) (hR : MRow B w st ou own sA sn sc oA on oc bA bn bc) (ha : 0 ≤ a ∧ a ≤ 1000) (hp : 0 ≤ pc ∧ pc ≤ 2000) :
    Calls Try.prog 44 #[.agg #[.int .i64 14, .int .i64 a, .int .i64 b], .slice aA an ac, .agg (mC pc fuel (.slice sA sn sc) r0 r1 r2 r3 (.slice oA on oc) ov e0), .slice bA bn bc] w
      (StepPost B (.slice sA sn sc) (.slice oA on oc) (.slice bA bn bc) (pc + a) fuel st r0 r1 r2 r3 ou ov e0 own w) := by
  obtain ⟨z, hz⟩ : ∃ z, z = pc + a := ⟨_, rfl⟩
  have hz' : pc + a = z := hz.symm
  rw [← hz]
  clear hz
  have hbe := Lib.hid (nR_below ⟨14, a, b⟩ (mC z fuel (.slice sA sn sc) r0 r1 r2 r3 (.slice oA on oc) ov e0) w)
  have hbx := Lib.hid (nR_box ⟨14, a, b⟩ (mC z fuel (.slice sA sn sc) r0 r1 r2 r3 (.slice oA on oc) ov e0) w)
  have R1 := Lib.hid (nR_res ⟨14, a, b⟩ (mC z fuel (.slice sA sn sc) r0 r1 r2 r3 (.slice oA on oc) ov e0) w)
  have HR := Lib.hid hR
  clear hR
  go_enter Try.func44, Try.ntmps44
  go_wp2_with (first
    | (with_reducible refine ld_mach (w.heap.size + 1) hbx.out _ rfl rfl rfl ?_)
    | (with_reducible refine st_mach (w.heap.size + 1 + 1) R1.out rfl rfl _ _ rfl rfl rfl rfl ?_))
  exact bodyPost_ret (v := .tuple #[.agg (mC z fuel (.slice sA sn sc) r0 r1 r2 r3 (.slice oA on oc) ov e0), .slice bA bn bc]) (res2_mach rfl _ _ (w.heap.size + 1 + 1) _ rfl rfl (Bk.setRow R1.out _)) rfl
    ⟨_, _, _, _, _, _, _, _, _, rfl, (HR.out.below hbe.out).setRow (HR.out.off (by omega)) _, (Rows3.start hB hbe.out).setRow hB (by omega) _⟩

theorem behind_stop (a b : Int) (B : Nat) (st ou : List Int) (own : Blks) (w : World) (hB : B ≤ w.heap.size) (hR : MRow B w st ou own sA sn sc oA on oc bA bn bc) :
    Calls Try.prog 44 #[.agg #[.int .i64 16, .int .i64 a, .int .i64 b], .slice aA an ac, .agg (mC pc fuel (.slice sA sn sc) r0 r1 r2 r3 (.slice oA on oc) ov e0), .slice bA bn bc] w
      (StepPost B (.slice sA sn sc) (.slice oA on oc) (.slice bA bn bc) pc fuel st r0 r1 r2 r3 [] true 13 own w) := by
  have hbe := Lib.hid (nR_below ⟨16, a, b⟩ (mC pc fuel (.slice sA sn sc) r0 r1 r2 r3 (.slice oA on oc) ov e0) w)
  have hbx := Lib.hid (nR_box ⟨16, a, b⟩ (mC pc fuel (.slice sA sn sc) r0 r1 r2 r3 (.slice oA on oc) ov e0) w)
  have hrs := Lib.hid (nR_res ⟨16, a, b⟩ (mC pc fuel (.slice sA sn sc) r0 r1 r2 r3 (.slice oA on oc) ov e0) w)
  have HR := Lib.hid hR
  have hof := Lib.hid ((hR.below hbe.out).offM hrs.out)
  have hov := Lib.hid (fun W => over_bad pc fuel sA sn sc r0 r1 r2 r3 oA on oc ov e0 13 (by decide) W)
  clear hR
  go_enter Try.func44, Try.ntmps44
  go_wp2_with (first
    | (with_reducible refine ld_mach (w.heap.size + 1) hbx.out _ rfl rfl rfl ?_)
    | (go_at_call 42; go_must ((with_reducible refine (hov.out _).mono ?_); rintro e w1 ⟨rfl, hb1⟩; have B2 := Lib.hid (bnext hbe.out hb1); have R1 := Lib.hid (hrs.out.below hb1); clear hb1))
    | (with_reducible refine st_mach (w.heap.size + 1 + 1) R1.out rfl rfl _ _ rfl rfl rfl rfl ?_))
  exact bodyPost_ret (v := .tuple #[.agg (mC pc fuel (.slice sA sn sc) r0 r1 r2 r3 (.slice none 0 0) true 13), .slice bA bn bc]) (res2_mach rfl _ _ (w.heap.size + 1 + 1) _ rfl rfl (Bk.setRow R1.out _)) rfl
    ⟨_, _, _, _, _, _, _, _, _, rfl, (HR.out.below B2.out).mute.setRow (HR.out.mute.off (by omega)) _, (Rows3.start hB B2.out).setRow hB (by omega) _⟩

theorem behind_end (a b : Int) (B : Nat) (st ou : List Int) (own : Blks) (w : World) (hB : B ≤ w.heap.size) (hR : MRow B w st ou own sA sn sc oA on oc bA bn bc) :
    Calls Try.prog 44 #[.agg #[.int .i64 17, .int .i64 a, .int .i64 b], .slice aA an ac, .agg (mC pc fuel (.slice sA sn sc) r0 r1 r2 r3 (.slice oA on oc) ov e0), .slice bA bn bc] w
      (StepPost B (.slice sA sn sc) (.slice oA on oc) (.slice bA bn bc) pc fuel st r0 r1 r2 r3 ou true 0 own w) := by
  have hbe := Lib.hid (nR_below ⟨17, a, b⟩ (mC pc fuel (.slice sA sn sc) r0 r1 r2 r3 (.slice oA on oc) ov e0) w)
  have hbx := Lib.hid (nR_box ⟨17, a, b⟩ (mC pc fuel (.slice sA sn sc) r0 r1 r2 r3 (.slice oA on oc) ov e0) w)
  have hrs := Lib.hid (nR_res ⟨17, a, b⟩ (mC pc fuel (.slice sA sn sc) r0 r1 r2 r3 (.slice oA on oc) ov e0) w)
  have HR := Lib.hid hR
  have hof := Lib.hid ((hR.below hbe.out).offM hrs.out)
  have hov := Lib.hid (fun W => over_well pc fuel sA sn sc r0 r1 r2 r3 oA on oc ov e0 W)
  clear hR
  go_enter Try.func44, Try.ntmps44
  go_wp2_with (first
    | (with_reducible refine ld_mach (w.heap.size + 1) hbx.out _ rfl rfl rfl ?_)
    | (go_at_call 42; go_must ((with_reducible refine (hov.out _).mono ?_); rintro e w1 ⟨rfl, hb1⟩; have B2 := Lib.hid (bnext hbe.out hb1); have R1 := Lib.hid (hrs.out.below hb1); clear hb1))
    | (with_reducible refine st_mach (w.heap.size + 1 + 1) R1.out rfl rfl _ _ rfl rfl rfl rfl ?_))
  exact bodyPost_ret (v := .tuple #[.agg (mC pc fuel (.slice sA sn sc) r0 r1 r2 r3 (.slice oA on oc) true 0), .slice bA bn bc]) (res2_mach rfl _ _ (w.heap.size + 1 + 1) _ rfl rfl (Bk.setRow R1.out _)) rfl
    ⟨_, _, _, _, _, _, _, _, _, rfl, (HR.out.below B2.out).setRow (HR.out.off (by omega)) _, (Rows3.start hB B2.out).setRow hB (by omega) _⟩

end
end Go.Proofs.Ytibmfhmeoohdeaa
