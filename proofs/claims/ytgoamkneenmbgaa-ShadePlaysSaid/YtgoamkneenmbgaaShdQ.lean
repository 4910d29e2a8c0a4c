/-
  ShadePlays, walked: true of any blocks, any mark and any changes, in whatever memory.
-/
import Derived.Test.YtgoamkneenmbgaaShdP
namespace Go.Proofs.Ytgoamkneenmbgaa
open Go.RowKit
attribute [local go_sem] look findAt
attribute [local simp] depsOf isV Region.binds

theorem see_eight {on : Bool} {old : List Ent} {kept : List Bool} {x : List Ent} {i : Int} (h : Eight old) (hx : Eight x) : (seeS ⟨on, old, kept⟩ x i).cells.length = 8 := by
  unfold seeS
  split
  · split
    · exact h.at _
    · exact hx.at _
  · rfl

section
variable (l : List Ent) (lA : Option Addr) (ln lc : Nat) (cs : List Chg) (cA : Option Addr) (cn cc : Nat)
variable (on : Bool) (a1 a2 a3 a4 a5 a6 : Int) (old : List Ent) (kept : List Bool) (oA : Option Addr) (no oc : Nat) (kA : Option Addr) (nk kc : Nat)

set_option maxHeartbeats 8000000 in
theorem shadePlays_no (hno : 70 < ln ∨ 60 < cn ∨ no ≠ nk ∨ 70 < no) (w : World) :
    Calls Try.prog 3 #[.slice lA ln lc, .agg (mkC on a1 a2 a3 a4 a5 a6 (.slice oA no oc) (.slice kA nk kc)), .slice cA cn cc] w fun e w' => e = .returned (.bool true) ∧ Below w.heap.size w w' := by
  have aw := Lib.hid (fun W => awake13 W)
  have B0 := Lib.hid (below_alloc1 w (.cells (mkC on a1 a2 a3 a4 a5 a6 (.slice oA no oc) (.slice kA nk kc)) 25))
  by_cases h1 : 70 < ln
  · have d1 : decide ((70 : Int) < (ln : Int)) = true := decide_eq_true (by omega)
    have d1' : decide (70 < ln) = true := decide_eq_true (by omega)
    clear hno
    go_enter Try.func3, Try.ntmps3
    go_wp2_with (go_at_call 7; go_must ((with_reducible refine (aw.out _).mono ?_); rintro e w2 ⟨rfl, hb2⟩; have B2 := Lib.hid (bnext B0.out hb2)))
    go_ret
    exact ⟨rfl, B2.out⟩
  · have d1 : decide ((70 : Int) < (ln : Int)) = false := decide_eq_false (by omega)
    have d1' : decide (70 < ln) = false := decide_eq_false (by omega)
    by_cases h2 : 60 < cn
    · have d2 : decide ((60 : Int) < (cn : Int)) = true := decide_eq_true (by omega)
      have d2' : decide (60 < cn) = true := decide_eq_true (by omega)
      clear hno
      go_enter Try.func3, Try.ntmps3
      go_wp2_with (go_at_call 7; go_must ((with_reducible refine (aw.out _).mono ?_); rintro e w2 ⟨rfl, hb2⟩; have B2 := Lib.hid (bnext B0.out hb2)))
      go_ret
      exact ⟨rfl, B2.out⟩
    · have d2 : decide ((60 : Int) < (cn : Int)) = false := decide_eq_false (by omega)
      have d2' : decide (60 < cn) = false := decide_eq_false (by omega)
      by_cases h3 : no = nk
      · subst h3
        have h4 : 70 < no := by omega
        have d4 : decide ((70 : Int) < (no : Int)) = true := decide_eq_true (by omega)
        have d4' : decide (70 < no) = true := decide_eq_true (by omega)
        clear hno
        go_enter Try.func3, Try.ntmps3
        go_wp2_with (go_at_call 7; go_must ((with_reducible refine (aw.out _).mono ?_); rintro e w2 ⟨rfl, hb2⟩; have B2 := Lib.hid (bnext B0.out hb2)))
        go_ret
        exact ⟨rfl, B2.out⟩
      · have d3 : ((no : Int) != (nk : Int)) = true := by simp; omega
        have d3' : (no == nk) = false := by simpa using h3
        have d3'' : ((no : Int) == (nk : Int)) = false := by simp; omega
        clear hno
        go_enter Try.func3, Try.ntmps3
        go_wp2_with (go_at_call 7; go_must ((with_reducible refine (aw.out _).mono ?_); rintro e w2 ⟨rfl, hb2⟩; have B2 := Lib.hid (bnext B0.out hb2)))
        go_ret
        exact ⟨rfl, B2.out⟩

set_option maxHeartbeats 64000000 in
set_option maxRecDepth 100000 in
theorem shadePlays_main (hl : ln ≤ 70) (hc : cn ≤ 60) (hno : no ≤ 70) (w : World) (hL : Ents w lA lc l) (h8 : Eight l) (hln : l.length = ln) (hM : MkIn w old kept oA no oc kA no kc) (hC : Chgs w cA cc cs) (h8c : EightC cs) (hcn : cs.length = cn) :
    Calls Try.prog 3 #[.slice lA ln lc, .agg (mkC on a1 a2 a3 a4 a5 a6 (.slice oA no oc) (.slice kA no kc)), .slice cA cn cc] w fun e w' => e = .returned (.bool true) ∧ Below w.heap.size w w' := by
  have aw := Lib.hid (fun W => awake13 W)
  have d1 : decide ((70 : Int) < (ln : Int)) = false := decide_eq_false (by omega)
  have d1' : decide (70 < ln) = false := decide_eq_false (by omega)
  have d2 : decide ((60 : Int) < (cn : Int)) = false := decide_eq_false (by omega)
  have d2' : decide (60 < cn) = false := decide_eq_false (by omega)
  have d4 : decide ((70 : Int) < (no : Int)) = false := decide_eq_false (by omega)
  have d4' : decide (70 < no) = false := decide_eq_false (by omega)
  have hlc : ln ≤ lc := by have := hL.2.1; omega
  have hcc : cn ≤ cc := by have := hC.2.1; omega
  have be : Hid (∀ W : World, Calls Try.prog 8 #[.agg (mkC on a1 a2 a3 a4 a5 a6 (.slice oA no oc) (.slice kA no kc)), .int .i64 (ln : Int)] W (MkPost true a1 a2 a3 a4 a5 a6 ln (beginS (ln : Int)) W)) := Lib.hid (fun W => begin_any on a1 a2 a3 a4 a5 a6 _ _ ln (by omega) W)
  have rbe : Hid (∀ W : World, Calls Try.prog 9 #[.agg (mkC on a1 a2 a3 a4 a5 a6 (.slice oA no oc) (.slice kA no kc)), .int .i64 (ln : Int)] W (MkPost true a1 a2 a3 a4 a5 a6 ln (beginS (ln : Int)) W)) := Lib.hid (fun W => rbegin_any on a1 a2 a3 a4 a5 a6 _ _ ln (by omega) W)
  obtain ⟨iE, hie, he0, hes, heb⟩ := infoEntZ
  have HL := Lib.hid hL
  have H8 := Lib.hid h8
  have HLN := Lib.hid hln
  have HM := Lib.hid hM
  have HC := Lib.hid hC
  have H8C := Lib.hid h8c
  have HCN := Lib.hid hcn
  have HE1 := Lib.hid (entsW_one l)
  have HLS : Hid (Sl w 9 lA ln lc (entsW l)) := Lib.hid (by have := hL; unfold Ents at this; rwa [hln] at this)
  obtain ⟨K0, hK0⟩ : ∃ K, K = keepS ⟨on, old, kept⟩ l 0 := ⟨_, rfl⟩
  have kl : Hid (∀ W : World, Below w.heap.size w W → Calls Try.prog 10 #[.agg (mkC on a1 a2 a3 a4 a5 a6 (.slice oA no oc) (.slice kA no kc)), .slice lA ln lc, .int .i64 0] W (MkPost on a1 a2 a3 a4 a5 a6 no K0 W)) := Lib.hid (fun W hW => by rw [hK0]; exact keep_any on a1 a2 a3 a4 a5 a6 oA no oc kA kc old kept l lA ln lc 0 W (hM.below hW) (hL.below hW) h8 hln (by omega))
  have rkl : Hid (∀ W : World, Below w.heap.size w W → Calls Try.prog 11 #[.agg (mkC on a1 a2 a3 a4 a5 a6 (.slice oA no oc) (.slice kA no kc)), .slice lA ln lc, .int .i64 0] W fun e w' => ∃ oA' oc' kA' kc', e = .returned (.agg (mkC on a1 a2 a3 a4 a5 a6 (.slice oA' no oc') (.slice kA' no kc'))) ∧ Below W.heap.size W w' ∧ (MkOwn W.heap.size w' K0.old K0.kept oA' no oc' kA' no kc' ∨ (oA' = oA ∧ oc' = oc ∧ kA' = kA ∧ kc' = kc ∧ K0 = ⟨on, old, kept⟩))) := Lib.hid (fun W hW => by rw [hK0]; exact rkeep_any on a1 a2 a3 a4 a5 a6 oA no oc kA kc old kept l lA ln lc 0 W (hM.below hW) (hL.below hW) h8 hln (by omega))
  obtain ⟨wr, hW⟩ : ∃ W, W = w.alloc (.cells (mkC on a1 a2 a3 a4 a5 a6 (.slice oA no oc) (.slice kA no kc)) 25) := ⟨_, rfl⟩
  have B0 : Hid (Below w.heap.size w wr) := Lib.hid (by rw [hW]; exact below_alloc1 _ _)
  have X0 : Hid (Bk wr w.heap.size 25 (mkC on a1 a2 a3 a4 a5 a6 (.slice oA no oc) (.slice kA no kc))) := Lib.hid (by rw [hW]; exact Bk.new _ _ _)
  have hsz : w.heap.size < wr.heap.size := X0.out.lt
  clear hL h8 hln hM hC h8c hcn hK0
  go_enter Try.func3, Try.ntmps3
  go_wp2
  try rw [← hW]
  clear hW
  have lm : Hid (∀ X, Below wr.heap.size wr X → (loadVar 25 ⟨w.heap.size, 0, none⟩).run Try.prog X = .ok (.agg (mkC on a1 a2 a3 a4 a5 a6 (.slice oA no oc) (.slice kA no kc))) X) := Lib.hid (fun X hX => load_mk (X0.out.below hX))
  have kb1 : Hid (∀ X, Below wr.heap.size wr X → Calls Try.prog 8 #[.agg (mkC on a1 a2 a3 a4 a5 a6 (.slice oA no oc) (.slice kA no kc)), .int .i64 (ln : Int)] X fun e w' => ∃ v, e = .returned v ∧ Below X.heap.size X w' ∧ keptV wr.heap.size true a1 a2 a3 a4 a5 a6 ln (beginS (ln : Int)) v w') := Lib.hid (fun X hX => keptV_call hX.size (be.out X))
  have kb2 : Hid (∀ X, Below wr.heap.size wr X → Calls Try.prog 9 #[.agg (mkC on a1 a2 a3 a4 a5 a6 (.slice oA no oc) (.slice kA no kc)), .int .i64 (ln : Int)] X fun e w' => ∃ v, e = .returned v ∧ Below X.heap.size X w' ∧ keptV wr.heap.size true a1 a2 a3 a4 a5 a6 ln (beginS (ln : Int)) v w') := Lib.hid (fun X hX => keptV_call hX.size (rbe.out X))
  try simp only [List.append_eq, List.cons_append, List.nil_append]
  refine wp_region_saysB 10 (fun x y => Below x.heap.size x y) (fun _ _ _ h k => bnext h k) (fun i => i == 8 || i == 9) wr (below_drew1 wr) (by kernel_rfl) (by kernel_rfl) (by kernel_rfl) (by kernel_rfl) (by rfl) ?_
  simp only [List.take_succ_cons, List.take_zero, List.drop_succ_cons, List.drop_zero]
  refine walkB_is (.agg ((mkC on a1 a2 a3 a4 a5 a6 (.slice oA no oc) (.slice kA no kc)))) rfl (fun _ => Below.refl _ _) (fun u X hX hd => ?_) ?_
  · have hl := lm.out X hX
    try simp at hd
    refine op_load_at 25 (w.heap.size) (0) hl _ rfl ?_
    go_simp
  apply walkB_norm
  · first | (simp only [List.nil_append]; rfl) | (simp only [List.nil_append, List.cons_append]; rfl) | simp only [List.nil_append, List.cons_append]
  refine walkB_is ?_ rfl (fun _ => Below.refl _ _) (fun u X hX hd => ?_) ?_
  rotate_left
  · skip
    try simp at hd
    go_simp
    try rfl
  apply walkB_norm
  · first | (simp only [List.nil_append]; rfl) | (simp only [List.nil_append, List.cons_append]; rfl) | simp only [List.nil_append, List.cons_append]
  refine walkB_is ?_ rfl (fun _ => Below.refl _ _) (fun u X hX hd => ?_) ?_
  rotate_left
  · skip
    try simp at hd
    go_simp
    try rfl
  apply walkB_norm
  · first | (simp only [List.nil_append]; rfl) | (simp only [List.nil_append, List.cons_append]; rfl) | simp only [List.nil_append, List.cons_append]
  refine walkB_mk (keptV wr.heap.size true a1 a2 a3 a4 a5 a6 ln (beginS (ln : Int))) 8 ?_ rfl (fun v x y hb h => keptV_keep v x y hb h) (fun u X hX hd => ?_) (fun X hX => ?_) ?_
  rotate_left
  · skip
    try simp at hd
    go_simp
    try rfl
  · exact kb1.out X hX
  apply walkB_norm
  · first | (simp only [List.nil_append]; rfl) | (simp only [List.nil_append, List.cons_append]; rfl) | simp only [List.nil_append, List.cons_append]
  refine walkB_is (.agg ((mkC on a1 a2 a3 a4 a5 a6 (.slice oA no oc) (.slice kA no kc)))) rfl (fun _ => Below.refl _ _) (fun u X hX hd => ?_) ?_
  · have hl := lm.out X hX
    try simp at hd
    refine op_load_at 25 (w.heap.size) (0) hl _ rfl ?_
    go_simp
  apply walkB_norm
  · first | (simp only [List.nil_append]; rfl) | (simp only [List.nil_append, List.cons_append]; rfl) | simp only [List.nil_append, List.cons_append]
  refine walkB_is ?_ rfl (fun _ => Below.refl _ _) (fun u X hX hd => ?_) ?_
  rotate_left
  · skip
    try simp at hd
    go_simp
    try rfl
  apply walkB_norm
  · first | (simp only [List.nil_append]; rfl) | (simp only [List.nil_append, List.cons_append]; rfl) | simp only [List.nil_append, List.cons_append]
  refine walkB_is ?_ rfl (fun _ => Below.refl _ _) (fun u X hX hd => ?_) ?_
  rotate_left
  · skip
    try simp at hd
    go_simp
    try rfl
  apply walkB_norm
  · first | (simp only [List.nil_append]; rfl) | (simp only [List.nil_append, List.cons_append]; rfl) | simp only [List.nil_append, List.cons_append]
  refine walkB_mk (keptV wr.heap.size true a1 a2 a3 a4 a5 a6 ln (beginS (ln : Int))) 9 ?_ rfl (fun v x y hb h => keptV_keep v x y hb h) (fun u X hX hd => ?_) (fun X hX => ?_) ?_
  rotate_left
  · skip
    try simp at hd
    go_simp
    try rfl
  · exact kb2.out X hX
  apply walkB_norm
  · first | (simp only [List.nil_append]; rfl) | (simp only [List.nil_append, List.cons_append]; rfl) | simp only [List.nil_append, List.cons_append]
  refine walkB_new (freshK wr.heap.size) (fun v x y hb h => freshK_keep v x y hb h) (fun _ v x h => freshK_lies v x h) (fun u X hX hd => ⟨_, _, run_alloc_mark _ X _ rfl, below_alloc1 _ _, (freshK_new X hX.size).1, fun _ => (freshK_new X hX.size).2⟩) ?_
  apply walkB_norm
  · first | (simp only [List.nil_append]; rfl) | (simp only [List.nil_append, List.cons_append]; rfl) | simp only [List.nil_append, List.cons_append]
  refine walkB_new (freshK wr.heap.size) (fun v x y hb h => freshK_keep v x y hb h) (fun _ v x h => freshK_lies v x h) (fun u X hX hd => ⟨_, _, run_alloc_mark _ X _ rfl, below_alloc1 _ _, (freshK_new X hX.size).1, fun _ => (freshK_new X hX.size).2⟩) ?_
  apply walkB_norm
  · first | (simp only [List.nil_append]; rfl) | (simp only [List.nil_append, List.cons_append]; rfl) | simp only [List.nil_append, List.cons_append]
  intro u X hX hsay htw
  simp only [sayAll, isV] at hsay
  obtain ⟨-, -, -, v3, -, -, -, v7, v8, v9, -⟩ := hsay
  obtain ⟨oA1, oc1, kA1, kc1, v3, hA1⟩ := v3
  obtain ⟨oB1, od1, kB1, kd1, v7, hB1⟩ := v7
  obtain ⟨ga, v8, hga, kga⟩ := v8
  obtain ⟨gb, v9, hgb, kgb⟩ := v9
  have htw2 := htw 8 9 (by decide) (by decide) (by decide) rfl rfl
  rw [v8, v9] at htw2
  have hab : ga ≠ gb := fun e => htw2 ga rfl (by rw [e]; rfl)
  have hag : w.heap.size < ga := by omega
  have hbg : w.heap.size < gb := by omega
  simp only [putAll, Act.put, v3, v7, v8, v9, List.setIfInBounds_toArray, List.set_cons_succ, List.set_cons_zero]
  have BX := bnext B0.out hX
  have XX := X0.out.below hX
  have KA := Lib.hid kga
  have kgb2 := kgb.farRow (Ne.symm hab) (mkC true a1 a2 a3 a4 a5 a6 (.slice oA1 ln oc1) (.slice kA1 ln kc1))
  have KB := Lib.hid kgb2
  have KA2 := Lib.hid ((kga.setRow (mkC true a1 a2 a3 a4 a5 a6 (.slice oA1 ln oc1) (.slice kA1 ln kc1))).farRow hab (mkC true a1 a2 a3 a4 a5 a6 (.slice oB1 ln od1) (.slice kB1 ln kd1)))
  have KB2 := Lib.hid (kgb2.setRow (mkC true a1 a2 a3 a4 a5 a6 (.slice oB1 ln od1) (.slice kB1 ln kd1)))
  have XX2 := Lib.hid ((XX.farRow (show w.heap.size ≠ ga by omega) (mkC true a1 a2 a3 a4 a5 a6 (.slice oA1 ln oc1) (.slice kA1 ln kc1))).farRow (show w.heap.size ≠ gb by omega) (mkC true a1 a2 a3 a4 a5 a6 (.slice oB1 ln od1) (.slice kB1 ln kd1)))
  have MA := Lib.hid (((hA1.varRow kga (by decide) (by decide) (mkC true a1 a2 a3 a4 a5 a6 (.slice oA1 ln oc1) (.slice kA1 ln kc1))).varRow kgb2 (by decide) (by decide) (mkC true a1 a2 a3 a4 a5 a6 (.slice oB1 ln od1) (.slice kB1 ln kd1))).lower (Nat.le_of_lt hsz))
  have MB := Lib.hid (((hB1.varRow kga (by decide) (by decide) (mkC true a1 a2 a3 a4 a5 a6 (.slice oA1 ln oc1) (.slice kA1 ln kc1))).varRow kgb2 (by decide) (by decide) (mkC true a1 a2 a3 a4 a5 a6 (.slice oB1 ln od1) (.slice kB1 ln kd1))).lower (Nat.le_of_lt hsz))
  have BZ := Lib.hid (below_row (below_row BX (Nat.le_of_lt hag) (mkC true a1 a2 a3 a4 a5 a6 (.slice oA1 ln oc1) (.slice kA1 ln kc1))) (Nat.le_of_lt hbg) (mkC true a1 a2 a3 a4 a5 a6 (.slice oB1 ln od1) (.slice kB1 ln kd1)))
  obtain ⟨w4, h4⟩ : ∃ W, W = (X.setRow ga (mkC true a1 a2 a3 a4 a5 a6 (.slice oA1 ln oc1) (.slice kA1 ln kc1))).setRow gb (mkC true a1 a2 a3 a4 a5 a6 (.slice oB1 ln od1) (.slice kB1 ln kd1)) := ⟨_, rfl⟩
  rw [← h4] at KA2 KB2 XX2 MA MB BZ
  have H4 := Lib.hid h4
  clear h4 v3 v7 v8 v9 htw htw2 hX hA1 hB1 kga kgb kgb2 BX XX be rbe kb1 kb2 lm X0 hga hgb hsz
  go_wp2_with (first
    | (with_reducible refine st_mk ga KA.out rfl rfl rfl _ _ rfl rfl rfl rfl ?_)
    | (with_reducible refine st_mk gb KB.out rfl rfl rfl _ _ rfl rfl rfl rfl ?_; go_must (rw [← H4.out])))
  clear KA KB H4 B0
  have lm : Hid (∀ X, Below w4.heap.size w4 X → (loadVar 25 ⟨w.heap.size, 0, none⟩).run Try.prog X = .ok (.agg (mkC on a1 a2 a3 a4 a5 a6 (.slice oA no oc) (.slice kA no kc))) X) := Lib.hid (fun X hX => load_mk (XX2.out.below hX))
  have kl2 : Hid (∀ X, Below w4.heap.size w4 X → Calls Try.prog 10 #[.agg (mkC on a1 a2 a3 a4 a5 a6 (.slice oA no oc) (.slice kA no kc)), .slice lA ln lc, .int .i64 0] X fun e w' => ∃ v, e = .returned v ∧ Below X.heap.size X w' ∧ keptV w4.heap.size on a1 a2 a3 a4 a5 a6 no K0 v w') := Lib.hid (fun X hX => keptV_call hX.size (kl.out X (bnext BZ.out hX)))
  have rkl2 : Hid (∀ X, Below w4.heap.size w4 X → Calls Try.prog 11 #[.agg (mkC on a1 a2 a3 a4 a5 a6 (.slice oA no oc) (.slice kA no kc)), .slice lA ln lc, .int .i64 0] X fun e w' => ∃ v, e = .returned v ∧ Below X.heap.size X w' ∧ mayV w4.heap.size on a1 a2 a3 a4 a5 a6 no K0 old kept oA oc kA kc v w') := Lib.hid (fun X hX => mayV_call hX.size (rkl.out X (bnext BZ.out hX)))
  try simp only [List.append_eq, List.cons_append, List.nil_append]
  refine wp_region_saysB 8 (fun x y => Below x.heap.size x y) (fun _ _ _ h k => bnext h k) (fun i => i == 6 || i == 7) w4 (below_drew1 w4) (by kernel_rfl) (by kernel_rfl) (by kernel_rfl) (by kernel_rfl) (by rfl) ?_
  simp only [List.take_succ_cons, List.take_zero, List.drop_succ_cons, List.drop_zero]
  refine walkB_is (.agg ((mkC on a1 a2 a3 a4 a5 a6 (.slice oA no oc) (.slice kA no kc)))) rfl (fun _ => Below.refl _ _) (fun u X hX hd => ?_) ?_
  · have hl := lm.out X hX
    try simp at hd
    refine op_load_at 25 (w.heap.size) (0) hl _ rfl ?_
    go_simp
  apply walkB_norm
  · first | (simp only [List.nil_append]; rfl) | (simp only [List.nil_append, List.cons_append]; rfl) | simp only [List.nil_append, List.cons_append]
  refine walkB_is ?_ rfl (fun _ => Below.refl _ _) (fun u X hX hd => ?_) ?_
  rotate_left
  · skip
    try simp at hd
    go_simp
    try rfl
  apply walkB_norm
  · first | (simp only [List.nil_append]; rfl) | (simp only [List.nil_append, List.cons_append]; rfl) | simp only [List.nil_append, List.cons_append]
  refine walkB_mk (keptV w4.heap.size on a1 a2 a3 a4 a5 a6 no K0) 10 ?_ rfl (fun v x y hb h => keptV_keep v x y hb h) (fun u X hX hd => ?_) (fun X hX => ?_) ?_
  rotate_left
  · skip
    try simp at hd
    go_simp
    try rfl
  · exact kl2.out X hX
  apply walkB_norm
  · first | (simp only [List.nil_append]; rfl) | (simp only [List.nil_append, List.cons_append]; rfl) | simp only [List.nil_append, List.cons_append]
  refine walkB_is (.agg ((mkC on a1 a2 a3 a4 a5 a6 (.slice oA no oc) (.slice kA no kc)))) rfl (fun _ => Below.refl _ _) (fun u X hX hd => ?_) ?_
  · have hl := lm.out X hX
    try simp at hd
    refine op_load_at 25 (w.heap.size) (0) hl _ rfl ?_
    go_simp
  apply walkB_norm
  · first | (simp only [List.nil_append]; rfl) | (simp only [List.nil_append, List.cons_append]; rfl) | simp only [List.nil_append, List.cons_append]
  refine walkB_is ?_ rfl (fun _ => Below.refl _ _) (fun u X hX hd => ?_) ?_
  rotate_left
  · skip
    try simp at hd
    go_simp
    try rfl
  apply walkB_norm
  · first | (simp only [List.nil_append]; rfl) | (simp only [List.nil_append, List.cons_append]; rfl) | simp only [List.nil_append, List.cons_append]
  refine walkB_mk (mayV w4.heap.size on a1 a2 a3 a4 a5 a6 no K0 old kept oA oc kA kc) 11 ?_ rfl (fun v x y hb h => mayV_keep v x y hb h) (fun u X hX hd => ?_) (fun X hX => ?_) ?_
  rotate_left
  · skip
    try simp at hd
    go_simp
    try rfl
  · exact rkl2.out X hX
  apply walkB_norm
  · first | (simp only [List.nil_append]; rfl) | (simp only [List.nil_append, List.cons_append]; rfl) | simp only [List.nil_append, List.cons_append]
  refine walkB_new (freshK w4.heap.size) (fun v x y hb h => freshK_keep v x y hb h) (fun _ v x h => freshK_lies v x h) (fun u X hX hd => ⟨_, _, run_alloc_mark _ X _ rfl, below_alloc1 _ _, (freshK_new X hX.size).1, fun _ => (freshK_new X hX.size).2⟩) ?_
  apply walkB_norm
  · first | (simp only [List.nil_append]; rfl) | (simp only [List.nil_append, List.cons_append]; rfl) | simp only [List.nil_append, List.cons_append]
  refine walkB_new (freshK w4.heap.size) (fun v x y hb h => freshK_keep v x y hb h) (fun _ v x h => freshK_lies v x h) (fun u X hX hd => ⟨_, _, run_alloc_mark _ X _ rfl, below_alloc1 _ _, (freshK_new X hX.size).1, fun _ => (freshK_new X hX.size).2⟩) ?_
  apply walkB_norm
  · first | (simp only [List.nil_append]; rfl) | (simp only [List.nil_append, List.cons_append]; rfl) | simp only [List.nil_append, List.cons_append]
  intro u X hX hsay htw
  simp only [sayAll, isV] at hsay
  obtain ⟨-, -, v2, -, -, v5, v6, v7, -⟩ := hsay
  obtain ⟨oU, ocU, kU, kcU, v2, hU⟩ := v2
  obtain ⟨oV, ocV, kV, kcV, v5, hV⟩ := v5
  obtain ⟨gu, v6, hgu, kgu⟩ := v6
  obtain ⟨gv, v7, hgv, kgv⟩ := v7
  have htw2 := htw 6 7 (by decide) (by decide) (by decide) rfl rfl
  rw [v6, v7] at htw2
  have huv : gu ≠ gv := fun e => htw2 gu rfl (by rw [e]; rfl)
  simp only [putAll, Act.put, v2, v5, v6, v7, List.setIfInBounds_toArray, List.set_cons_succ, List.set_cons_zero]
  have hw4 := BZ.out.size
  have hg1 := KA2.out.lt
  have hg2 := KB2.out.lt
  have hg3 := XX2.out.lt
  have KU := Lib.hid kgu
  have kgv2 := kgv.farRow (Ne.symm huv) (mkC on a1 a2 a3 a4 a5 a6 (.slice oU no ocU) (.slice kU no kcU))
  have KV := Lib.hid kgv2
  have KU2 := Lib.hid ((kgu.setRow (mkC on a1 a2 a3 a4 a5 a6 (.slice oU no ocU) (.slice kU no kcU))).farRow huv (mkC on a1 a2 a3 a4 a5 a6 (.slice oV no ocV) (.slice kV no kcV)))
  have KV2 := Lib.hid (kgv2.setRow (mkC on a1 a2 a3 a4 a5 a6 (.slice oV no ocV) (.slice kV no kcV)))
  have BY := Lib.hid (below_row (below_row hX hgu (mkC on a1 a2 a3 a4 a5 a6 (.slice oU no ocU) (.slice kU no kcU))) hgv (mkC on a1 a2 a3 a4 a5 a6 (.slice oV no ocV) (.slice kV no kcV)))
  have MU := Lib.hid (((hU.varRow kgu (by decide) (by decide) (mkC on a1 a2 a3 a4 a5 a6 (.slice oU no ocU) (.slice kU no kcU))).varRow kgv2 (by decide) (by decide) (mkC on a1 a2 a3 a4 a5 a6 (.slice oV no ocV) (.slice kV no kcV))).inn)
  have MV : Hid (MkIn ((X.setRow gu (mkC on a1 a2 a3 a4 a5 a6 (.slice oU no ocU) (.slice kU no kcU))).setRow gv (mkC on a1 a2 a3 a4 a5 a6 (.slice oV no ocV) (.slice kV no kcV))) K0.old K0.kept oV no ocV kV no kcV) := Lib.hid (by
    rcases hV with hV | ⟨rfl, rfl, rfl, rfl, q⟩
    · exact ((hV.varRow kgu (by decide) (by decide) (mkC on a1 a2 a3 a4 a5 a6 (.slice oU no ocU) (.slice kU no kcU))).varRow kgv2 (by decide) (by decide) (mkC on a1 a2 a3 a4 a5 a6 (.slice oV no ocV) (.slice kV no kcV))).inn
    · rw [q]
      exact HM.out.below (bnext BZ.out BY.out))
  obtain ⟨w5, h5⟩ : ∃ W, W = (X.setRow gu (mkC on a1 a2 a3 a4 a5 a6 (.slice oU no ocU) (.slice kU no kcU))).setRow gv (mkC on a1 a2 a3 a4 a5 a6 (.slice oV no ocV) (.slice kV no kcV)) := ⟨_, rfl⟩
  rw [← h5] at KU2 KV2 BY MU MV
  have H5 := Lib.hid h5
  have sm1 : Hid (∀ W, Below w4.heap.size w4 W → Calls Try.prog 12 #[.agg (mkC true a1 a2 a3 a4 a5 a6 (.slice oA1 ln oc1) (.slice kA1 ln kc1)), .agg (mkC true a1 a2 a3 a4 a5 a6 (.slice oB1 ln od1) (.slice kB1 ln kd1))] W fun e w' => e = .returned (.bool true) ∧ Below W.heap.size W w') := Lib.hid (fun W hW => rsameM_yes true a1 a2 a3 a4 a5 a6 oA1 ln oc1 kA1 kc1 oB1 od1 kB1 kd1 _ _ W (MA.out.inn.below hW) (MB.out.inn.below hW) (by omega))
  have sm2 : Hid (∀ W, Below w5.heap.size w5 W → Calls Try.prog 12 #[.agg (mkC on a1 a2 a3 a4 a5 a6 (.slice oU no ocU) (.slice kU no kcU)), .agg (mkC on a1 a2 a3 a4 a5 a6 (.slice oV no ocV) (.slice kV no kcV))] W fun e w' => e = .returned (.bool true) ∧ Below W.heap.size W w') := Lib.hid (fun W hW => rsameM_yes on a1 a2 a3 a4 a5 a6 oU no ocU kU kcU oV ocV kV kcV _ _ W (MU.out.below hW) (MV.out.below hW) (by omega))
  have KA3 := Lib.hid (KA2.out.below BY.out)
  have KB3 := Lib.hid (KB2.out.below BY.out)
  clear h5 v2 v5 v6 v7 htw htw2 hX hU hV kgu kgv kgv2 kl rkl kl2 rkl2 lm MU MV hw4 hg1 hg2 hg3 hgu hgv
  have nA1 : True := trivial
  go_wp2_with (first
    | (with_reducible refine st_mk gu KU.out rfl rfl rfl _ _ rfl rfl rfl rfl ?_)
    | (with_reducible refine st_mk gv KV.out rfl rfl rfl _ _ rfl rfl rfl rfl ?_; go_must (rw [← H5.out]))
    | (with_reducible refine ld_mk ga KA3.out _ rfl rfl rfl ?_)
    | (with_reducible refine ld_mk gb KB3.out _ rfl rfl rfl ?_)
    | (go_at_call 12; clear nA1; go_must ((with_reducible refine (sm1.out _ BY.out).mono ?_); rintro e w6 ⟨rfl, hb⟩; have B6 := Lib.hid hb; clear hb))
    | (refine wpList_load_at 25 gu 0 (load_mk (KU2.out.below B6.out)) _ rfl rfl rfl ?_)
    | (refine wpList_load_at 25 gv 0 (load_mk (KV2.out.below B6.out)) _ rfl rfl rfl ?_)
    | (go_at_call 12; go_must ((with_reducible refine (sm2.out _ B6.out).mono ?_); rintro e wz ⟨rfl, hb⟩; have B7 := Lib.hid (bnext (bnext BY.out B6.out) hb); have EM : Hid ((wz.alloc (.cells #[] 34)).ownsRow wz.heap.size 34 9 (.slice (some ⟨wz.heap.size, 0, none⟩) 0 0) 0 []) := Lib.hid (World.ownsRow_lit wz #[] 0 (Nat.le_refl _) (by decide) rfl); clear hb))
    | (at_builtin; go_must (refine append_sl rfl (.tmp 61) (.tmp 62) _ rfl wz.heap.size 34 iE _ 9 72 Try.underlying22 hie he0 hes heb rfl (by decide) _ 0 [] rfl EM.out lA ln lc _ rfl (HLS.out.below (bnext (bnext BZ.out B7.out) (below_alloc1 _ _))) HE1.out (by unfold maxLen; omega) (by omega) (by simp) ?_; intro v' w3 ho3 hg3; have B3 : Hid (Below wz.heap.size wz w3) := Lib.hid (((Below.refl _ _).alloc (Nat.le_refl _) _).grown hg3 (by simp) (fun q hq => by have := own_ge EM.out hq; omega)); obtain ⟨xA, xc, rfl, -⟩ := Sl.own ho3; simp only [Nat.zero_add, List.nil_append] at ho3; have O3 : Hid (w3.ownsRow wz.heap.size 34 9 (.slice xA ln xc) ln (entsW l)) := Lib.hid ho3; clear ho3 hg3)))
  have B8 := Lib.hid (bnext B7.out B3.out)
  have SA : Hid (ShS w w3 ga ln xA xc true a1 a2 a3 a4 a5 a6 (beginS (ln : Int)).old (beginS (ln : Int)).kept l ln oA1 oc1 kA1 kc1) := Lib.hid ⟨bnext BZ.out B8.out, KA2.out.below B8.out, Nat.le_of_lt hag, MA.out.below B8.out, own_lower O3.out (bnext BZ.out B7.out).size, fun g hg hq => by
    have h1 := own_ge O3.out hg
    have h2 := own_lt (MA.out.below B7.out).oo hq
    omega, H8.out, HLN.out⟩
  have SB : Hid (ShS w w3 gb ln xA xc true a1 a2 a3 a4 a5 a6 (beginS (ln : Int)).old (beginS (ln : Int)).kept l ln oB1 od1 kB1 kd1) := Lib.hid ⟨bnext BZ.out B8.out, KB2.out.below B8.out, Nat.le_of_lt hbg, MB.out.below B8.out, own_lower O3.out (bnext BZ.out B7.out).size, fun g hg hq => by
    have h1 := own_ge O3.out hg
    have h2 := own_lt (MB.out.below B7.out).oo hq
    omega, H8.out, HLN.out⟩
  have XM : Hid (Bk w3 w.heap.size 25 (mkC on a1 a2 a3 a4 a5 a6 (.slice oA no oc) (.slice kA no kc))) := Lib.hid (XX2.out.below B8.out)
  clear B3 B6 B7 B8 BY BZ EM HE1 HLS KA2 KA3 KB2 KB3 KU KU2 KV KV2 MA MB O3 XX2 sm1 sm2 H5
  go_loopw [12] (fun ii wr => ∃ (q : Nat) (old' : List Ent) (kept' : List Bool) (x : List Ent) (oA1 : Option Addr) (oc1 : Nat) (kA1 : Option Addr) (kc1 : Nat) (oB1 : Option Addr) (od1 : Nat) (kB1 : Option Addr) (kd1 : Nat), q ≤ cn ∧ ii = .int .i64 (q : Int) ∧ Hid (ShS w wr ga ln xA xc true a1 a2 a3 a4 a5 a6 old' kept' x ln oA1 oc1 kA1 kc1) ∧ Hid (ShS w wr gb ln xA xc true a1 a2 a3 a4 a5 a6 old' kept' x ln oB1 od1 kB1 kd1) ∧ Hid (Bk wr w.heap.size 25 (mkC on a1 a2 a3 a4 a5 a6 (.slice oA no oc) (.slice kA no kc)))) (fun ii _ => cn - (intOf ii).toNat)
  case atStart => exact ⟨0, _, _, _, _, _, _, _, _, _, _, _, Nat.zero_le _, rfl, SA, SB, XM⟩
  case round =>
    clear SA SB XM
    obtain ⟨q, old', kept', x, oC, ocC, kC, kcC, oD, odD, kD, kdD, hq, rfl, HA, HB, HX⟩ := hrel
    by_cases hlt : q < cn
    · have t1 : (q : Int) < (cn : Int) := by omega
      have t2 : (q : Int) < (cc : Int) := by omega
      obtain ⟨bc, fc, rfl, hbc, hcr⟩ := HC.out.range H8C.out (i := q) (by rw [HCN.out]; exact hlt)
      have HT8 := Lib.hid (H8C.out.at q)
      generalize cs[q]?.getD chZ = ch at *
      obtain ⟨i, to⟩ := ch
      have HCR := Lib.hid hcr
      clear hcr
      have hQ : Hid (∀ X, Below wr.heap.size wr X → X.cell? ⟨bc, fc + q * 10, none⟩ = some (.int .i64 i)) := Lib.hid (fun X hX => (HCR.out X (bnext HA.out.below hX)).1)
      have lma : Hid (∀ X, Below wr.heap.size wr X → (loadVar 25 ⟨ga, 0, none⟩).run Try.prog X = .ok (.agg (mkC true a1 a2 a3 a4 a5 a6 (.slice oC ln ocC) (.slice kC ln kcC))) X) := Lib.hid (fun X hX => load_mk (HA.out.var.below hX))
      have lmb : Hid (∀ X, Below wr.heap.size wr X → (loadVar 25 ⟨gb, 0, none⟩).run Try.prog X = .ok (.agg (mkC true a1 a2 a3 a4 a5 a6 (.slice oD ln odD) (.slice kD ln kdD))) X) := Lib.hid (fun X hX => load_mk (HB.out.var.below hX))
      have ka : Hid (∀ X, Below wr.heap.size wr X → Calls Try.prog 10 #[.agg (mkC true a1 a2 a3 a4 a5 a6 (.slice oC ln ocC) (.slice kC ln kcC)), .slice xA ln xc, .int .i64 i] X fun e w' => ∃ v, e = .returned v ∧ Below X.heap.size X w' ∧ keptV wr.heap.size true a1 a2 a3 a4 a5 a6 ln (keepS ⟨true, old', kept'⟩ x i) v w') := Lib.hid (fun X hX => keptV_call hX.size (keep_any true a1 a2 a3 a4 a5 a6 oC ln ocC kC kcC old' kept' x xA ln xc i X (HA.out.own.inn.below hX) (HA.out.ents.below hX) HA.out.x8 HA.out.xl (by omega)))
      have kb : Hid (∀ X, Below wr.heap.size wr X → Calls Try.prog 11 #[.agg (mkC true a1 a2 a3 a4 a5 a6 (.slice oD ln odD) (.slice kD ln kdD)), .slice xA ln xc, .int .i64 i] X fun e w' => ∃ v, e = .returned v ∧ Below X.heap.size X w' ∧ mayV wr.heap.size true a1 a2 a3 a4 a5 a6 ln (keepS ⟨true, old', kept'⟩ x i) old' kept' oD odD kD kdD v w') := Lib.hid (fun X hX => mayV_call hX.size (rkeep_any true a1 a2 a3 a4 a5 a6 oD ln odD kD kdD old' kept' x xA ln xc i X (HB.out.own.inn.below hX) (HB.out.ents.below hX) HB.out.x8 HB.out.xl (by omega)))
      go_wp2
      try simp only [List.append_eq, List.cons_append, List.nil_append]
      refine wp_region_saysK 16 (fun x y => Below x.heap.size x y) (fun _ _ _ h k => bnext h k) wr (below_drew1 wr) (by kernel_rfl) (by kernel_rfl) (by kernel_rfl) (by kernel_rfl) (by rfl) ?_
      simp only [List.take_succ_cons, List.take_zero, List.drop_succ_cons, List.drop_zero]
      refine walkK_is (.agg ((mkC true a1 a2 a3 a4 a5 a6 (.slice oC ln ocC) (.slice kC ln kcC)))) (by first | exact gs0 rfl | exact gs1 rfl rfl rfl) (fun _ => Below.refl _ _) (fun u X hX hd => ?_) ?_
      · have hl := lma.out X hX
        try simp at hd
        refine op_load_at 25 (ga) (0) hl _ rfl ?_
        go_simp
      apply walkK_norm
      · first | (simp only [List.nil_append]; rfl) | simp only [List.nil_append]
      refine walkK_is ?_ (by first | exact gs0 rfl | exact gs1 rfl rfl rfl) (fun _ => Below.refl _ _) (fun u X hX hd => ?_) ?_
      rotate_left
      · have q0 := hQ.out X hX
        try simp at hd
        go_simp
        try rfl
      apply walkK_norm
      · first | (simp only [List.nil_append, List.cons_append]; rfl) | simp only [List.nil_append, List.cons_append]
      refine walkK_is ?_ (by first | exact gs0 rfl | exact gs1 rfl rfl rfl) (fun _ => Below.refl _ _) (fun u X hX hd => ?_) ?_
      rotate_left
      · have q0 := hQ.out X hX
        try simp at hd
        go_simp
        try rfl
      apply walkK_norm
      · first | (simp only [List.nil_append, List.cons_append]; rfl) | simp only [List.nil_append, List.cons_append]
      refine walkK_is ?_ (by first | exact gs0 rfl | exact gs1 rfl rfl rfl) (fun _ => Below.refl _ _) (fun u X hX hd => ?_) ?_
      rotate_left
      · have q0 := hQ.out X hX
        try simp at hd
        go_simp
        try rfl
      apply walkK_norm
      · first | (simp only [List.nil_append, List.cons_append]; rfl) | simp only [List.nil_append, List.cons_append]
      refine walkK_is ?_ (by first | exact gs0 rfl | exact gs1 rfl rfl rfl) (fun _ => Below.refl _ _) (fun u X hX hd => ?_) ?_
      rotate_left
      · have q0 := hQ.out X hX
        try simp at hd
        go_simp
        try rfl
      apply walkK_norm
      · first | (simp only [List.nil_append, List.cons_append]; rfl) | simp only [List.nil_append, List.cons_append]
      refine walkK_is ?_ (by first | exact gs0 rfl | exact gs1 rfl rfl rfl) (fun _ => Below.refl _ _) (fun u X hX hd => ?_) ?_
      rotate_left
      · have q0 := hQ.out X hX
        try simp at hd
        go_simp
        try rfl
      apply walkK_norm
      · first | (simp only [List.nil_append, List.cons_append]; rfl) | simp only [List.nil_append, List.cons_append]
      refine walkK_is ?_ (by first | exact gs0 rfl | exact gs1 rfl rfl rfl) (fun _ => Below.refl _ _) (fun u X hX hd => ?_) ?_
      rotate_left
      · have q0 := hQ.out X hX
        try simp at hd
        go_simp
        try rfl
      apply walkK_norm
      · first | (simp only [List.nil_append, List.cons_append]; rfl) | simp only [List.nil_append, List.cons_append]
      refine walkK_call (keptV wr.heap.size true a1 a2 a3 a4 a5 a6 ln (keepS ⟨true, old', kept'⟩ x i)) 10 ?_ (by first | exact gs0 rfl | exact gs1 rfl rfl rfl) (fun v x y hb h => keptV_keep v x y hb h) (fun u X hX hd => ?_) (fun X hX => ?_) ?_
      rotate_left
      · have q0 := hQ.out X hX
        try simp at hd
        go_simp
        try rfl
      · exact ka.out X hX
      apply walkK_norm
      · first | (simp only [List.nil_append, List.cons_append]; rfl) | simp only [List.nil_append, List.cons_append]
      refine walkK_is (.agg ((mkC true a1 a2 a3 a4 a5 a6 (.slice oD ln odD) (.slice kD ln kdD)))) (by first | exact gs0 rfl | exact gs1 rfl rfl rfl) (fun _ => Below.refl _ _) (fun u X hX hd => ?_) ?_
      · have hl := lmb.out X hX
        try simp at hd
        refine op_load_at 25 (gb) (0) hl _ rfl ?_
        go_simp
      apply walkK_norm
      · first | (simp only [List.nil_append, List.cons_append]; rfl) | simp only [List.nil_append, List.cons_append]
      refine walkK_is ?_ (by first | exact gs0 rfl | exact gs1 rfl rfl rfl) (fun _ => Below.refl _ _) (fun u X hX hd => ?_) ?_
      rotate_left
      · have q0 := hQ.out X hX
        try simp at hd
        go_simp
        try rfl
      apply walkK_norm
      · first | (simp only [List.nil_append, List.cons_append]; rfl) | simp only [List.nil_append, List.cons_append]
      refine walkK_is ?_ (by first | exact gs0 rfl | exact gs1 rfl rfl rfl) (fun _ => Below.refl _ _) (fun u X hX hd => ?_) ?_
      rotate_left
      · have q0 := hQ.out X hX
        try simp at hd
        go_simp
        try rfl
      apply walkK_norm
      · first | (simp only [List.nil_append, List.cons_append]; rfl) | simp only [List.nil_append, List.cons_append]
      refine walkK_is ?_ (by first | exact gs0 rfl | exact gs1 rfl rfl rfl) (fun _ => Below.refl _ _) (fun u X hX hd => ?_) ?_
      rotate_left
      · have q0 := hQ.out X hX
        try simp at hd
        go_simp
        try rfl
      apply walkK_norm
      · first | (simp only [List.nil_append, List.cons_append]; rfl) | simp only [List.nil_append, List.cons_append]
      refine walkK_is ?_ (by first | exact gs0 rfl | exact gs1 rfl rfl rfl) (fun _ => Below.refl _ _) (fun u X hX hd => ?_) ?_
      rotate_left
      · have q0 := hQ.out X hX
        try simp at hd
        go_simp
        try rfl
      apply walkK_norm
      · first | (simp only [List.nil_append, List.cons_append]; rfl) | simp only [List.nil_append, List.cons_append]
      refine walkK_is ?_ (by first | exact gs0 rfl | exact gs1 rfl rfl rfl) (fun _ => Below.refl _ _) (fun u X hX hd => ?_) ?_
      rotate_left
      · have q0 := hQ.out X hX
        try simp at hd
        go_simp
        try rfl
      apply walkK_norm
      · first | (simp only [List.nil_append, List.cons_append]; rfl) | simp only [List.nil_append, List.cons_append]
      refine walkK_is ?_ (by first | exact gs0 rfl | exact gs1 rfl rfl rfl) (fun _ => Below.refl _ _) (fun u X hX hd => ?_) ?_
      rotate_left
      · have q0 := hQ.out X hX
        try simp at hd
        go_simp
        try rfl
      apply walkK_norm
      · first | (simp only [List.nil_append, List.cons_append]; rfl) | simp only [List.nil_append, List.cons_append]
      refine walkK_call (mayV wr.heap.size true a1 a2 a3 a4 a5 a6 ln (keepS ⟨true, old', kept'⟩ x i) old' kept' oD odD kD kdD) 11 ?_ (by first | exact gs0 rfl | exact gs1 rfl rfl rfl) (fun v x y hb h => mayV_keep v x y hb h) (fun u X hX hd => ?_) (fun X hX => ?_) ?_
      rotate_left
      · have q0 := hQ.out X hX
        try simp at hd
        go_simp
        try rfl
      · exact kb.out X hX
      apply walkK_norm
      · first | (simp only [List.nil_append, List.cons_append]; rfl) | simp only [List.nil_append, List.cons_append]
      intro u X hX hsay
      simp only [sayAll, isV] at hsay
      obtain ⟨-, -, -, -, -, -, -, v7, -, -, -, -, -, -, -, v15, -⟩ := hsay
      obtain ⟨oE, ocE, kE, kcE, v7, hE0⟩ := v7
      obtain ⟨oF, odF, kF, kdF, v15, hF0⟩ := v15
      simp only [putAll, Act.put, v7, v15, List.setIfInBounds_toArray, List.set_cons_succ, List.set_cons_zero]
      obtain ⟨hF1, hF2⟩ := HB.out.may hX hF0
      have va := HA.out.var.below hX
      have vb := HB.out.var.below hX
      have VA := Lib.hid va
      have vb2 := vb.farRow (Ne.symm hab) (mkC true a1 a2 a3 a4 a5 a6 (.slice oE ln ocE) (.slice kE ln kcE))
      have VB := Lib.hid vb2
      have SA1 := Lib.hid ((HA.out.keep hX hE0).other vb2 hab (Nat.le_of_lt hbg) (mkC true a1 a2 a3 a4 a5 a6 (.slice oF ln odF) (.slice kF ln kdF)))
      have SB1 := Lib.hid (((HB.out.next hX).other va (Ne.symm hab) (Nat.le_of_lt hag) (mkC true a1 a2 a3 a4 a5 a6 (.slice oE ln ocE) (.slice kE ln kcE))).keep2 (hF1.varRow va (by decide) (by decide) _) hF2)
      have XM1 := Lib.hid (((HX.out.below hX).farRow (show w.heap.size ≠ ga by omega) (mkC true a1 a2 a3 a4 a5 a6 (.slice oE ln ocE) (.slice kE ln kcE))).farRow (show w.heap.size ≠ gb by omega) (mkC true a1 a2 a3 a4 a5 a6 (.slice oF ln odF) (.slice kF ln kdF)))
      obtain ⟨M', hM2⟩ : ∃ M', M' = keepS ⟨true, old', kept'⟩ x i := ⟨_, rfl⟩
      rw [← hM2] at SA1 SB1
      have hxl : x.length = ln := HA.out.xl
      obtain ⟨wa, hWA⟩ : ∃ W, W = (X.setRow ga (mkC true a1 a2 a3 a4 a5 a6 (.slice oE ln ocE) (.slice kE ln kcE))).setRow gb (mkC true a1 a2 a3 a4 a5 a6 (.slice oF ln odF) (.slice kF ln kdF)) := ⟨_, rfl⟩
      rw [← hWA] at SA1 SB1 XM1
      have HWA := Lib.hid hWA
      clear hWA hE0 hF0 hF1 hF2 va vb vb2 v7 v15 hX HA HB HX hM2 hQ lma lmb ka kb
      obtain ⟨on', old2, kept2⟩ := M'
      simp only at SA1 SB1
      clear on'
      have HCC : Hid (∀ W, Below wa.heap.size wa W → W.cell? ⟨bc, fc + q * 10, none⟩ = some (.int .i64 i) ∧ (loadVar 34 ⟨bc, fc + q * 10 + 1, none⟩).run Try.prog W = .ok (.agg (bkC (entI to))) W) := Lib.hid (fun W hW => HCR.out W (bnext SA1.out.below hW))
      have ca := (HCC.out wa (Below.refl _ _)).1
      have hbca : bc < wa.heap.size := Nat.lt_of_lt_of_le hbc SA1.out.below.size
      by_cases hin : 0 ≤ i ∧ i < (ln : Int)
      · obtain ⟨j, rfl⟩ : ∃ j : Nat, i = (j : Int) := ⟨i.toNat, by omega⟩
        have hj : j < ln := by omega
        have e1 : (j : Int) < (ln : Int) := by omega
        have e2 : (0 : Int) ≤ (j : Int) := by omega
        have hxc : ln ≤ xc := by have := SA1.out.ents.2.1; omega
        have e3 : (j : Int) < (xc : Int) := by omega
        obtain ⟨gx, curx, rfl, -, hkx, -, -, hsx, -⟩ := own_pos SA1.out.row (by omega)
        have HKX := Lib.hid hkx
        have HSX := Lib.hid hsx
        have hxb : w.heap.size ≠ gx := own_var_ne SA1.out.row XM1.out (by decide)
        clear hkx hsx hxl
        go_wp2_with (first
          | (with_reducible refine st_mk ga VA.out rfl rfl rfl _ _ rfl rfl rfl rfl ?_)
          | (with_reducible refine st_mk gb VB.out rfl rfl rfl _ _ rfl rfl rfl rfl ?_; go_must (rw [← HWA.out])))
        have hQ : Hid (∀ X, Below wa.heap.size wa X → X.cell? ⟨bc, fc + q * 10, none⟩ = some (.int .i64 (j : Int))) := Lib.hid (fun X hX => (HCC.out X hX).1)
        obtain ⟨E, hE⟩ : ∃ E : Array Value, E = bkC (entI to) := ⟨_, rfl⟩
        have E9 : E.size = 9 := by rw [hE, bkC_size, entI_length HT8.out]
        have EI : (Try.prog.info? 34).map (·.size) = some E.size := by rw [E9]; exact infoEnt9
        have EA : E.all (·.oneCell') = true := by rw [hE]; exact bkC_all _
        have hLE : Hid (∀ X, Below wa.heap.size wa X → (loadVar 34 ⟨bc, fc + q * 10 + 1, none⟩).run Try.prog X = .ok (.agg E) X) := Lib.hid (fun X hX => by rw [hE]; exact (HCC.out X hX).2)
        have HEE := Lib.hid hE
        clear hE
        try simp only [List.append_eq, List.cons_append, List.nil_append]
        refine wp_region_saysK 12 (fun x y => Below x.heap.size x y) (fun _ _ _ h k => bnext h k) wa (below_drew1 wa) (by kernel_rfl) (by kernel_rfl) (by kernel_rfl) (by kernel_rfl) (by rfl) ?_
        simp only [List.take_succ_cons, List.take_zero, List.drop_succ_cons, List.drop_zero]
        refine walkK_is ?_ (by first | exact gs0 rfl | exact gs1 rfl rfl rfl) (fun _ => Below.refl _ _) (fun u X hX hd => ?_) ?_
        rotate_left
        · have q0 := hQ.out X hX
          try simp at hd
          go_simp
          try rfl
        apply walkK_norm
        · first | (simp only [List.nil_append]; rfl) | simp only [List.nil_append]
        refine walkK_is ?_ (by first | exact gs0 rfl | exact gs1 rfl rfl rfl) (fun _ => Below.refl _ _) (fun u X hX hd => ?_) ?_
        rotate_left
        · have q0 := hQ.out X hX
          try simp at hd
          go_simp
          try rfl
        apply walkK_norm
        · first | (simp only [List.nil_append, List.cons_append]; rfl) | simp only [List.nil_append, List.cons_append]
        refine walkK_is ?_ (by first | exact gs0 rfl | exact gs1 rfl rfl rfl) (fun _ => Below.refl _ _) (fun u X hX hd => ?_) ?_
        rotate_left
        · have q0 := hQ.out X hX
          try simp at hd
          go_simp
          try rfl
        apply walkK_norm
        · first | (simp only [List.nil_append, List.cons_append]; rfl) | simp only [List.nil_append, List.cons_append]
        refine walkK_is ?_ (by first | exact gs0 rfl | exact gs1 rfl rfl rfl) (fun _ => Below.refl _ _) (fun u X hX hd => ?_) ?_
        rotate_left
        · have q0 := hQ.out X hX
          try simp at hd
          go_simp
          try rfl
        apply walkK_norm
        · first | (simp only [List.nil_append, List.cons_append]; rfl) | simp only [List.nil_append, List.cons_append]
        refine walkK_is ?_ (by first | exact gs0 rfl | exact gs1 rfl rfl rfl) (fun _ => Below.refl _ _) (fun u X hX hd => ?_) ?_
        rotate_left
        · have q0 := hQ.out X hX
          try simp at hd
          go_simp
          try rfl
        apply walkK_norm
        · first | (simp only [List.nil_append, List.cons_append]; rfl) | simp only [List.nil_append, List.cons_append]
        refine walkK_is ?_ (by first | exact gs0 rfl | exact gs1 rfl rfl rfl) (fun _ => Below.refl _ _) (fun u X hX hd => ?_) ?_
        rotate_left
        · have q0 := hQ.out X hX
          try simp at hd
          go_simp
          try rfl
        apply walkK_norm
        · first | (simp only [List.nil_append, List.cons_append]; rfl) | simp only [List.nil_append, List.cons_append]
        refine walkK_is ?_ (by first | exact gs0 rfl | exact gs1 rfl rfl rfl) (fun _ => Below.refl _ _) (fun u X hX hd => ?_) ?_
        rotate_left
        · have q0 := hQ.out X hX
          try simp at hd
          go_simp
          try rfl
        apply walkK_norm
        · first | (simp only [List.nil_append, List.cons_append]; rfl) | simp only [List.nil_append, List.cons_append]
        refine walkK_is ?_ (by first | exact gs0 rfl | exact gs1 rfl rfl rfl) (fun _ => Below.refl _ _) (fun u X hX hd => ?_) ?_
        rotate_left
        · have q0 := hQ.out X hX
          try simp at hd
          go_simp
          try rfl
        apply walkK_norm
        · first | (simp only [List.nil_append, List.cons_append]; rfl) | simp only [List.nil_append, List.cons_append]
        refine walkK_is ?_ (by first | exact gs0 rfl | exact gs1 rfl rfl rfl) (fun _ => Below.refl _ _) (fun u X hX hd => ?_) ?_
        rotate_left
        · have q0 := hQ.out X hX
          try simp at hd
          go_simp
          try rfl
        apply walkK_norm
        · first | (simp only [List.nil_append, List.cons_append]; rfl) | simp only [List.nil_append, List.cons_append]
        refine walkK_is ?_ (by first | exact gs0 rfl | exact gs1 rfl rfl rfl) (fun _ => Below.refl _ _) (fun u X hX hd => ?_) ?_
        rotate_left
        · have q0 := hQ.out X hX
          try simp at hd
          go_simp
          try rfl
        apply walkK_norm
        · first | (simp only [List.nil_append, List.cons_append]; rfl) | simp only [List.nil_append, List.cons_append]
        refine walkK_is (.agg (E)) (by first | exact gs0 rfl | exact gs1 rfl rfl rfl) (fun _ => Below.refl _ _) (fun u X hX hd => ?_) ?_
        · have hl := hLE.out X hX
          try simp at hd
          refine op_load_at 34 (bc) (fc + q * 10 + 1) hl _ rfl ?_
          go_simp
        apply walkK_norm
        · first | (simp only [List.nil_append, List.cons_append]; rfl) | simp only [List.nil_append, List.cons_append]
        refine walkK_is ?_ (by first | exact gs0 rfl | exact gs1 rfl rfl rfl) (fun _ => Below.refl _ _) (fun u X hX hd => ?_) ?_
        rotate_left
        · have q0 := hQ.out X hX
          try simp at hd
          go_simp
          try rfl
        apply walkK_norm
        · first | (simp only [List.nil_append, List.cons_append]; rfl) | simp only [List.nil_append, List.cons_append]
        intro u X hX hsay
        simp only [sayAll, isV] at hsay
        obtain ⟨-, -, -, -, -, -, -, -, -, -, v10, v11, -⟩ := hsay
        simp only [putAll, Act.put, v10, v11, List.setIfInBounds_toArray, List.set_cons_succ, List.set_cons_zero]
        have GT : Hid (X.there gx (j * 9) E.size) := Lib.hid ((HKX.out.below hX).there (by rw [HSX.out, E9]; omega))
        have SA2 := Lib.hid ((SA1.out.next hX).turn hj HT8.out)
        have SB2 := Lib.hid ((SB1.out.next hX).turn hj HT8.out)
        have XM2 := Lib.hid ((XM1.out.below hX).setCells hxb (j * 9) E.toList)
        rw [← HEE.out] at SA2 SB2
        obtain ⟨wb, hWB⟩ : ∃ W, W = X.setCells gx (j * 9) E.toList := ⟨_, rfl⟩
        rw [← hWB] at SA2 SB2 XM2
        have HWB := Lib.hid hWB
        clear hWB v10 v11 hLE hQ HCC SA1 SB1 XM1 HKX HSX VA VB HEE ca hbca HWA
        have cb := (HCR.out wb SA2.out.below).1
        have hbcb : bc < wb.heap.size := Nat.lt_of_lt_of_le hbc SA2.out.below.size
        go_wp2_with (refine wpList_store_mid rfl 34 _ _ rfl gx (j * 9) E rfl rfl GT.out EI EA ?_; go_must (rw [← HWB.out]))
        have hQ : Hid (∀ X, Below wb.heap.size wb X → X.cell? ⟨bc, fc + q * 10, none⟩ = some (.int .i64 (j : Int))) := Lib.hid (fun X hX => (HCR.out X (bnext SA2.out.below hX)).1)
        have lma : Hid (∀ X, Below wb.heap.size wb X → (loadVar 25 ⟨ga, 0, none⟩).run Try.prog X = .ok (.agg (mkC true a1 a2 a3 a4 a5 a6 (.slice oE ln ocE) (.slice kE ln kcE))) X) := Lib.hid (fun X hX => load_mk (SA2.out.var.below hX))
        have lmb : Hid (∀ X, Below wb.heap.size wb X → (loadVar 25 ⟨gb, 0, none⟩).run Try.prog X = .ok (.agg (mkC true a1 a2 a3 a4 a5 a6 (.slice oF ln odF) (.slice kF ln kdF))) X) := Lib.hid (fun X hX => load_mk (SB2.out.var.below hX))
        have lm : Hid (∀ X, Below wb.heap.size wb X → (loadVar 25 ⟨w.heap.size, 0, none⟩).run Try.prog X = .ok (.agg (mkC on a1 a2 a3 a4 a5 a6 (.slice oA no oc) (.slice kA no kc))) X) := Lib.hid (fun X hX => load_mk (XM2.out.below hX))
        have sm : Hid (∀ X, Below wb.heap.size wb X → Calls Try.prog 12 #[.agg (mkC true a1 a2 a3 a4 a5 a6 (.slice oE ln ocE) (.slice kE ln kcE)), .agg (mkC true a1 a2 a3 a4 a5 a6 (.slice oF ln odF) (.slice kF ln kdF))] X fun e w' => e = .returned (.bool true) ∧ Below X.heap.size X w') := Lib.hid (fun X hX => rsameM_yes true a1 a2 a3 a4 a5 a6 oE ln ocE kE kcE oF odF kF kdF _ _ X (SA2.out.own.inn.below hX) (SB2.out.own.inn.below hX) (by omega))
        have hx8 := SA2.out.x8
        obtain ⟨y, hy⟩ : ∃ y, y = seeS ⟨true, old2, kept2⟩ (x.set j to) (j : Int) := ⟨_, rfl⟩
        obtain ⟨z, hz⟩ : ∃ z, z = seeS ⟨on, old, kept⟩ (x.set j to) (j : Int) := ⟨_, rfl⟩
        have hy8 : y.cells.length = 8 := by rw [hy]; exact see_eight SA2.out.own.e8 hx8
        have hz8 : z.cells.length = 8 := by rw [hz]; exact see_eight HM.out.e8 hx8
        have s1 : Hid (∀ X, Below wb.heap.size wb X → Calls Try.prog 13 #[.agg (mkC true a1 a2 a3 a4 a5 a6 (.slice oE ln ocE) (.slice kE ln kcE)), .slice (some ⟨gx, 0, none⟩) ln xc, .int .i64 (j : Int)] X fun e w' => e = .returned (.agg (bkC (entI y))) ∧ Below X.heap.size X w') := Lib.hid (fun X hX => by rw [hy]; exact see_any true a1 a2 a3 a4 a5 a6 oE ln ocE kE kcE old2 kept2 (x.set j to) (some ⟨gx, 0, none⟩) ln xc (j : Int) X (SA2.out.own.inn.below hX) (SA2.out.ents.below hX) hx8 SA2.out.xl)
        have s2 : Hid (∀ X, Below wb.heap.size wb X → Calls Try.prog 14 #[.agg (mkC true a1 a2 a3 a4 a5 a6 (.slice oF ln odF) (.slice kF ln kdF)), .slice (some ⟨gx, 0, none⟩) ln xc, .int .i64 (j : Int)] X fun e w' => e = .returned (.agg (bkC (entI y))) ∧ Below X.heap.size X w') := Lib.hid (fun X hX => by rw [hy]; exact rsee_any true a1 a2 a3 a4 a5 a6 oF ln odF kF kdF old2 kept2 (x.set j to) (some ⟨gx, 0, none⟩) ln xc (j : Int) X (SB2.out.own.inn.below hX) (SA2.out.ents.below hX) hx8 SA2.out.xl)
        have s3 : Hid (∀ X, Below wb.heap.size wb X → Calls Try.prog 13 #[.agg (mkC on a1 a2 a3 a4 a5 a6 (.slice oA no oc) (.slice kA no kc)), .slice (some ⟨gx, 0, none⟩) ln xc, .int .i64 (j : Int)] X fun e w' => e = .returned (.agg (bkC (entI z))) ∧ Below X.heap.size X w') := Lib.hid (fun X hX => by rw [hz]; exact see_any on a1 a2 a3 a4 a5 a6 oA no oc kA kc old kept (x.set j to) (some ⟨gx, 0, none⟩) ln xc (j : Int) X (HM.out.below (bnext SA2.out.below hX)) (SA2.out.ents.below hX) hx8 SA2.out.xl)
        have s4 : Hid (∀ X, Below wb.heap.size wb X → Calls Try.prog 14 #[.agg (mkC on a1 a2 a3 a4 a5 a6 (.slice oA no oc) (.slice kA no kc)), .slice (some ⟨gx, 0, none⟩) ln xc, .int .i64 (j : Int)] X fun e w' => e = .returned (.agg (bkC (entI z))) ∧ Below X.heap.size X w') := Lib.hid (fun X hX => by rw [hz]; exact rsee_any on a1 a2 a3 a4 a5 a6 oA no oc kA kc old kept (x.set j to) (some ⟨gx, 0, none⟩) ln xc (j : Int) X (HM.out.below (bnext SA2.out.below hX)) (SA2.out.ents.below hX) hx8 SA2.out.xl)
        have EQ1 : Hid (∀ W : World, (binOp .neq 34 (.agg (bkC (entI y))) (.agg (bkC (entI y)))).run Try.prog W = .ok (.bool false) W) := Lib.hid (fun W => by rw [neq_ent W hy8 hy8, decide_eq_true rfl]; rfl)
        have EQ2 : Hid (∀ W : World, (binOp .neq 34 (.agg (bkC (entI z))) (.agg (bkC (entI z)))).run Try.prog W = .ok (.bool false) W) := Lib.hid (fun W => by rw [neq_ent W hz8 hz8, decide_eq_true rfl]; rfl)
        clear hx8 hy hz hy8 hz8 HCR
        generalize bkC (entI y) = Ey at *
        generalize bkC (entI z) = Ez at *
        try simp only [List.append_eq, List.cons_append, List.nil_append]
        refine wp_region_saysK 41 (fun x y => Below x.heap.size x y) (fun _ _ _ h k => bnext h k) wb (below_drew1 wb) (by kernel_rfl) (by kernel_rfl) (by kernel_rfl) (by kernel_rfl) (by rfl) ?_
        simp only [List.take_succ_cons, List.take_zero, List.drop_succ_cons, List.drop_zero]
        refine walkK_is (.agg ((mkC true a1 a2 a3 a4 a5 a6 (.slice oE ln ocE) (.slice kE ln kcE)))) (by first | exact gs0 rfl | exact gs1 rfl rfl rfl) (fun _ => Below.refl _ _) (fun u X hX hd => ?_) ?_
        · have hl := lma.out X hX
          try simp at hd
          refine op_load_at 25 (ga) (0) hl _ rfl ?_
          go_simp
        apply walkK_norm
        · first | (simp only [List.nil_append]; rfl) | simp only [List.nil_append]
        refine walkK_is (.agg ((mkC true a1 a2 a3 a4 a5 a6 (.slice oF ln odF) (.slice kF ln kdF)))) (by first | exact gs0 rfl | exact gs1 rfl rfl rfl) (fun _ => Below.refl _ _) (fun u X hX hd => ?_) ?_
        · have hl := lmb.out X hX
          try simp at hd
          refine op_load_at 25 (gb) (0) hl _ rfl ?_
          go_simp
        apply walkK_norm
        · first | (simp only [List.nil_append, List.cons_append]; rfl) | simp only [List.nil_append, List.cons_append]
        refine walkK_call (isV (.bool true)) 12 ?_ (by first | exact gs0 rfl | exact gs1 rfl rfl rfl) (fun _ _ _ _ h => h) (fun u X hX hd => ?_) (fun X hX => ?_) ?_
        rotate_left
        · have q0 := hQ.out X hX
          try simp at hd
          go_simp
          try rfl
        · exact (sm.out X hX).mono fun e X' ⟨he, hb⟩ => ⟨_, he, hb, rfl⟩
        apply walkK_norm
        · first | (simp only [List.nil_append, List.cons_append]; rfl) | simp only [List.nil_append, List.cons_append]
        refine walkK_is (.bool false) (by first | exact gs0 rfl | exact gs1 rfl rfl rfl) (fun _ => Below.refl _ _) (fun u X hX hd => ?_) ?_
        · have q0 := hQ.out X hX
          try simp at hd
          go_simp
          try rfl
        apply walkK_norm
        · first | (simp only [List.nil_append, List.cons_append]; rfl) | simp only [List.nil_append, List.cons_append]
        refine walkK_is (.bool false) (by first | exact gs0 rfl | exact gs1 rfl rfl rfl) (fun _ => Below.refl _ _) (fun u X hX hd => ?_) ?_
        · have q0 := hQ.out X hX
          try simp at hd
          go_simp
          try rfl
        apply walkK_norm
        · first | (simp only [List.nil_append, List.cons_append]; rfl) | simp only [List.nil_append, List.cons_append]
        refine walkK_is (.agg ((mkC true a1 a2 a3 a4 a5 a6 (.slice oE ln ocE) (.slice kE ln kcE)))) (by first | exact gs0 rfl | exact gs1 rfl rfl rfl) (fun _ => Below.refl _ _) (fun u X hX hd => ?_) ?_
        · have hl := lma.out X hX
          try simp at hd
          refine op_load_at 25 (ga) (0) hl _ rfl ?_
          go_simp
        apply walkK_norm
        · first | (simp only [List.nil_append, List.cons_append]; rfl) | simp only [List.nil_append, List.cons_append]
        refine walkK_is ?_ (by first | exact gs0 rfl | exact gs1 rfl rfl rfl) (fun _ => Below.refl _ _) (fun u X hX hd => ?_) ?_
        rotate_left
        · have q0 := hQ.out X hX
          try simp at hd
          go_simp
          try rfl
        apply walkK_norm
        · first | (simp only [List.nil_append, List.cons_append]; rfl) | simp only [List.nil_append, List.cons_append]
        refine walkK_is ?_ (by first | exact gs0 rfl | exact gs1 rfl rfl rfl) (fun _ => Below.refl _ _) (fun u X hX hd => ?_) ?_
        rotate_left
        · have q0 := hQ.out X hX
          try simp at hd
          go_simp
          try rfl
        apply walkK_norm
        · first | (simp only [List.nil_append, List.cons_append]; rfl) | simp only [List.nil_append, List.cons_append]
        refine walkK_is ?_ (by first | exact gs0 rfl | exact gs1 rfl rfl rfl) (fun _ => Below.refl _ _) (fun u X hX hd => ?_) ?_
        rotate_left
        · have q0 := hQ.out X hX
          try simp at hd
          go_simp
          try rfl
        apply walkK_norm
        · first | (simp only [List.nil_append, List.cons_append]; rfl) | simp only [List.nil_append, List.cons_append]
        refine walkK_is ?_ (by first | exact gs0 rfl | exact gs1 rfl rfl rfl) (fun _ => Below.refl _ _) (fun u X hX hd => ?_) ?_
        rotate_left
        · have q0 := hQ.out X hX
          try simp at hd
          go_simp
          try rfl
        apply walkK_norm
        · first | (simp only [List.nil_append, List.cons_append]; rfl) | simp only [List.nil_append, List.cons_append]
        refine walkK_is ?_ (by first | exact gs0 rfl | exact gs1 rfl rfl rfl) (fun _ => Below.refl _ _) (fun u X hX hd => ?_) ?_
        rotate_left
        · have q0 := hQ.out X hX
          try simp at hd
          go_simp
          try rfl
        apply walkK_norm
        · first | (simp only [List.nil_append, List.cons_append]; rfl) | simp only [List.nil_append, List.cons_append]
        refine walkK_is ?_ (by first | exact gs0 rfl | exact gs1 rfl rfl rfl) (fun _ => Below.refl _ _) (fun u X hX hd => ?_) ?_
        rotate_left
        · have q0 := hQ.out X hX
          try simp at hd
          go_simp
          try rfl
        apply walkK_norm
        · first | (simp only [List.nil_append, List.cons_append]; rfl) | simp only [List.nil_append, List.cons_append]
        refine walkK_call (isV (.agg Ey)) 13 ?_ (by first | exact gs0 rfl | exact gs1 rfl rfl rfl) (fun _ _ _ _ h => h) (fun u X hX hd => ?_) (fun X hX => ?_) ?_
        rotate_left
        · have q0 := hQ.out X hX
          try simp at hd
          go_simp
          try rfl
        · exact (s1.out X hX).mono fun e X' ⟨he, hb⟩ => ⟨_, he, hb, rfl⟩
        apply walkK_norm
        · first | (simp only [List.nil_append, List.cons_append]; rfl) | simp only [List.nil_append, List.cons_append]
        refine walkK_is (.agg ((mkC true a1 a2 a3 a4 a5 a6 (.slice oF ln odF) (.slice kF ln kdF)))) (by first | exact gs0 rfl | exact gs1 rfl rfl rfl) (fun _ => Below.refl _ _) (fun u X hX hd => ?_) ?_
        · have hl := lmb.out X hX
          try simp at hd
          refine op_load_at 25 (gb) (0) hl _ rfl ?_
          go_simp
        apply walkK_norm
        · first | (simp only [List.nil_append, List.cons_append]; rfl) | simp only [List.nil_append, List.cons_append]
        refine walkK_is ?_ (by first | exact gs0 rfl | exact gs1 rfl rfl rfl) (fun _ => Below.refl _ _) (fun u X hX hd => ?_) ?_
        rotate_left
        · have q0 := hQ.out X hX
          try simp at hd
          go_simp
          try rfl
        apply walkK_norm
        · first | (simp only [List.nil_append, List.cons_append]; rfl) | simp only [List.nil_append, List.cons_append]
        refine walkK_is ?_ (by first | exact gs0 rfl | exact gs1 rfl rfl rfl) (fun _ => Below.refl _ _) (fun u X hX hd => ?_) ?_
        rotate_left
        · have q0 := hQ.out X hX
          try simp at hd
          go_simp
          try rfl
        apply walkK_norm
        · first | (simp only [List.nil_append, List.cons_append]; rfl) | simp only [List.nil_append, List.cons_append]
        refine walkK_is ?_ (by first | exact gs0 rfl | exact gs1 rfl rfl rfl) (fun _ => Below.refl _ _) (fun u X hX hd => ?_) ?_
        rotate_left
        · have q0 := hQ.out X hX
          try simp at hd
          go_simp
          try rfl
        apply walkK_norm
        · first | (simp only [List.nil_append, List.cons_append]; rfl) | simp only [List.nil_append, List.cons_append]
        refine walkK_is ?_ (by first | exact gs0 rfl | exact gs1 rfl rfl rfl) (fun _ => Below.refl _ _) (fun u X hX hd => ?_) ?_
        rotate_left
        · have q0 := hQ.out X hX
          try simp at hd
          go_simp
          try rfl
        apply walkK_norm
        · first | (simp only [List.nil_append, List.cons_append]; rfl) | simp only [List.nil_append, List.cons_append]
        refine walkK_is ?_ (by first | exact gs0 rfl | exact gs1 rfl rfl rfl) (fun _ => Below.refl _ _) (fun u X hX hd => ?_) ?_
        rotate_left
        · have q0 := hQ.out X hX
          try simp at hd
          go_simp
          try rfl
        apply walkK_norm
        · first | (simp only [List.nil_append, List.cons_append]; rfl) | simp only [List.nil_append, List.cons_append]
        refine walkK_is ?_ (by first | exact gs0 rfl | exact gs1 rfl rfl rfl) (fun _ => Below.refl _ _) (fun u X hX hd => ?_) ?_
        rotate_left
        · have q0 := hQ.out X hX
          try simp at hd
          go_simp
          try rfl
        apply walkK_norm
        · first | (simp only [List.nil_append, List.cons_append]; rfl) | simp only [List.nil_append, List.cons_append]
        refine walkK_call (isV (.agg Ey)) 14 ?_ (by first | exact gs0 rfl | exact gs1 rfl rfl rfl) (fun _ _ _ _ h => h) (fun u X hX hd => ?_) (fun X hX => ?_) ?_
        rotate_left
        · have q0 := hQ.out X hX
          try simp at hd
          go_simp
          try rfl
        · exact (s2.out X hX).mono fun e X' ⟨he, hb⟩ => ⟨_, he, hb, rfl⟩
        apply walkK_norm
        · first | (simp only [List.nil_append, List.cons_append]; rfl) | simp only [List.nil_append, List.cons_append]
        refine walkK_is (.bool false) (by first | exact gs0 rfl | exact gs1 rfl rfl rfl) (fun _ => Below.refl _ _) (fun u X hX hd => ?_) ?_
        · try simp at hd
          exact op_eqop_at .neq (.inr rfl) 34 false eqGuardEnt (EQ1.out X) _ _ _ rfl (by simp [look, findAt, hd]) (by simp [look, findAt, hd])
        apply walkK_norm
        · first | (simp only [List.nil_append, List.cons_append]; rfl) | simp only [List.nil_append, List.cons_append]
        refine walkK_is (.bool false) (by first | exact gs0 rfl | exact gs1 rfl rfl rfl) (fun _ => Below.refl _ _) (fun u X hX hd => ?_) ?_
        · have q0 := hQ.out X hX
          try simp at hd
          go_simp
          try rfl
        apply walkK_norm
        · first | (simp only [List.nil_append, List.cons_append]; rfl) | simp only [List.nil_append, List.cons_append]
        refine walkK_is (.bool false) (by first | exact gs0 rfl | exact gs1 rfl rfl rfl) (fun _ => Below.refl _ _) (fun u X hX hd => ?_) ?_
        · have q0 := hQ.out X hX
          try simp at hd
          go_simp
          try rfl
        apply walkK_norm
        · first | (simp only [List.nil_append, List.cons_append]; rfl) | simp only [List.nil_append, List.cons_append]
        refine walkK_is (.agg ((mkC on a1 a2 a3 a4 a5 a6 (.slice oA no oc) (.slice kA no kc)))) (by first | exact gs0 rfl | exact gs1 rfl rfl rfl) (fun _ => Below.refl _ _) (fun u X hX hd => ?_) ?_
        · have hl := lm.out X hX
          try simp at hd
          refine op_load_at 25 (w.heap.size) (0) hl _ rfl ?_
          go_simp
        apply walkK_norm
        · first | (simp only [List.nil_append, List.cons_append]; rfl) | simp only [List.nil_append, List.cons_append]
        refine walkK_is ?_ (by first | exact gs0 rfl | exact gs1 rfl rfl rfl) (fun _ => Below.refl _ _) (fun u X hX hd => ?_) ?_
        rotate_left
        · have q0 := hQ.out X hX
          try simp at hd
          go_simp
          try rfl
        apply walkK_norm
        · first | (simp only [List.nil_append, List.cons_append]; rfl) | simp only [List.nil_append, List.cons_append]
        refine walkK_is ?_ (by first | exact gs0 rfl | exact gs1 rfl rfl rfl) (fun _ => Below.refl _ _) (fun u X hX hd => ?_) ?_
        rotate_left
        · have q0 := hQ.out X hX
          try simp at hd
          go_simp
          try rfl
        apply walkK_norm
        · first | (simp only [List.nil_append, List.cons_append]; rfl) | simp only [List.nil_append, List.cons_append]
        refine walkK_is ?_ (by first | exact gs0 rfl | exact gs1 rfl rfl rfl) (fun _ => Below.refl _ _) (fun u X hX hd => ?_) ?_
        rotate_left
        · have q0 := hQ.out X hX
          try simp at hd
          go_simp
          try rfl
        apply walkK_norm
        · first | (simp only [List.nil_append, List.cons_append]; rfl) | simp only [List.nil_append, List.cons_append]
        refine walkK_is ?_ (by first | exact gs0 rfl | exact gs1 rfl rfl rfl) (fun _ => Below.refl _ _) (fun u X hX hd => ?_) ?_
        rotate_left
        · have q0 := hQ.out X hX
          try simp at hd
          go_simp
          try rfl
        apply walkK_norm
        · first | (simp only [List.nil_append, List.cons_append]; rfl) | simp only [List.nil_append, List.cons_append]
        refine walkK_is ?_ (by first | exact gs0 rfl | exact gs1 rfl rfl rfl) (fun _ => Below.refl _ _) (fun u X hX hd => ?_) ?_
        rotate_left
        · have q0 := hQ.out X hX
          try simp at hd
          go_simp
          try rfl
        apply walkK_norm
        · first | (simp only [List.nil_append, List.cons_append]; rfl) | simp only [List.nil_append, List.cons_append]
        refine walkK_is ?_ (by first | exact gs0 rfl | exact gs1 rfl rfl rfl) (fun _ => Below.refl _ _) (fun u X hX hd => ?_) ?_
        rotate_left
        · have q0 := hQ.out X hX
          try simp at hd
          go_simp
          try rfl
        apply walkK_norm
        · first | (simp only [List.nil_append, List.cons_append]; rfl) | simp only [List.nil_append, List.cons_append]
        refine walkK_call (isV (.agg Ez)) 13 ?_ (by first | exact gs0 rfl | exact gs1 rfl rfl rfl) (fun _ _ _ _ h => h) (fun u X hX hd => ?_) (fun X hX => ?_) ?_
        rotate_left
        · have q0 := hQ.out X hX
          try simp at hd
          go_simp
          try rfl
        · exact (s3.out X hX).mono fun e X' ⟨he, hb⟩ => ⟨_, he, hb, rfl⟩
        apply walkK_norm
        · first | (simp only [List.nil_append, List.cons_append]; rfl) | simp only [List.nil_append, List.cons_append]
        refine walkK_is (.agg ((mkC on a1 a2 a3 a4 a5 a6 (.slice oA no oc) (.slice kA no kc)))) (by first | exact gs0 rfl | exact gs1 rfl rfl rfl) (fun _ => Below.refl _ _) (fun u X hX hd => ?_) ?_
        · have hl := lm.out X hX
          try simp at hd
          refine op_load_at 25 (w.heap.size) (0) hl _ rfl ?_
          go_simp
        apply walkK_norm
        · first | (simp only [List.nil_append, List.cons_append]; rfl) | simp only [List.nil_append, List.cons_append]
        refine walkK_is ?_ (by first | exact gs0 rfl | exact gs1 rfl rfl rfl) (fun _ => Below.refl _ _) (fun u X hX hd => ?_) ?_
        rotate_left
        · have q0 := hQ.out X hX
          try simp at hd
          go_simp
          try rfl
        apply walkK_norm
        · first | (simp only [List.nil_append, List.cons_append]; rfl) | simp only [List.nil_append, List.cons_append]
        refine walkK_is ?_ (by first | exact gs0 rfl | exact gs1 rfl rfl rfl) (fun _ => Below.refl _ _) (fun u X hX hd => ?_) ?_
        rotate_left
        · have q0 := hQ.out X hX
          try simp at hd
          go_simp
          try rfl
        apply walkK_norm
        · first | (simp only [List.nil_append, List.cons_append]; rfl) | simp only [List.nil_append, List.cons_append]
        refine walkK_is ?_ (by first | exact gs0 rfl | exact gs1 rfl rfl rfl) (fun _ => Below.refl _ _) (fun u X hX hd => ?_) ?_
        rotate_left
        · have q0 := hQ.out X hX
          try simp at hd
          go_simp
          try rfl
        apply walkK_norm
        · first | (simp only [List.nil_append, List.cons_append]; rfl) | simp only [List.nil_append, List.cons_append]
        refine walkK_is ?_ (by first | exact gs0 rfl | exact gs1 rfl rfl rfl) (fun _ => Below.refl _ _) (fun u X hX hd => ?_) ?_
        rotate_left
        · have q0 := hQ.out X hX
          try simp at hd
          go_simp
          try rfl
        apply walkK_norm
        · first | (simp only [List.nil_append, List.cons_append]; rfl) | simp only [List.nil_append, List.cons_append]
        refine walkK_is ?_ (by first | exact gs0 rfl | exact gs1 rfl rfl rfl) (fun _ => Below.refl _ _) (fun u X hX hd => ?_) ?_
        rotate_left
        · have q0 := hQ.out X hX
          try simp at hd
          go_simp
          try rfl
        apply walkK_norm
        · first | (simp only [List.nil_append, List.cons_append]; rfl) | simp only [List.nil_append, List.cons_append]
        refine walkK_is ?_ (by first | exact gs0 rfl | exact gs1 rfl rfl rfl) (fun _ => Below.refl _ _) (fun u X hX hd => ?_) ?_
        rotate_left
        · have q0 := hQ.out X hX
          try simp at hd
          go_simp
          try rfl
        apply walkK_norm
        · first | (simp only [List.nil_append, List.cons_append]; rfl) | simp only [List.nil_append, List.cons_append]
        refine walkK_call (isV (.agg Ez)) 14 ?_ (by first | exact gs0 rfl | exact gs1 rfl rfl rfl) (fun _ _ _ _ h => h) (fun u X hX hd => ?_) (fun X hX => ?_) ?_
        rotate_left
        · have q0 := hQ.out X hX
          try simp at hd
          go_simp
          try rfl
        · exact (s4.out X hX).mono fun e X' ⟨he, hb⟩ => ⟨_, he, hb, rfl⟩
        apply walkK_norm
        · first | (simp only [List.nil_append, List.cons_append]; rfl) | simp only [List.nil_append, List.cons_append]
        refine walkK_is (.bool false) (by first | exact gs0 rfl | exact gs1 rfl rfl rfl) (fun _ => Below.refl _ _) (fun u X hX hd => ?_) ?_
        · try simp at hd
          exact op_eqop_at .neq (.inr rfl) 34 false eqGuardEnt (EQ2.out X) _ _ _ rfl (by simp [look, findAt, hd]) (by simp [look, findAt, hd])
        apply walkK_norm
        · first | (simp only [List.nil_append, List.cons_append]; rfl) | simp only [List.nil_append, List.cons_append]
        intro u X hX hsay
        simp only [sayAll, isV] at hsay
        obtain ⟨-, -, -, -, -, -, -, -, -, -, -, -, -, -, -, -, -, -, -, -, -, -, -, v23, -, -, -, -, -, -, -, -, -, -, -, -, -, -, -, -, v40, -⟩ := hsay
        simp only [putAll, Act.put, v23, v40, List.setIfInBounds_toArray, List.set_cons_succ, List.set_cons_zero]
        have SA9 := Lib.hid (SA2.out.next hX)
        have SB9 := Lib.hid (SB2.out.next hX)
        have XM9 := Lib.hid (XM2.out.below hX)
        go_wp2
        go_roundw
        case rel => exact ⟨q + 1, _, _, _, _, _, _, _, _, _, _, _, by omega, by go_num, SA9, SB9, XM9⟩
        case measure => simp [intOf]; omega
      · by_cases h0 : 0 ≤ i
        · have h1 : ¬ i < (ln : Int) := fun z => hin ⟨h0, z⟩
          clear hin hxl HCC
          go_wp2_with (first
            | (with_reducible refine st_mk ga VA.out rfl rfl rfl _ _ rfl rfl rfl rfl ?_)
            | (with_reducible refine st_mk gb VB.out rfl rfl rfl _ _ rfl rfl rfl rfl ?_; go_must (rw [← HWA.out])))
          have hQ : Hid (∀ X, Below wa.heap.size wa X → X.cell? ⟨bc, fc + q * 10, none⟩ = some (.int .i64 i)) := Lib.hid (fun X hX => (HCR.out X (bnext SA1.out.below hX)).1)
          have lma : Hid (∀ X, Below wa.heap.size wa X → (loadVar 25 ⟨ga, 0, none⟩).run Try.prog X = .ok (.agg (mkC true a1 a2 a3 a4 a5 a6 (.slice oE ln ocE) (.slice kE ln kcE))) X) := Lib.hid (fun X hX => load_mk (SA1.out.var.below hX))
          have lmb : Hid (∀ X, Below wa.heap.size wa X → (loadVar 25 ⟨gb, 0, none⟩).run Try.prog X = .ok (.agg (mkC true a1 a2 a3 a4 a5 a6 (.slice oF ln odF) (.slice kF ln kdF))) X) := Lib.hid (fun X hX => load_mk (SB1.out.var.below hX))
          have lm : Hid (∀ X, Below wa.heap.size wa X → (loadVar 25 ⟨w.heap.size, 0, none⟩).run Try.prog X = .ok (.agg (mkC on a1 a2 a3 a4 a5 a6 (.slice oA no oc) (.slice kA no kc))) X) := Lib.hid (fun X hX => load_mk (XM1.out.below hX))
          have sm : Hid (∀ X, Below wa.heap.size wa X → Calls Try.prog 12 #[.agg (mkC true a1 a2 a3 a4 a5 a6 (.slice oE ln ocE) (.slice kE ln kcE)), .agg (mkC true a1 a2 a3 a4 a5 a6 (.slice oF ln odF) (.slice kF ln kdF))] X fun e w' => e = .returned (.bool true) ∧ Below X.heap.size X w') := Lib.hid (fun X hX => rsameM_yes true a1 a2 a3 a4 a5 a6 oE ln ocE kE kcE oF odF kF kdF _ _ X (SA1.out.own.inn.below hX) (SB1.out.own.inn.below hX) (by omega))
          have hx8 := SA1.out.x8
          obtain ⟨y, hy⟩ : ∃ y, y = seeS ⟨true, old2, kept2⟩ x i := ⟨_, rfl⟩
          obtain ⟨z, hz⟩ : ∃ z, z = seeS ⟨on, old, kept⟩ x i := ⟨_, rfl⟩
          have hy8 : y.cells.length = 8 := by rw [hy]; exact see_eight SA1.out.own.e8 hx8
          have hz8 : z.cells.length = 8 := by rw [hz]; exact see_eight HM.out.e8 hx8
          have s1 : Hid (∀ X, Below wa.heap.size wa X → Calls Try.prog 13 #[.agg (mkC true a1 a2 a3 a4 a5 a6 (.slice oE ln ocE) (.slice kE ln kcE)), .slice xA ln xc, .int .i64 i] X fun e w' => e = .returned (.agg (bkC (entI y))) ∧ Below X.heap.size X w') := Lib.hid (fun X hX => by rw [hy]; exact see_any true a1 a2 a3 a4 a5 a6 oE ln ocE kE kcE old2 kept2 x xA ln xc i X (SA1.out.own.inn.below hX) (SA1.out.ents.below hX) hx8 SA1.out.xl)
          have s2 : Hid (∀ X, Below wa.heap.size wa X → Calls Try.prog 14 #[.agg (mkC true a1 a2 a3 a4 a5 a6 (.slice oF ln odF) (.slice kF ln kdF)), .slice xA ln xc, .int .i64 i] X fun e w' => e = .returned (.agg (bkC (entI y))) ∧ Below X.heap.size X w') := Lib.hid (fun X hX => by rw [hy]; exact rsee_any true a1 a2 a3 a4 a5 a6 oF ln odF kF kdF old2 kept2 x xA ln xc i X (SB1.out.own.inn.below hX) (SA1.out.ents.below hX) hx8 SA1.out.xl)
          have s3 : Hid (∀ X, Below wa.heap.size wa X → Calls Try.prog 13 #[.agg (mkC on a1 a2 a3 a4 a5 a6 (.slice oA no oc) (.slice kA no kc)), .slice xA ln xc, .int .i64 i] X fun e w' => e = .returned (.agg (bkC (entI z))) ∧ Below X.heap.size X w') := Lib.hid (fun X hX => by rw [hz]; exact see_any on a1 a2 a3 a4 a5 a6 oA no oc kA kc old kept x xA ln xc i X (HM.out.below (bnext SA1.out.below hX)) (SA1.out.ents.below hX) hx8 SA1.out.xl)
          have s4 : Hid (∀ X, Below wa.heap.size wa X → Calls Try.prog 14 #[.agg (mkC on a1 a2 a3 a4 a5 a6 (.slice oA no oc) (.slice kA no kc)), .slice xA ln xc, .int .i64 i] X fun e w' => e = .returned (.agg (bkC (entI z))) ∧ Below X.heap.size X w') := Lib.hid (fun X hX => by rw [hz]; exact rsee_any on a1 a2 a3 a4 a5 a6 oA no oc kA kc old kept x xA ln xc i X (HM.out.below (bnext SA1.out.below hX)) (SA1.out.ents.below hX) hx8 SA1.out.xl)
          have EQ1 : Hid (∀ W : World, (binOp .neq 34 (.agg (bkC (entI y))) (.agg (bkC (entI y)))).run Try.prog W = .ok (.bool false) W) := Lib.hid (fun W => by rw [neq_ent W hy8 hy8, decide_eq_true rfl]; rfl)
          have EQ2 : Hid (∀ W : World, (binOp .neq 34 (.agg (bkC (entI z))) (.agg (bkC (entI z)))).run Try.prog W = .ok (.bool false) W) := Lib.hid (fun W => by rw [neq_ent W hz8 hz8, decide_eq_true rfl]; rfl)
          clear hx8 hy hz hy8 hz8 HCR
          generalize bkC (entI y) = Ey at *
          generalize bkC (entI z) = Ez at *
          try simp only [List.append_eq, List.cons_append, List.nil_append]
          refine wp_region_saysK 41 (fun x y => Below x.heap.size x y) (fun _ _ _ h k => bnext h k) wa (below_drew1 wa) (by kernel_rfl) (by kernel_rfl) (by kernel_rfl) (by kernel_rfl) (by rfl) ?_
          simp only [List.take_succ_cons, List.take_zero, List.drop_succ_cons, List.drop_zero]
          refine walkK_is (.agg ((mkC true a1 a2 a3 a4 a5 a6 (.slice oE ln ocE) (.slice kE ln kcE)))) (by first | exact gs0 rfl | exact gs1 rfl rfl rfl) (fun _ => Below.refl _ _) (fun u X hX hd => ?_) ?_
          · have hl := lma.out X hX
            try simp at hd
            refine op_load_at 25 (ga) (0) hl _ rfl ?_
            go_simp
          apply walkK_norm
          · first | (simp only [List.nil_append]; rfl) | simp only [List.nil_append]
          refine walkK_is (.agg ((mkC true a1 a2 a3 a4 a5 a6 (.slice oF ln odF) (.slice kF ln kdF)))) (by first | exact gs0 rfl | exact gs1 rfl rfl rfl) (fun _ => Below.refl _ _) (fun u X hX hd => ?_) ?_
          · have hl := lmb.out X hX
            try simp at hd
            refine op_load_at 25 (gb) (0) hl _ rfl ?_
            go_simp
          apply walkK_norm
          · first | (simp only [List.nil_append, List.cons_append]; rfl) | simp only [List.nil_append, List.cons_append]
          refine walkK_call (isV (.bool true)) 12 ?_ (by first | exact gs0 rfl | exact gs1 rfl rfl rfl) (fun _ _ _ _ h => h) (fun u X hX hd => ?_) (fun X hX => ?_) ?_
          rotate_left
          · have q0 := hQ.out X hX
            try simp at hd
            go_simp
            try rfl
          · exact (sm.out X hX).mono fun e X' ⟨he, hb⟩ => ⟨_, he, hb, rfl⟩
          apply walkK_norm
          · first | (simp only [List.nil_append, List.cons_append]; rfl) | simp only [List.nil_append, List.cons_append]
          refine walkK_is (.bool false) (by first | exact gs0 rfl | exact gs1 rfl rfl rfl) (fun _ => Below.refl _ _) (fun u X hX hd => ?_) ?_
          · have q0 := hQ.out X hX
            try simp at hd
            go_simp
            try rfl
          apply walkK_norm
          · first | (simp only [List.nil_append, List.cons_append]; rfl) | simp only [List.nil_append, List.cons_append]
          refine walkK_is (.bool false) (by first | exact gs0 rfl | exact gs1 rfl rfl rfl) (fun _ => Below.refl _ _) (fun u X hX hd => ?_) ?_
          · have q0 := hQ.out X hX
            try simp at hd
            go_simp
            try rfl
          apply walkK_norm
          · first | (simp only [List.nil_append, List.cons_append]; rfl) | simp only [List.nil_append, List.cons_append]
          refine walkK_is (.agg ((mkC true a1 a2 a3 a4 a5 a6 (.slice oE ln ocE) (.slice kE ln kcE)))) (by first | exact gs0 rfl | exact gs1 rfl rfl rfl) (fun _ => Below.refl _ _) (fun u X hX hd => ?_) ?_
          · have hl := lma.out X hX
            try simp at hd
            refine op_load_at 25 (ga) (0) hl _ rfl ?_
            go_simp
          apply walkK_norm
          · first | (simp only [List.nil_append, List.cons_append]; rfl) | simp only [List.nil_append, List.cons_append]
          refine walkK_is ?_ (by first | exact gs0 rfl | exact gs1 rfl rfl rfl) (fun _ => Below.refl _ _) (fun u X hX hd => ?_) ?_
          rotate_left
          · have q0 := hQ.out X hX
            try simp at hd
            go_simp
            try rfl
          apply walkK_norm
          · first | (simp only [List.nil_append, List.cons_append]; rfl) | simp only [List.nil_append, List.cons_append]
          refine walkK_is ?_ (by first | exact gs0 rfl | exact gs1 rfl rfl rfl) (fun _ => Below.refl _ _) (fun u X hX hd => ?_) ?_
          rotate_left
          · have q0 := hQ.out X hX
            try simp at hd
            go_simp
            try rfl
          apply walkK_norm
          · first | (simp only [List.nil_append, List.cons_append]; rfl) | simp only [List.nil_append, List.cons_append]
          refine walkK_is ?_ (by first | exact gs0 rfl | exact gs1 rfl rfl rfl) (fun _ => Below.refl _ _) (fun u X hX hd => ?_) ?_
          rotate_left
          · have q0 := hQ.out X hX
            try simp at hd
            go_simp
            try rfl
          apply walkK_norm
          · first | (simp only [List.nil_append, List.cons_append]; rfl) | simp only [List.nil_append, List.cons_append]
          refine walkK_is ?_ (by first | exact gs0 rfl | exact gs1 rfl rfl rfl) (fun _ => Below.refl _ _) (fun u X hX hd => ?_) ?_
          rotate_left
          · have q0 := hQ.out X hX
            try simp at hd
            go_simp
            try rfl
          apply walkK_norm
          · first | (simp only [List.nil_append, List.cons_append]; rfl) | simp only [List.nil_append, List.cons_append]
          refine walkK_is ?_ (by first | exact gs0 rfl | exact gs1 rfl rfl rfl) (fun _ => Below.refl _ _) (fun u X hX hd => ?_) ?_
          rotate_left
          · have q0 := hQ.out X hX
            try simp at hd
            go_simp
            try rfl
          apply walkK_norm
          · first | (simp only [List.nil_append, List.cons_append]; rfl) | simp only [List.nil_append, List.cons_append]
          refine walkK_is ?_ (by first | exact gs0 rfl | exact gs1 rfl rfl rfl) (fun _ => Below.refl _ _) (fun u X hX hd => ?_) ?_
          rotate_left
          · have q0 := hQ.out X hX
            try simp at hd
            go_simp
            try rfl
          apply walkK_norm
          · first | (simp only [List.nil_append, List.cons_append]; rfl) | simp only [List.nil_append, List.cons_append]
          refine walkK_call (isV (.agg Ey)) 13 ?_ (by first | exact gs0 rfl | exact gs1 rfl rfl rfl) (fun _ _ _ _ h => h) (fun u X hX hd => ?_) (fun X hX => ?_) ?_
          rotate_left
          · have q0 := hQ.out X hX
            try simp at hd
            go_simp
            try rfl
          · exact (s1.out X hX).mono fun e X' ⟨he, hb⟩ => ⟨_, he, hb, rfl⟩
          apply walkK_norm
          · first | (simp only [List.nil_append, List.cons_append]; rfl) | simp only [List.nil_append, List.cons_append]
          refine walkK_is (.agg ((mkC true a1 a2 a3 a4 a5 a6 (.slice oF ln odF) (.slice kF ln kdF)))) (by first | exact gs0 rfl | exact gs1 rfl rfl rfl) (fun _ => Below.refl _ _) (fun u X hX hd => ?_) ?_
          · have hl := lmb.out X hX
            try simp at hd
            refine op_load_at 25 (gb) (0) hl _ rfl ?_
            go_simp
          apply walkK_norm
          · first | (simp only [List.nil_append, List.cons_append]; rfl) | simp only [List.nil_append, List.cons_append]
          refine walkK_is ?_ (by first | exact gs0 rfl | exact gs1 rfl rfl rfl) (fun _ => Below.refl _ _) (fun u X hX hd => ?_) ?_
          rotate_left
          · have q0 := hQ.out X hX
            try simp at hd
            go_simp
            try rfl
          apply walkK_norm
          · first | (simp only [List.nil_append, List.cons_append]; rfl) | simp only [List.nil_append, List.cons_append]
          refine walkK_is ?_ (by first | exact gs0 rfl | exact gs1 rfl rfl rfl) (fun _ => Below.refl _ _) (fun u X hX hd => ?_) ?_
          rotate_left
          · have q0 := hQ.out X hX
            try simp at hd
            go_simp
            try rfl
          apply walkK_norm
          · first | (simp only [List.nil_append, List.cons_append]; rfl) | simp only [List.nil_append, List.cons_append]
          refine walkK_is ?_ (by first | exact gs0 rfl | exact gs1 rfl rfl rfl) (fun _ => Below.refl _ _) (fun u X hX hd => ?_) ?_
          rotate_left
          · have q0 := hQ.out X hX
            try simp at hd
            go_simp
            try rfl
          apply walkK_norm
          · first | (simp only [List.nil_append, List.cons_append]; rfl) | simp only [List.nil_append, List.cons_append]
          refine walkK_is ?_ (by first | exact gs0 rfl | exact gs1 rfl rfl rfl) (fun _ => Below.refl _ _) (fun u X hX hd => ?_) ?_
          rotate_left
          · have q0 := hQ.out X hX
            try simp at hd
            go_simp
            try rfl
          apply walkK_norm
          · first | (simp only [List.nil_append, List.cons_append]; rfl) | simp only [List.nil_append, List.cons_append]
          refine walkK_is ?_ (by first | exact gs0 rfl | exact gs1 rfl rfl rfl) (fun _ => Below.refl _ _) (fun u X hX hd => ?_) ?_
          rotate_left
          · have q0 := hQ.out X hX
            try simp at hd
            go_simp
            try rfl
          apply walkK_norm
          · first | (simp only [List.nil_append, List.cons_append]; rfl) | simp only [List.nil_append, List.cons_append]
          refine walkK_is ?_ (by first | exact gs0 rfl | exact gs1 rfl rfl rfl) (fun _ => Below.refl _ _) (fun u X hX hd => ?_) ?_
          rotate_left
          · have q0 := hQ.out X hX
            try simp at hd
            go_simp
            try rfl
          apply walkK_norm
          · first | (simp only [List.nil_append, List.cons_append]; rfl) | simp only [List.nil_append, List.cons_append]
          refine walkK_call (isV (.agg Ey)) 14 ?_ (by first | exact gs0 rfl | exact gs1 rfl rfl rfl) (fun _ _ _ _ h => h) (fun u X hX hd => ?_) (fun X hX => ?_) ?_
          rotate_left
          · have q0 := hQ.out X hX
            try simp at hd
            go_simp
            try rfl
          · exact (s2.out X hX).mono fun e X' ⟨he, hb⟩ => ⟨_, he, hb, rfl⟩
          apply walkK_norm
          · first | (simp only [List.nil_append, List.cons_append]; rfl) | simp only [List.nil_append, List.cons_append]
          refine walkK_is (.bool false) (by first | exact gs0 rfl | exact gs1 rfl rfl rfl) (fun _ => Below.refl _ _) (fun u X hX hd => ?_) ?_
          · try simp at hd
            exact op_eqop_at .neq (.inr rfl) 34 false eqGuardEnt (EQ1.out X) _ _ _ rfl (by simp [look, findAt, hd]) (by simp [look, findAt, hd])
          apply walkK_norm
          · first | (simp only [List.nil_append, List.cons_append]; rfl) | simp only [List.nil_append, List.cons_append]
          refine walkK_is (.bool false) (by first | exact gs0 rfl | exact gs1 rfl rfl rfl) (fun _ => Below.refl _ _) (fun u X hX hd => ?_) ?_
          · have q0 := hQ.out X hX
            try simp at hd
            go_simp
            try rfl
          apply walkK_norm
          · first | (simp only [List.nil_append, List.cons_append]; rfl) | simp only [List.nil_append, List.cons_append]
          refine walkK_is (.bool false) (by first | exact gs0 rfl | exact gs1 rfl rfl rfl) (fun _ => Below.refl _ _) (fun u X hX hd => ?_) ?_
          · have q0 := hQ.out X hX
            try simp at hd
            go_simp
            try rfl
          apply walkK_norm
          · first | (simp only [List.nil_append, List.cons_append]; rfl) | simp only [List.nil_append, List.cons_append]
          refine walkK_is (.agg ((mkC on a1 a2 a3 a4 a5 a6 (.slice oA no oc) (.slice kA no kc)))) (by first | exact gs0 rfl | exact gs1 rfl rfl rfl) (fun _ => Below.refl _ _) (fun u X hX hd => ?_) ?_
          · have hl := lm.out X hX
            try simp at hd
            refine op_load_at 25 (w.heap.size) (0) hl _ rfl ?_
            go_simp
          apply walkK_norm
          · first | (simp only [List.nil_append, List.cons_append]; rfl) | simp only [List.nil_append, List.cons_append]
          refine walkK_is ?_ (by first | exact gs0 rfl | exact gs1 rfl rfl rfl) (fun _ => Below.refl _ _) (fun u X hX hd => ?_) ?_
          rotate_left
          · have q0 := hQ.out X hX
            try simp at hd
            go_simp
            try rfl
          apply walkK_norm
          · first | (simp only [List.nil_append, List.cons_append]; rfl) | simp only [List.nil_append, List.cons_append]
          refine walkK_is ?_ (by first | exact gs0 rfl | exact gs1 rfl rfl rfl) (fun _ => Below.refl _ _) (fun u X hX hd => ?_) ?_
          rotate_left
          · have q0 := hQ.out X hX
            try simp at hd
            go_simp
            try rfl
          apply walkK_norm
          · first | (simp only [List.nil_append, List.cons_append]; rfl) | simp only [List.nil_append, List.cons_append]
          refine walkK_is ?_ (by first | exact gs0 rfl | exact gs1 rfl rfl rfl) (fun _ => Below.refl _ _) (fun u X hX hd => ?_) ?_
          rotate_left
          · have q0 := hQ.out X hX
            try simp at hd
            go_simp
            try rfl
          apply walkK_norm
          · first | (simp only [List.nil_append, List.cons_append]; rfl) | simp only [List.nil_append, List.cons_append]
          refine walkK_is ?_ (by first | exact gs0 rfl | exact gs1 rfl rfl rfl) (fun _ => Below.refl _ _) (fun u X hX hd => ?_) ?_
          rotate_left
          · have q0 := hQ.out X hX
            try simp at hd
            go_simp
            try rfl
          apply walkK_norm
          · first | (simp only [List.nil_append, List.cons_append]; rfl) | simp only [List.nil_append, List.cons_append]
          refine walkK_is ?_ (by first | exact gs0 rfl | exact gs1 rfl rfl rfl) (fun _ => Below.refl _ _) (fun u X hX hd => ?_) ?_
          rotate_left
          · have q0 := hQ.out X hX
            try simp at hd
            go_simp
            try rfl
          apply walkK_norm
          · first | (simp only [List.nil_append, List.cons_append]; rfl) | simp only [List.nil_append, List.cons_append]
          refine walkK_is ?_ (by first | exact gs0 rfl | exact gs1 rfl rfl rfl) (fun _ => Below.refl _ _) (fun u X hX hd => ?_) ?_
          rotate_left
          · have q0 := hQ.out X hX
            try simp at hd
            go_simp
            try rfl
          apply walkK_norm
          · first | (simp only [List.nil_append, List.cons_append]; rfl) | simp only [List.nil_append, List.cons_append]
          refine walkK_call (isV (.agg Ez)) 13 ?_ (by first | exact gs0 rfl | exact gs1 rfl rfl rfl) (fun _ _ _ _ h => h) (fun u X hX hd => ?_) (fun X hX => ?_) ?_
          rotate_left
          · have q0 := hQ.out X hX
            try simp at hd
            go_simp
            try rfl
          · exact (s3.out X hX).mono fun e X' ⟨he, hb⟩ => ⟨_, he, hb, rfl⟩
          apply walkK_norm
          · first | (simp only [List.nil_append, List.cons_append]; rfl) | simp only [List.nil_append, List.cons_append]
          refine walkK_is (.agg ((mkC on a1 a2 a3 a4 a5 a6 (.slice oA no oc) (.slice kA no kc)))) (by first | exact gs0 rfl | exact gs1 rfl rfl rfl) (fun _ => Below.refl _ _) (fun u X hX hd => ?_) ?_
          · have hl := lm.out X hX
            try simp at hd
            refine op_load_at 25 (w.heap.size) (0) hl _ rfl ?_
            go_simp
          apply walkK_norm
          · first | (simp only [List.nil_append, List.cons_append]; rfl) | simp only [List.nil_append, List.cons_append]
          refine walkK_is ?_ (by first | exact gs0 rfl | exact gs1 rfl rfl rfl) (fun _ => Below.refl _ _) (fun u X hX hd => ?_) ?_
          rotate_left
          · have q0 := hQ.out X hX
            try simp at hd
            go_simp
            try rfl
          apply walkK_norm
          · first | (simp only [List.nil_append, List.cons_append]; rfl) | simp only [List.nil_append, List.cons_append]
          refine walkK_is ?_ (by first | exact gs0 rfl | exact gs1 rfl rfl rfl) (fun _ => Below.refl _ _) (fun u X hX hd => ?_) ?_
          rotate_left
          · have q0 := hQ.out X hX
            try simp at hd
            go_simp
            try rfl
          apply walkK_norm
          · first | (simp only [List.nil_append, List.cons_append]; rfl) | simp only [List.nil_append, List.cons_append]
          refine walkK_is ?_ (by first | exact gs0 rfl | exact gs1 rfl rfl rfl) (fun _ => Below.refl _ _) (fun u X hX hd => ?_) ?_
          rotate_left
          · have q0 := hQ.out X hX
            try simp at hd
            go_simp
            try rfl
          apply walkK_norm
          · first | (simp only [List.nil_append, List.cons_append]; rfl) | simp only [List.nil_append, List.cons_append]
          refine walkK_is ?_ (by first | exact gs0 rfl | exact gs1 rfl rfl rfl) (fun _ => Below.refl _ _) (fun u X hX hd => ?_) ?_
          rotate_left
          · have q0 := hQ.out X hX
            try simp at hd
            go_simp
            try rfl
          apply walkK_norm
          · first | (simp only [List.nil_append, List.cons_append]; rfl) | simp only [List.nil_append, List.cons_append]
          refine walkK_is ?_ (by first | exact gs0 rfl | exact gs1 rfl rfl rfl) (fun _ => Below.refl _ _) (fun u X hX hd => ?_) ?_
          rotate_left
          · have q0 := hQ.out X hX
            try simp at hd
            go_simp
            try rfl
          apply walkK_norm
          · first | (simp only [List.nil_append, List.cons_append]; rfl) | simp only [List.nil_append, List.cons_append]
          refine walkK_is ?_ (by first | exact gs0 rfl | exact gs1 rfl rfl rfl) (fun _ => Below.refl _ _) (fun u X hX hd => ?_) ?_
          rotate_left
          · have q0 := hQ.out X hX
            try simp at hd
            go_simp
            try rfl
          apply walkK_norm
          · first | (simp only [List.nil_append, List.cons_append]; rfl) | simp only [List.nil_append, List.cons_append]
          refine walkK_call (isV (.agg Ez)) 14 ?_ (by first | exact gs0 rfl | exact gs1 rfl rfl rfl) (fun _ _ _ _ h => h) (fun u X hX hd => ?_) (fun X hX => ?_) ?_
          rotate_left
          · have q0 := hQ.out X hX
            try simp at hd
            go_simp
            try rfl
          · exact (s4.out X hX).mono fun e X' ⟨he, hb⟩ => ⟨_, he, hb, rfl⟩
          apply walkK_norm
          · first | (simp only [List.nil_append, List.cons_append]; rfl) | simp only [List.nil_append, List.cons_append]
          refine walkK_is (.bool false) (by first | exact gs0 rfl | exact gs1 rfl rfl rfl) (fun _ => Below.refl _ _) (fun u X hX hd => ?_) ?_
          · try simp at hd
            exact op_eqop_at .neq (.inr rfl) 34 false eqGuardEnt (EQ2.out X) _ _ _ rfl (by simp [look, findAt, hd]) (by simp [look, findAt, hd])
          apply walkK_norm
          · first | (simp only [List.nil_append, List.cons_append]; rfl) | simp only [List.nil_append, List.cons_append]
          intro u X hX hsay
          simp only [sayAll, isV] at hsay
          obtain ⟨-, -, -, -, -, -, -, -, -, -, -, -, -, -, -, -, -, -, -, -, -, -, -, v23, -, -, -, -, -, -, -, -, -, -, -, -, -, -, -, -, v40, -⟩ := hsay
          simp only [putAll, Act.put, v23, v40, List.setIfInBounds_toArray, List.set_cons_succ, List.set_cons_zero]
          have SA9 := Lib.hid (SA1.out.next hX)
          have SB9 := Lib.hid (SB1.out.next hX)
          have XM9 := Lib.hid (XM1.out.below hX)
          go_wp2
          go_roundw
          case rel => exact ⟨q + 1, _, _, _, _, _, _, _, _, _, _, _, by omega, by go_num, SA9, SB9, XM9⟩
          case measure => simp [intOf]; omega
        · clear hin hxl HCC
          go_wp2_with (first
            | (with_reducible refine st_mk ga VA.out rfl rfl rfl _ _ rfl rfl rfl rfl ?_)
            | (with_reducible refine st_mk gb VB.out rfl rfl rfl _ _ rfl rfl rfl rfl ?_; go_must (rw [← HWA.out])))
          have hQ : Hid (∀ X, Below wa.heap.size wa X → X.cell? ⟨bc, fc + q * 10, none⟩ = some (.int .i64 i)) := Lib.hid (fun X hX => (HCR.out X (bnext SA1.out.below hX)).1)
          have lma : Hid (∀ X, Below wa.heap.size wa X → (loadVar 25 ⟨ga, 0, none⟩).run Try.prog X = .ok (.agg (mkC true a1 a2 a3 a4 a5 a6 (.slice oE ln ocE) (.slice kE ln kcE))) X) := Lib.hid (fun X hX => load_mk (SA1.out.var.below hX))
          have lmb : Hid (∀ X, Below wa.heap.size wa X → (loadVar 25 ⟨gb, 0, none⟩).run Try.prog X = .ok (.agg (mkC true a1 a2 a3 a4 a5 a6 (.slice oF ln odF) (.slice kF ln kdF))) X) := Lib.hid (fun X hX => load_mk (SB1.out.var.below hX))
          have lm : Hid (∀ X, Below wa.heap.size wa X → (loadVar 25 ⟨w.heap.size, 0, none⟩).run Try.prog X = .ok (.agg (mkC on a1 a2 a3 a4 a5 a6 (.slice oA no oc) (.slice kA no kc))) X) := Lib.hid (fun X hX => load_mk (XM1.out.below hX))
          have sm : Hid (∀ X, Below wa.heap.size wa X → Calls Try.prog 12 #[.agg (mkC true a1 a2 a3 a4 a5 a6 (.slice oE ln ocE) (.slice kE ln kcE)), .agg (mkC true a1 a2 a3 a4 a5 a6 (.slice oF ln odF) (.slice kF ln kdF))] X fun e w' => e = .returned (.bool true) ∧ Below X.heap.size X w') := Lib.hid (fun X hX => rsameM_yes true a1 a2 a3 a4 a5 a6 oE ln ocE kE kcE oF odF kF kdF _ _ X (SA1.out.own.inn.below hX) (SB1.out.own.inn.below hX) (by omega))
          have hx8 := SA1.out.x8
          obtain ⟨y, hy⟩ : ∃ y, y = seeS ⟨true, old2, kept2⟩ x i := ⟨_, rfl⟩
          obtain ⟨z, hz⟩ : ∃ z, z = seeS ⟨on, old, kept⟩ x i := ⟨_, rfl⟩
          have hy8 : y.cells.length = 8 := by rw [hy]; exact see_eight SA1.out.own.e8 hx8
          have hz8 : z.cells.length = 8 := by rw [hz]; exact see_eight HM.out.e8 hx8
          have s1 : Hid (∀ X, Below wa.heap.size wa X → Calls Try.prog 13 #[.agg (mkC true a1 a2 a3 a4 a5 a6 (.slice oE ln ocE) (.slice kE ln kcE)), .slice xA ln xc, .int .i64 i] X fun e w' => e = .returned (.agg (bkC (entI y))) ∧ Below X.heap.size X w') := Lib.hid (fun X hX => by rw [hy]; exact see_any true a1 a2 a3 a4 a5 a6 oE ln ocE kE kcE old2 kept2 x xA ln xc i X (SA1.out.own.inn.below hX) (SA1.out.ents.below hX) hx8 SA1.out.xl)
          have s2 : Hid (∀ X, Below wa.heap.size wa X → Calls Try.prog 14 #[.agg (mkC true a1 a2 a3 a4 a5 a6 (.slice oF ln odF) (.slice kF ln kdF)), .slice xA ln xc, .int .i64 i] X fun e w' => e = .returned (.agg (bkC (entI y))) ∧ Below X.heap.size X w') := Lib.hid (fun X hX => by rw [hy]; exact rsee_any true a1 a2 a3 a4 a5 a6 oF ln odF kF kdF old2 kept2 x xA ln xc i X (SB1.out.own.inn.below hX) (SA1.out.ents.below hX) hx8 SA1.out.xl)
          have s3 : Hid (∀ X, Below wa.heap.size wa X → Calls Try.prog 13 #[.agg (mkC on a1 a2 a3 a4 a5 a6 (.slice oA no oc) (.slice kA no kc)), .slice xA ln xc, .int .i64 i] X fun e w' => e = .returned (.agg (bkC (entI z))) ∧ Below X.heap.size X w') := Lib.hid (fun X hX => by rw [hz]; exact see_any on a1 a2 a3 a4 a5 a6 oA no oc kA kc old kept x xA ln xc i X (HM.out.below (bnext SA1.out.below hX)) (SA1.out.ents.below hX) hx8 SA1.out.xl)
          have s4 : Hid (∀ X, Below wa.heap.size wa X → Calls Try.prog 14 #[.agg (mkC on a1 a2 a3 a4 a5 a6 (.slice oA no oc) (.slice kA no kc)), .slice xA ln xc, .int .i64 i] X fun e w' => e = .returned (.agg (bkC (entI z))) ∧ Below X.heap.size X w') := Lib.hid (fun X hX => by rw [hz]; exact rsee_any on a1 a2 a3 a4 a5 a6 oA no oc kA kc old kept x xA ln xc i X (HM.out.below (bnext SA1.out.below hX)) (SA1.out.ents.below hX) hx8 SA1.out.xl)
          have EQ1 : Hid (∀ W : World, (binOp .neq 34 (.agg (bkC (entI y))) (.agg (bkC (entI y)))).run Try.prog W = .ok (.bool false) W) := Lib.hid (fun W => by rw [neq_ent W hy8 hy8, decide_eq_true rfl]; rfl)
          have EQ2 : Hid (∀ W : World, (binOp .neq 34 (.agg (bkC (entI z))) (.agg (bkC (entI z)))).run Try.prog W = .ok (.bool false) W) := Lib.hid (fun W => by rw [neq_ent W hz8 hz8, decide_eq_true rfl]; rfl)
          clear hx8 hy hz hy8 hz8 HCR
          generalize bkC (entI y) = Ey at *
          generalize bkC (entI z) = Ez at *
          try simp only [List.append_eq, List.cons_append, List.nil_append]
          refine wp_region_saysK 41 (fun x y => Below x.heap.size x y) (fun _ _ _ h k => bnext h k) wa (below_drew1 wa) (by kernel_rfl) (by kernel_rfl) (by kernel_rfl) (by kernel_rfl) (by rfl) ?_
          simp only [List.take_succ_cons, List.take_zero, List.drop_succ_cons, List.drop_zero]
          refine walkK_is (.agg ((mkC true a1 a2 a3 a4 a5 a6 (.slice oE ln ocE) (.slice kE ln kcE)))) (by first | exact gs0 rfl | exact gs1 rfl rfl rfl) (fun _ => Below.refl _ _) (fun u X hX hd => ?_) ?_
          · have hl := lma.out X hX
            try simp at hd
            refine op_load_at 25 (ga) (0) hl _ rfl ?_
            go_simp
          apply walkK_norm
          · first | (simp only [List.nil_append]; rfl) | simp only [List.nil_append]
          refine walkK_is (.agg ((mkC true a1 a2 a3 a4 a5 a6 (.slice oF ln odF) (.slice kF ln kdF)))) (by first | exact gs0 rfl | exact gs1 rfl rfl rfl) (fun _ => Below.refl _ _) (fun u X hX hd => ?_) ?_
          · have hl := lmb.out X hX
            try simp at hd
            refine op_load_at 25 (gb) (0) hl _ rfl ?_
            go_simp
          apply walkK_norm
          · first | (simp only [List.nil_append, List.cons_append]; rfl) | simp only [List.nil_append, List.cons_append]
          refine walkK_call (isV (.bool true)) 12 ?_ (by first | exact gs0 rfl | exact gs1 rfl rfl rfl) (fun _ _ _ _ h => h) (fun u X hX hd => ?_) (fun X hX => ?_) ?_
          rotate_left
          · have q0 := hQ.out X hX
            try simp at hd
            go_simp
            try rfl
          · exact (sm.out X hX).mono fun e X' ⟨he, hb⟩ => ⟨_, he, hb, rfl⟩
          apply walkK_norm
          · first | (simp only [List.nil_append, List.cons_append]; rfl) | simp only [List.nil_append, List.cons_append]
          refine walkK_is (.bool false) (by first | exact gs0 rfl | exact gs1 rfl rfl rfl) (fun _ => Below.refl _ _) (fun u X hX hd => ?_) ?_
          · have q0 := hQ.out X hX
            try simp at hd
            go_simp
            try rfl
          apply walkK_norm
          · first | (simp only [List.nil_append, List.cons_append]; rfl) | simp only [List.nil_append, List.cons_append]
          refine walkK_is (.bool false) (by first | exact gs0 rfl | exact gs1 rfl rfl rfl) (fun _ => Below.refl _ _) (fun u X hX hd => ?_) ?_
          · have q0 := hQ.out X hX
            try simp at hd
            go_simp
            try rfl
          apply walkK_norm
          · first | (simp only [List.nil_append, List.cons_append]; rfl) | simp only [List.nil_append, List.cons_append]
          refine walkK_is (.agg ((mkC true a1 a2 a3 a4 a5 a6 (.slice oE ln ocE) (.slice kE ln kcE)))) (by first | exact gs0 rfl | exact gs1 rfl rfl rfl) (fun _ => Below.refl _ _) (fun u X hX hd => ?_) ?_
          · have hl := lma.out X hX
            try simp at hd
            refine op_load_at 25 (ga) (0) hl _ rfl ?_
            go_simp
          apply walkK_norm
          · first | (simp only [List.nil_append, List.cons_append]; rfl) | simp only [List.nil_append, List.cons_append]
          refine walkK_is ?_ (by first | exact gs0 rfl | exact gs1 rfl rfl rfl) (fun _ => Below.refl _ _) (fun u X hX hd => ?_) ?_
          rotate_left
          · have q0 := hQ.out X hX
            try simp at hd
            go_simp
            try rfl
          apply walkK_norm
          · first | (simp only [List.nil_append, List.cons_append]; rfl) | simp only [List.nil_append, List.cons_append]
          refine walkK_is ?_ (by first | exact gs0 rfl | exact gs1 rfl rfl rfl) (fun _ => Below.refl _ _) (fun u X hX hd => ?_) ?_
          rotate_left
          · have q0 := hQ.out X hX
            try simp at hd
            go_simp
            try rfl
          apply walkK_norm
          · first | (simp only [List.nil_append, List.cons_append]; rfl) | simp only [List.nil_append, List.cons_append]
          refine walkK_is ?_ (by first | exact gs0 rfl | exact gs1 rfl rfl rfl) (fun _ => Below.refl _ _) (fun u X hX hd => ?_) ?_
          rotate_left
          · have q0 := hQ.out X hX
            try simp at hd
            go_simp
            try rfl
          apply walkK_norm
          · first | (simp only [List.nil_append, List.cons_append]; rfl) | simp only [List.nil_append, List.cons_append]
          refine walkK_is ?_ (by first | exact gs0 rfl | exact gs1 rfl rfl rfl) (fun _ => Below.refl _ _) (fun u X hX hd => ?_) ?_
          rotate_left
          · have q0 := hQ.out X hX
            try simp at hd
            go_simp
            try rfl
          apply walkK_norm
          · first | (simp only [List.nil_append, List.cons_append]; rfl) | simp only [List.nil_append, List.cons_append]
          refine walkK_is ?_ (by first | exact gs0 rfl | exact gs1 rfl rfl rfl) (fun _ => Below.refl _ _) (fun u X hX hd => ?_) ?_
          rotate_left
          · have q0 := hQ.out X hX
            try simp at hd
            go_simp
            try rfl
          apply walkK_norm
          · first | (simp only [List.nil_append, List.cons_append]; rfl) | simp only [List.nil_append, List.cons_append]
          refine walkK_is ?_ (by first | exact gs0 rfl | exact gs1 rfl rfl rfl) (fun _ => Below.refl _ _) (fun u X hX hd => ?_) ?_
          rotate_left
          · have q0 := hQ.out X hX
            try simp at hd
            go_simp
            try rfl
          apply walkK_norm
          · first | (simp only [List.nil_append, List.cons_append]; rfl) | simp only [List.nil_append, List.cons_append]
          refine walkK_call (isV (.agg Ey)) 13 ?_ (by first | exact gs0 rfl | exact gs1 rfl rfl rfl) (fun _ _ _ _ h => h) (fun u X hX hd => ?_) (fun X hX => ?_) ?_
          rotate_left
          · have q0 := hQ.out X hX
            try simp at hd
            go_simp
            try rfl
          · exact (s1.out X hX).mono fun e X' ⟨he, hb⟩ => ⟨_, he, hb, rfl⟩
          apply walkK_norm
          · first | (simp only [List.nil_append, List.cons_append]; rfl) | simp only [List.nil_append, List.cons_append]
          refine walkK_is (.agg ((mkC true a1 a2 a3 a4 a5 a6 (.slice oF ln odF) (.slice kF ln kdF)))) (by first | exact gs0 rfl | exact gs1 rfl rfl rfl) (fun _ => Below.refl _ _) (fun u X hX hd => ?_) ?_
          · have hl := lmb.out X hX
            try simp at hd
            refine op_load_at 25 (gb) (0) hl _ rfl ?_
            go_simp
          apply walkK_norm
          · first | (simp only [List.nil_append, List.cons_append]; rfl) | simp only [List.nil_append, List.cons_append]
          refine walkK_is ?_ (by first | exact gs0 rfl | exact gs1 rfl rfl rfl) (fun _ => Below.refl _ _) (fun u X hX hd => ?_) ?_
          rotate_left
          · have q0 := hQ.out X hX
            try simp at hd
            go_simp
            try rfl
          apply walkK_norm
          · first | (simp only [List.nil_append, List.cons_append]; rfl) | simp only [List.nil_append, List.cons_append]
          refine walkK_is ?_ (by first | exact gs0 rfl | exact gs1 rfl rfl rfl) (fun _ => Below.refl _ _) (fun u X hX hd => ?_) ?_
          rotate_left
          · have q0 := hQ.out X hX
            try simp at hd
            go_simp
            try rfl
          apply walkK_norm
          · first | (simp only [List.nil_append, List.cons_append]; rfl) | simp only [List.nil_append, List.cons_append]
          refine walkK_is ?_ (by first | exact gs0 rfl | exact gs1 rfl rfl rfl) (fun _ => Below.refl _ _) (fun u X hX hd => ?_) ?_
          rotate_left
          · have q0 := hQ.out X hX
            try simp at hd
            go_simp
            try rfl
          apply walkK_norm
          · first | (simp only [List.nil_append, List.cons_append]; rfl) | simp only [List.nil_append, List.cons_append]
          refine walkK_is ?_ (by first | exact gs0 rfl | exact gs1 rfl rfl rfl) (fun _ => Below.refl _ _) (fun u X hX hd => ?_) ?_
          rotate_left
          · have q0 := hQ.out X hX
            try simp at hd
            go_simp
            try rfl
          apply walkK_norm
          · first | (simp only [List.nil_append, List.cons_append]; rfl) | simp only [List.nil_append, List.cons_append]
          refine walkK_is ?_ (by first | exact gs0 rfl | exact gs1 rfl rfl rfl) (fun _ => Below.refl _ _) (fun u X hX hd => ?_) ?_
          rotate_left
          · have q0 := hQ.out X hX
            try simp at hd
            go_simp
            try rfl
          apply walkK_norm
          · first | (simp only [List.nil_append, List.cons_append]; rfl) | simp only [List.nil_append, List.cons_append]
          refine walkK_is ?_ (by first | exact gs0 rfl | exact gs1 rfl rfl rfl) (fun _ => Below.refl _ _) (fun u X hX hd => ?_) ?_
          rotate_left
          · have q0 := hQ.out X hX
            try simp at hd
            go_simp
            try rfl
          apply walkK_norm
          · first | (simp only [List.nil_append, List.cons_append]; rfl) | simp only [List.nil_append, List.cons_append]
          refine walkK_call (isV (.agg Ey)) 14 ?_ (by first | exact gs0 rfl | exact gs1 rfl rfl rfl) (fun _ _ _ _ h => h) (fun u X hX hd => ?_) (fun X hX => ?_) ?_
          rotate_left
          · have q0 := hQ.out X hX
            try simp at hd
            go_simp
            try rfl
          · exact (s2.out X hX).mono fun e X' ⟨he, hb⟩ => ⟨_, he, hb, rfl⟩
          apply walkK_norm
          · first | (simp only [List.nil_append, List.cons_append]; rfl) | simp only [List.nil_append, List.cons_append]
          refine walkK_is (.bool false) (by first | exact gs0 rfl | exact gs1 rfl rfl rfl) (fun _ => Below.refl _ _) (fun u X hX hd => ?_) ?_
          · try simp at hd
            exact op_eqop_at .neq (.inr rfl) 34 false eqGuardEnt (EQ1.out X) _ _ _ rfl (by simp [look, findAt, hd]) (by simp [look, findAt, hd])
          apply walkK_norm
          · first | (simp only [List.nil_append, List.cons_append]; rfl) | simp only [List.nil_append, List.cons_append]
          refine walkK_is (.bool false) (by first | exact gs0 rfl | exact gs1 rfl rfl rfl) (fun _ => Below.refl _ _) (fun u X hX hd => ?_) ?_
          · have q0 := hQ.out X hX
            try simp at hd
            go_simp
            try rfl
          apply walkK_norm
          · first | (simp only [List.nil_append, List.cons_append]; rfl) | simp only [List.nil_append, List.cons_append]
          refine walkK_is (.bool false) (by first | exact gs0 rfl | exact gs1 rfl rfl rfl) (fun _ => Below.refl _ _) (fun u X hX hd => ?_) ?_
          · have q0 := hQ.out X hX
            try simp at hd
            go_simp
            try rfl
          apply walkK_norm
          · first | (simp only [List.nil_append, List.cons_append]; rfl) | simp only [List.nil_append, List.cons_append]
          refine walkK_is (.agg ((mkC on a1 a2 a3 a4 a5 a6 (.slice oA no oc) (.slice kA no kc)))) (by first | exact gs0 rfl | exact gs1 rfl rfl rfl) (fun _ => Below.refl _ _) (fun u X hX hd => ?_) ?_
          · have hl := lm.out X hX
            try simp at hd
            refine op_load_at 25 (w.heap.size) (0) hl _ rfl ?_
            go_simp
          apply walkK_norm
          · first | (simp only [List.nil_append, List.cons_append]; rfl) | simp only [List.nil_append, List.cons_append]
          refine walkK_is ?_ (by first | exact gs0 rfl | exact gs1 rfl rfl rfl) (fun _ => Below.refl _ _) (fun u X hX hd => ?_) ?_
          rotate_left
          · have q0 := hQ.out X hX
            try simp at hd
            go_simp
            try rfl
          apply walkK_norm
          · first | (simp only [List.nil_append, List.cons_append]; rfl) | simp only [List.nil_append, List.cons_append]
          refine walkK_is ?_ (by first | exact gs0 rfl | exact gs1 rfl rfl rfl) (fun _ => Below.refl _ _) (fun u X hX hd => ?_) ?_
          rotate_left
          · have q0 := hQ.out X hX
            try simp at hd
            go_simp
            try rfl
          apply walkK_norm
          · first | (simp only [List.nil_append, List.cons_append]; rfl) | simp only [List.nil_append, List.cons_append]
          refine walkK_is ?_ (by first | exact gs0 rfl | exact gs1 rfl rfl rfl) (fun _ => Below.refl _ _) (fun u X hX hd => ?_) ?_
          rotate_left
          · have q0 := hQ.out X hX
            try simp at hd
            go_simp
            try rfl
          apply walkK_norm
          · first | (simp only [List.nil_append, List.cons_append]; rfl) | simp only [List.nil_append, List.cons_append]
          refine walkK_is ?_ (by first | exact gs0 rfl | exact gs1 rfl rfl rfl) (fun _ => Below.refl _ _) (fun u X hX hd => ?_) ?_
          rotate_left
          · have q0 := hQ.out X hX
            try simp at hd
            go_simp
            try rfl
          apply walkK_norm
          · first | (simp only [List.nil_append, List.cons_append]; rfl) | simp only [List.nil_append, List.cons_append]
          refine walkK_is ?_ (by first | exact gs0 rfl | exact gs1 rfl rfl rfl) (fun _ => Below.refl _ _) (fun u X hX hd => ?_) ?_
          rotate_left
          · have q0 := hQ.out X hX
            try simp at hd
            go_simp
            try rfl
          apply walkK_norm
          · first | (simp only [List.nil_append, List.cons_append]; rfl) | simp only [List.nil_append, List.cons_append]
          refine walkK_is ?_ (by first | exact gs0 rfl | exact gs1 rfl rfl rfl) (fun _ => Below.refl _ _) (fun u X hX hd => ?_) ?_
          rotate_left
          · have q0 := hQ.out X hX
            try simp at hd
            go_simp
            try rfl
          apply walkK_norm
          · first | (simp only [List.nil_append, List.cons_append]; rfl) | simp only [List.nil_append, List.cons_append]
          refine walkK_call (isV (.agg Ez)) 13 ?_ (by first | exact gs0 rfl | exact gs1 rfl rfl rfl) (fun _ _ _ _ h => h) (fun u X hX hd => ?_) (fun X hX => ?_) ?_
          rotate_left
          · have q0 := hQ.out X hX
            try simp at hd
            go_simp
            try rfl
          · exact (s3.out X hX).mono fun e X' ⟨he, hb⟩ => ⟨_, he, hb, rfl⟩
          apply walkK_norm
          · first | (simp only [List.nil_append, List.cons_append]; rfl) | simp only [List.nil_append, List.cons_append]
          refine walkK_is (.agg ((mkC on a1 a2 a3 a4 a5 a6 (.slice oA no oc) (.slice kA no kc)))) (by first | exact gs0 rfl | exact gs1 rfl rfl rfl) (fun _ => Below.refl _ _) (fun u X hX hd => ?_) ?_
          · have hl := lm.out X hX
            try simp at hd
            refine op_load_at 25 (w.heap.size) (0) hl _ rfl ?_
            go_simp
          apply walkK_norm
          · first | (simp only [List.nil_append, List.cons_append]; rfl) | simp only [List.nil_append, List.cons_append]
          refine walkK_is ?_ (by first | exact gs0 rfl | exact gs1 rfl rfl rfl) (fun _ => Below.refl _ _) (fun u X hX hd => ?_) ?_
          rotate_left
          · have q0 := hQ.out X hX
            try simp at hd
            go_simp
            try rfl
          apply walkK_norm
          · first | (simp only [List.nil_append, List.cons_append]; rfl) | simp only [List.nil_append, List.cons_append]
          refine walkK_is ?_ (by first | exact gs0 rfl | exact gs1 rfl rfl rfl) (fun _ => Below.refl _ _) (fun u X hX hd => ?_) ?_
          rotate_left
          · have q0 := hQ.out X hX
            try simp at hd
            go_simp
            try rfl
          apply walkK_norm
          · first | (simp only [List.nil_append, List.cons_append]; rfl) | simp only [List.nil_append, List.cons_append]
          refine walkK_is ?_ (by first | exact gs0 rfl | exact gs1 rfl rfl rfl) (fun _ => Below.refl _ _) (fun u X hX hd => ?_) ?_
          rotate_left
          · have q0 := hQ.out X hX
            try simp at hd
            go_simp
            try rfl
          apply walkK_norm
          · first | (simp only [List.nil_append, List.cons_append]; rfl) | simp only [List.nil_append, List.cons_append]
          refine walkK_is ?_ (by first | exact gs0 rfl | exact gs1 rfl rfl rfl) (fun _ => Below.refl _ _) (fun u X hX hd => ?_) ?_
          rotate_left
          · have q0 := hQ.out X hX
            try simp at hd
            go_simp
            try rfl
          apply walkK_norm
          · first | (simp only [List.nil_append, List.cons_append]; rfl) | simp only [List.nil_append, List.cons_append]
          refine walkK_is ?_ (by first | exact gs0 rfl | exact gs1 rfl rfl rfl) (fun _ => Below.refl _ _) (fun u X hX hd => ?_) ?_
          rotate_left
          · have q0 := hQ.out X hX
            try simp at hd
            go_simp
            try rfl
          apply walkK_norm
          · first | (simp only [List.nil_append, List.cons_append]; rfl) | simp only [List.nil_append, List.cons_append]
          refine walkK_is ?_ (by first | exact gs0 rfl | exact gs1 rfl rfl rfl) (fun _ => Below.refl _ _) (fun u X hX hd => ?_) ?_
          rotate_left
          · have q0 := hQ.out X hX
            try simp at hd
            go_simp
            try rfl
          apply walkK_norm
          · first | (simp only [List.nil_append, List.cons_append]; rfl) | simp only [List.nil_append, List.cons_append]
          refine walkK_call (isV (.agg Ez)) 14 ?_ (by first | exact gs0 rfl | exact gs1 rfl rfl rfl) (fun _ _ _ _ h => h) (fun u X hX hd => ?_) (fun X hX => ?_) ?_
          rotate_left
          · have q0 := hQ.out X hX
            try simp at hd
            go_simp
            try rfl
          · exact (s4.out X hX).mono fun e X' ⟨he, hb⟩ => ⟨_, he, hb, rfl⟩
          apply walkK_norm
          · first | (simp only [List.nil_append, List.cons_append]; rfl) | simp only [List.nil_append, List.cons_append]
          refine walkK_is (.bool false) (by first | exact gs0 rfl | exact gs1 rfl rfl rfl) (fun _ => Below.refl _ _) (fun u X hX hd => ?_) ?_
          · try simp at hd
            exact op_eqop_at .neq (.inr rfl) 34 false eqGuardEnt (EQ2.out X) _ _ _ rfl (by simp [look, findAt, hd]) (by simp [look, findAt, hd])
          apply walkK_norm
          · first | (simp only [List.nil_append, List.cons_append]; rfl) | simp only [List.nil_append, List.cons_append]
          intro u X hX hsay
          simp only [sayAll, isV] at hsay
          obtain ⟨-, -, -, -, -, -, -, -, -, -, -, -, -, -, -, -, -, -, -, -, -, -, -, v23, -, -, -, -, -, -, -, -, -, -, -, -, -, -, -, -, v40, -⟩ := hsay
          simp only [putAll, Act.put, v23, v40, List.setIfInBounds_toArray, List.set_cons_succ, List.set_cons_zero]
          have SA9 := Lib.hid (SA1.out.next hX)
          have SB9 := Lib.hid (SB1.out.next hX)
          have XM9 := Lib.hid (XM1.out.below hX)
          go_wp2
          go_roundw
          case rel => exact ⟨q + 1, _, _, _, _, _, _, _, _, _, _, _, by omega, by go_num, SA9, SB9, XM9⟩
          case measure => simp [intOf]; omega
    · obtain rfl : cn = q := by omega
      clear hlt
      have BB := Lib.hid HA.out.below
      go_wp2_with (go_at_call 7; go_must ((with_reducible refine (aw.out _).mono ?_); rintro e w9 ⟨rfl, hb9⟩; have B9 := Lib.hid (bnext BB.out hb9); clear hb9))
      go_ret
      exact ⟨rfl, B9.out⟩

theorem shadePlays_walk (w : World) (hL : Ents w lA lc l) (h8 : Eight l) (hln : l.length = ln) (hM : MkIn w old kept oA no oc kA nk kc) (hC : Chgs w cA cc cs) (h8c : EightC cs) (hcn : cs.length = cn) :
    Calls Try.prog 3 #[.slice lA ln lc, .agg (mkC on a1 a2 a3 a4 a5 a6 (.slice oA no oc) (.slice kA nk kc)), .slice cA cn cc] w fun e w' => e = .returned (.bool true) ∧ Below w.heap.size w w' := by
  by_cases h : 70 < ln ∨ 60 < cn ∨ no ≠ nk ∨ 70 < no
  · exact shadePlays_no lA ln lc cA cn cc on a1 a2 a3 a4 a5 a6 oA no oc kA nk kc h w
  · obtain rfl : no = nk := by omega
    exact shadePlays_main l lA ln lc cs cA cn cc on a1 a2 a3 a4 a5 a6 old kept oA no oc kA kc (by omega) (by omega) (by omega) w hL h8 hln hM hC h8c hcn

end
end Go.Proofs.Ytgoamkneenmbgaa
