/-
  What foremanref13.Keep answers, in whatever memory. No conditions but those that stand there.
-/
import Derived.Test.YtgoamkneenmbgaaShdC
namespace Go.Proofs.Ytgoamkneenmbgaa
open Go.RowKit
attribute [local go_sem] look findAt
attribute [local simp] depsOf depsE isV Region.binds

section
variable (on : Bool) (a1 a2 a3 a4 a5 a6 : Int) (oA : Option Addr) (no oc : Nat) (kA : Option Addr) (kc : Nat)

set_option maxHeartbeats 16000000 in
theorem rkeep_no (old : List Ent) (kept : List Bool) (l : List Ent) (lA : Option Addr) (ln lc : Nat) (i : Int) (w : World) (hM : MkIn w old kept oA no oc kA no kc) (hln : l.length = ln) (hnk : ¬ keepsS ⟨on, old, kept⟩ l i) :
    Calls Try.prog 11 #[.agg (mkC on a1 a2 a3 a4 a5 a6 (.slice oA no oc) (.slice kA no kc)), .slice lA ln lc, .int .i64 i] w fun e w' => e = .returned (.agg (mkC on a1 a2 a3 a4 a5 a6 (.slice oA no oc) (.slice kA no kc))) ∧ Below w.heap.size w w' := by
  have B0 := Lib.hid (kB_below (mkC on a1 a2 a3 a4 a5 a6 (.slice oA no oc) (.slice kA no kc)) mkZ 25 w)
  have X0 := Lib.hid (kB_box (mkC on a1 a2 a3 a4 a5 a6 (.slice oA no oc) (.slice kA no kc)) mkZ 25 w)
  have R0 := Lib.hid (kB_res (mkC on a1 a2 a3 a4 a5 a6 (.slice oA no oc) (.slice kA no kc)) mkZ 25 w)
  have HM := Lib.hid hM
  have hlk := hM.lk
  clear hM
  cases on with
  | false =>
    clear hnk hln hlk
    go_enter Try.func11, Try.ntmps11
    go_wp2_with (first
      | (with_reducible refine ld_mk w.heap.size X0.out _ rfl rfl rfl ?_)
      | (with_reducible refine st_mk (w.heap.size + 1) R0.out rfl rfl rfl _ _ rfl rfl rfl rfl ?_))
    exact bodyPost_ret (v := .agg (mkC false a1 a2 a3 a4 a5 a6 (.slice oA no oc) (.slice kA no kc))) (results_cell_row rfl _ _ (w.heap.size + 1) _ _ (0, 0) _ rfl (Bk.setRow R0.out _) Try.underlying25 rfl infoMk) rfl ⟨rfl, below_row B0.out (by omega) _⟩
  | true =>
    by_cases h0 : i < 0
    · clear hnk hln hlk
      go_enter Try.func11, Try.ntmps11
      go_wp2_with (first
        | (with_reducible refine ld_mk w.heap.size X0.out _ rfl rfl rfl ?_)
        | (with_reducible refine st_mk (w.heap.size + 1) R0.out rfl rfl rfl _ _ rfl rfl rfl rfl ?_))
      exact bodyPost_ret (v := .agg (mkC true a1 a2 a3 a4 a5 a6 (.slice oA no oc) (.slice kA no kc))) (results_cell_row rfl _ _ (w.heap.size + 1) _ _ (0, 0) _ rfl (Bk.setRow R0.out _) Try.underlying25 rfl infoMk) rfl ⟨rfl, below_row B0.out (by omega) _⟩
    · by_cases h1 : (ln : Int) ≤ i
      · clear hnk hln hlk
        go_enter Try.func11, Try.ntmps11
        go_wp2_with (first
          | (with_reducible refine ld_mk w.heap.size X0.out _ rfl rfl rfl ?_)
          | (with_reducible refine st_mk (w.heap.size + 1) R0.out rfl rfl rfl _ _ rfl rfl rfl rfl ?_))
        exact bodyPost_ret (v := .agg (mkC true a1 a2 a3 a4 a5 a6 (.slice oA no oc) (.slice kA no kc))) (results_cell_row rfl _ _ (w.heap.size + 1) _ _ (0, 0) _ rfl (Bk.setRow R0.out _) Try.underlying25 rfl infoMk) rfl ⟨rfl, below_row B0.out (by omega) _⟩
      · by_cases h2 : (no : Int) ≤ i
        · clear hnk hln hlk
          go_enter Try.func11, Try.ntmps11
          go_wp2_with (first
            | (with_reducible refine ld_mk w.heap.size X0.out _ rfl rfl rfl ?_)
            | (with_reducible refine st_mk (w.heap.size + 1) R0.out rfl rfl rfl _ _ rfl rfl rfl rfl ?_))
          exact bodyPost_ret (v := .agg (mkC true a1 a2 a3 a4 a5 a6 (.slice oA no oc) (.slice kA no kc))) (results_cell_row rfl _ _ (w.heap.size + 1) _ _ (0, 0) _ rfl (Bk.setRow R0.out _) Try.underlying25 rfl infoMk) rfl ⟨rfl, below_row B0.out (by omega) _⟩
        · obtain ⟨j, rfl⟩ : ∃ j : Nat, i = (j : Int) := ⟨i.toNat, by omega⟩
          have hjo : j < no := by omega
          obtain ⟨b, off, rfl, hb, hv⟩ := HM.out.sk.bool (j := j) hjo
          have hk : kept[j]?.getD false = true := by
            cases hq : kept[j]?.getD false with
            | true => rfl
            | false =>
              refine absurd ?_ hnk
              refine ⟨rfl, by omega, by omega, by show (j : Int) < (kept.length : Int); omega, ?_⟩
              show kept[(j : Int).toNat]? = some false
              rw [Int.toNat_natCast]
              rw [List.getElem?_eq_getElem (by omega)] at hq ⊢
              simpa using hq
          rw [hk] at hv
          have hkc : no ≤ kc := HM.out.sk.2.1
          have hv := (B0.out.cell (p := ⟨b, off + j, none⟩) hb).trans hv
          have d3 : (j : Int) < (no : Int) := by omega
          have d4 : (j : Int) < (kc : Int) := by omega
          have hb' : b < w.heap.size + 1 + 1 := by omega
          clear hnk hln hlk hk HM
          go_enter Try.func11, Try.ntmps11
          go_wp2_with (first
            | (with_reducible refine ld_mk w.heap.size X0.out _ rfl rfl rfl ?_)
            | (with_reducible refine st_mk (w.heap.size + 1) R0.out rfl rfl rfl _ _ rfl rfl rfl rfl ?_))
          exact bodyPost_ret (v := .agg (mkC true a1 a2 a3 a4 a5 a6 (.slice oA no oc) (.slice (some ⟨b, off, none⟩) no kc))) (results_cell_row rfl _ _ (w.heap.size + 1) _ _ (0, 0) _ rfl (Bk.setRow R0.out _) Try.underlying25 rfl infoMk) rfl ⟨rfl, below_row B0.out (by omega) _⟩

set_option maxHeartbeats 16000000 in
theorem rkeep_yes (old : List Ent) (kept : List Bool) (l : List Ent) (lA : Option Addr) (ln lc : Nat) (j : Nat) (w : World) (hM : MkIn w old kept oA no oc kA no kc) (hL : Ents w lA lc l) (h8 : Eight l) (hln : l.length = ln) (hno : no ≤ 1000) (hy : keepsS ⟨true, old, kept⟩ l (j : Int)) :
    Calls Try.prog 11 #[.agg (mkC true a1 a2 a3 a4 a5 a6 (.slice oA no oc) (.slice kA no kc)), .slice lA ln lc, .int .i64 (j : Int)] w (MkPost true a1 a2 a3 a4 a5 a6 no (keepS ⟨true, old, kept⟩ l (j : Int)) w) := by
  obtain ⟨wr, hW⟩ : ∃ W, W = (w.alloc (.cells (mkC true a1 a2 a3 a4 a5 a6 (.slice oA no oc) (.slice kA no kc)) 25)).alloc (.cells mkZ 25) := ⟨_, rfl⟩
  have B0 : Hid (Below w.heap.size w wr) := Lib.hid (by rw [hW]; exact kB_below _ _ _ _)
  have X0 : Hid (Bk wr w.heap.size 25 (mkC true a1 a2 a3 a4 a5 a6 (.slice oA no oc) (.slice kA no kc))) := Lib.hid (by rw [hW]; exact kB_box _ _ _ _)
  have R0 : Hid (Bk wr (w.heap.size + 1) 25 mkZ) := Lib.hid (by rw [hW]; exact kB_res _ _ _ _)
  have S0 : Hid (w.heap.size + 1 + 1 ≤ wr.heap.size) := Lib.hid (by rw [hW]; simp)
  have hQ : Hid (∀ X, Below wr.heap.size wr X → X.cell? ⟨w.heap.size, 7, none⟩ = some (.slice oA no oc) ∧ X.cell? ⟨w.heap.size, 8, none⟩ = some (.slice kA no kc)) := Lib.hid (fun X hX => ⟨(X0.out.below hX).cell 7, (X0.out.below hX).cell 8⟩)
  have HM := Lib.hid hM
  have HL := Lib.hid hL
  have H8 := Lib.hid h8
  have hlc : ln ≤ lc := by have := hL.2.1; omega
  have HKS : Hid (keepS ⟨true, old, kept⟩ l (j : Int) = ⟨true, old.set j (l[j]?.getD entZ), kept.set j true⟩) := Lib.hid (by
    rw [keepS, if_pos hy]
    simp only [Int.toNat_natCast])
  have hlk := hM.lk
  obtain ⟨-, -, y1, y2, y3⟩ := hy
  simp only [Int.toNat_natCast] at y2 y3
  have hj : j < ln := by omega
  have hjo : j < no := by omega
  obtain ⟨b, off, rfl, hb, hv⟩ := HM.out.sk.bool (j := j) hjo
  rw [y3] at hv
  have hkc : no ≤ kc := HM.out.sk.2.1
  have hvr := (B0.out.cell (p := ⟨b, off + j, none⟩) hb).trans hv
  simp only [Option.getD_some] at hvr
  have hb' : b < wr.heap.size := Nat.lt_of_lt_of_le hb B0.out.size
  have hv2 := ((kB_below (mkC true a1 a2 a3 a4 a5 a6 (.slice oA no oc) (.slice (some ⟨b, off, none⟩) no kc)) mkZ 25 w).cell (p := ⟨b, off + j, none⟩) hb).trans hv
  simp only [Option.getD_some] at hv2
  have e1 : decide ((j : Int) < 0) = false := decide_eq_false (by omega)
  have e2 : decide (ln ≤ j) = false := decide_eq_false (by omega)
  have e3 : decide (no ≤ j) = false := decide_eq_false (by omega)
  have d1 : (j : Int) < (ln : Int) := by omega
  have d2 : (j : Int) < (lc : Int) := by omega
  have d3 : (j : Int) < (no : Int) := by omega
  have d4 : (j : Int) < (kc : Int) := by omega
  obtain ⟨c0, c1, c2, c3, c4, c5, c6, c7, c8, cf⟩ := X0.out.all9
  have cl := X0.out.lt
  obtain ⟨i0, hi, hz0, hz1, hz2⟩ := infoEntZ
  obtain ⟨ib, hib, hy0, hy1, hy2⟩ := infoBool
  clear hM hL h8 y1 y2 y3 hv
  go_enter Try.func11, Try.ntmps11
  try rw [← hW]
  go_wp2
  try rw [← hW]
  try simp only [List.append_eq, List.cons_append, List.nil_append]
  clear hW
  refine wp_region_saysK 9 (fun x y => Below x.heap.size x y) (fun _ _ _ h k => bnext h k) wr (below_drew1 wr) (by kernel_rfl) (by kernel_rfl) (by kernel_rfl) (by kernel_rfl) (by rfl) ?_
  simp only [List.take_succ_cons, List.take_zero, List.drop_succ_cons, List.drop_zero]
  refine walkK_new (noneW w.heap.size 34) (by first | exact gs0 rfl | exact gs1 rfl rfl rfl) (fun v x y hb h => noneW_keep v x y hb h) (fun u X hX hd => ⟨_, _, exec_noneE _ _ _ rfl, below_alloc1 _ _, _, rfl, Nat.le_trans B0.out.size hX.size, Bk.new _ _ _⟩) ?_
  apply walkK_norm
  · first | (simp only [List.nil_append]; rfl) | simp only [List.nil_append]
  refine walkK_is ?_ (by first | exact gs0 rfl | exact gs1 rfl rfl rfl) (fun _ => Below.refl _ _) (fun u X hX hd => ?_) ?_
  rotate_left
  · obtain ⟨q7, q8⟩ := hQ.out X hX
    try simp at hd
    go_simp
    try rfl
  apply walkK_norm
  · first | (simp only [List.nil_append, List.cons_append]; rfl) | simp only [List.nil_append, List.cons_append]
  refine walkK_is ?_ (by first | exact gs0 rfl | exact gs1 rfl rfl rfl) (fun _ => Below.refl _ _) (fun u X hX hd => ?_) ?_
  rotate_left
  · obtain ⟨q7, q8⟩ := hQ.out X hX
    try simp at hd
    go_simp
    try rfl
  apply walkK_norm
  · first | (simp only [List.nil_append, List.cons_append]; rfl) | simp only [List.nil_append, List.cons_append]
  refine walkK_new (rowsV w.heap.size 34 9 no (entsW old)) (by first | exact gs0 rfl | exact gs1 rfl rfl rfl) (fun v x y hb h => rowsV_keep v x y hb h) (fun u X hX hd => ?_) ?_
  · simp at hd
    obtain ⟨h0, h2⟩ := hd
    exact exec_appendW _ _ _ rfl w.heap.size 34 i0 _ 9 72 Try.underlying22 hi hz0 hz1 hz2 rfl h0 (Nat.le_trans B0.out.size hX.size) (by simp [look, findAt]) oA no oc (entsW old) (by simp [look, findAt, h2]) (HM.out.so.below (bnext B0.out hX)) (entsW_one old) (by unfold maxLen; omega) (by omega)
  apply walkK_norm
  · first | (simp only [List.nil_append, List.cons_append]; rfl) | simp only [List.nil_append, List.cons_append]
  refine walkK_new (noneW w.heap.size 4) (by first | exact gs0 rfl | exact gs1 rfl rfl rfl) (fun v x y hb h => noneW_keep v x y hb h) (fun u X hX hd => ⟨_, _, exec_noneB _ _ _ rfl, below_alloc1 _ _, _, rfl, Nat.le_trans B0.out.size hX.size, Bk.new _ _ _⟩) ?_
  apply walkK_norm
  · first | (simp only [List.nil_append, List.cons_append]; rfl) | simp only [List.nil_append, List.cons_append]
  refine walkK_is ?_ (by first | exact gs0 rfl | exact gs1 rfl rfl rfl) (fun _ => Below.refl _ _) (fun u X hX hd => ?_) ?_
  rotate_left
  · obtain ⟨q7, q8⟩ := hQ.out X hX
    try simp at hd
    go_simp
    try rfl
  apply walkK_norm
  · first | (simp only [List.nil_append, List.cons_append]; rfl) | simp only [List.nil_append, List.cons_append]
  refine walkK_is ?_ (by first | exact gs0 rfl | exact gs1 rfl rfl rfl) (fun _ => Below.refl _ _) (fun u X hX hd => ?_) ?_
  rotate_left
  · obtain ⟨q7, q8⟩ := hQ.out X hX
    try simp at hd
    go_simp
    try rfl
  apply walkK_norm
  · first | (simp only [List.nil_append, List.cons_append]; rfl) | simp only [List.nil_append, List.cons_append]
  refine walkK_new (rowsV w.heap.size 4 1 no (bsW kept)) (by first | exact gs0 rfl | exact gs1 rfl rfl rfl) (fun v x y hb h => rowsV_keep v x y hb h) (fun u X hX hd => ?_) ?_
  · simp at hd
    obtain ⟨h0, h2⟩ := hd
    exact exec_appendW _ _ _ rfl w.heap.size 4 ib _ 1 1 Try.underlying23 hib hy0 hy1 hy2 rfl h0 (Nat.le_trans B0.out.size hX.size) (by simp [look, findAt]) (some ⟨b, off, none⟩) no kc (bsW kept) (by simp [look, findAt, h2]) (HM.out.sk.below (bnext B0.out hX)) (bsW_one kept) (by unfold maxLen; omega) (by omega)
  apply walkK_norm
  · first | (simp only [List.nil_append, List.cons_append]; rfl) | simp only [List.nil_append, List.cons_append]
  refine walkK_is ?_ (by first | exact gs0 rfl | exact gs1 rfl rfl rfl) (fun _ => Below.refl _ _) (fun u X hX hd => ?_) ?_
  rotate_left
  · obtain ⟨q7, q8⟩ := hQ.out X hX
    try simp at hd
    go_simp
    try rfl
  apply walkK_norm
  · first | (simp only [List.nil_append, List.cons_append]; rfl) | simp only [List.nil_append, List.cons_append]
  intro u X hX hsay
  simp only [sayAll, isV, rowsV] at hsay
  obtain ⟨-, v1, v2, ⟨oA', oc', v3, ho⟩, -, v5, v6, ⟨kA', kc', v7, hk⟩, v8, -⟩ := hsay
  obtain ⟨go, curo, rfl, -, -, hco, -, -, -⟩ := own_pos ho (by omega)
  obtain ⟨gk, curk, rfl, -, -, hck, -, -, -⟩ := own_pos hk (by omega)
  simp only [putAll, Act.put, v1, v2, v3, v5, v6, v7, v8, List.setIfInBounds_toArray, List.set_cons_succ, List.set_cons_zero]
  clear v1 v2 v3 v5 v6 v7 v8 hQ
  have B1 := Lib.hid (bnext B0.out hX)
  have X1 := Lib.hid (X0.out.below hX)
  have R1 := Lib.hid (R0.out.below hX)
  have B3 := Lib.hid (Below.setCell (p := ⟨w.heap.size, 7, none⟩) B1.out (Nat.le_refl _) (.slice (some ⟨go, 0, none⟩) no oc'))
  have B4 := Lib.hid (Below.setCell (p := ⟨w.heap.size, 8, none⟩) B3.out (Nat.le_refl _) (.slice (some ⟨gk, 0, none⟩) no kc'))
  have X3 := Lib.hid (X1.out.set 7 (.slice (some ⟨go, 0, none⟩) no oc'))
  have X4 : Hid (Bk ((X.setCell ⟨w.heap.size, 7, none⟩ (.slice (some ⟨go, 0, none⟩) no oc')).setCell ⟨w.heap.size, 8, none⟩ (.slice (some ⟨gk, 0, none⟩) no kc')) w.heap.size 25 (mkC true a1 a2 a3 a4 a5 a6 (.slice (some ⟨go, 0, none⟩) no oc') (.slice (some ⟨gk, 0, none⟩) no kc'))) := Lib.hid (by have := X3.out.set 8 (.slice (some ⟨gk, 0, none⟩) no kc'); simpa using this)
  have R3 := Lib.hid (R1.out.far (p := ⟨w.heap.size, 7, none⟩) (by simp) (.slice (some ⟨go, 0, none⟩) no oc'))
  have R4 := Lib.hid (R3.out.far (p := ⟨w.heap.size, 8, none⟩) (by simp) (.slice (some ⟨gk, 0, none⟩) no kc'))
  have O4 := Lib.hid (own_varCell (own_varCell ho X1.out (by decide) 7 (.slice (some ⟨go, 0, none⟩) no oc')) X3.out (by decide) 8 (.slice (some ⟨gk, 0, none⟩) no kc'))
  have K4 := Lib.hid (own_varCell (own_varCell hk X1.out (by decide) 7 (.slice (some ⟨go, 0, none⟩) no oc')) X3.out (by decide) 8 (.slice (some ⟨gk, 0, none⟩) no kc'))
  have M4 : Hid (MkOwn w.heap.size ((X.setCell ⟨w.heap.size, 7, none⟩ (.slice (some ⟨go, 0, none⟩) no oc')).setCell ⟨w.heap.size, 8, none⟩ (.slice (some ⟨gk, 0, none⟩) no kc')) old kept (some ⟨go, 0, none⟩) no oc' (some ⟨gk, 0, none⟩) no kc') := Lib.hid ⟨HM.out.lo, HM.out.lk, HM.out.e8, O4.out, K4.out⟩
  clear c0 c1 c2 c3 c4 c5 c6 c7 c8 cf cl
  obtain ⟨c0, c1, c2, c3, c4, c5, c6, c7, c8, cf⟩ := X1.out.all9
  have cl := X1.out.lt
  have d6 : (j : Int) < (oc' : Int) := by omega
  have d7 : (j : Int) < (kc' : Int) := by omega
  clear ho hk X3 R3 B3 O4 K4 HM B0 X0 R0 S0 R1 hX hvr hv2 hb' i0 hi hz0 hz1 hz2 ib hib hy0 hy1 hy2
  obtain ⟨gl, ol, rfl, hgl, hll⟩ := HL.out.load H8.out (i := j) (by omega)
  obtain ⟨E, hE⟩ : ∃ E : Array Value, E = bkC (entI (l[j]?.getD entZ)) := ⟨_, rfl⟩
  have HLE : Hid (∀ X, Below w.heap.size w X → (loadVar 34 ⟨gl, ol + j * 9, none⟩).run Try.prog X = .ok (.agg E) X) := Lib.hid (fun X hX => by rw [hE]; exact (hll X hX).1)
  have HE8 := Lib.hid (H8.out.at j)
  have hEE := Lib.hid hE
  have E9 : E.size = 9 := by rw [hE, bkC_size, entI_length HE8.out]
  have EI : (Try.prog.info? 34).map (·.size) = some E.size := by rw [E9]; exact infoEnt9
  have EA : E.all (·.oneCell') = true := by rw [hE]; simp [bkC, Value.oneCell']
  clear hE hll
  obtain ⟨w5, hw5⟩ : ∃ w5, w5 = (X.setCell ⟨w.heap.size, 7, none⟩ (.slice (some ⟨go, 0, none⟩) no oc')).setCell ⟨w.heap.size, 8, none⟩ (.slice (some ⟨gk, 0, none⟩) no kc') := ⟨_, rfl⟩
  have HW5 := Lib.hid hw5
  rw [← hw5] at B4 X4 R4 M4
  clear hw5
  go_wp2
  rw [← HW5.out]
  have hD : Hid (Below w.heap.size w w5.drew) := Lib.hid (below_draw B4.out)
  have XD : Hid (Bk w5.drew w.heap.size 25 (mkC true a1 a2 a3 a4 a5 a6 (.slice (some ⟨go, 0, none⟩) no oc') (.slice (some ⟨gk, 0, none⟩) no kc'))) := Lib.hid (X4.out.heap rfl)
  have RD : Hid (Bk w5.drew (w.heap.size + 1) 25 mkZ) := Lib.hid (R4.out.heap rfl)
  have OD : Hid (MkOwn w.heap.size w5.drew old kept (some ⟨go, 0, none⟩) no oc' (some ⟨gk, 0, none⟩) no kc') := Lib.hid ⟨M4.out.lo, M4.out.lk, M4.out.e8, own_heap M4.out.oo rfl, own_heap M4.out.ok rfl⟩
  have hgo : w.heap.size ≠ go := own_var_ne OD.out.oo XD.out (by decide)
  have hgr : w.heap.size + 1 ≠ go := own_var_ne OD.out.oo RD.out (by decide)
  have hgk : w.heap.size ≠ gk := own_var_ne OD.out.ok XD.out (by decide)
  have hgs : w.heap.size + 1 ≠ gk := own_var_ne OD.out.ok RD.out (by decide)
  have hgg : go ≠ gk := fun q => own_apart OD.out.oo OD.out.ok (by decide) go rfl (by rw [q]; rfl)
  have hBg : w.heap.size ≤ go := own_ge OD.out.oo rfl
  have hBk : w.heap.size ≤ gk := own_ge OD.out.ok rfl
  obtain ⟨gp, curo, hgp, -, hko, -, -, hso, -⟩ := own_pos OD.out.oo (by omega)
  obtain rfl : go = gp := by injection hgp with hgp; injection hgp
  obtain ⟨gq, curk, hgq, -, hkk, -, -, hsk, -⟩ := own_pos OD.out.ok (by omega)
  obtain rfl : gk = gq := by injection hgq with hgq; injection hgq
  obtain ⟨D, hDe⟩ : ∃ D, D = w5.drew := ⟨_, rfl⟩
  rw [← hDe] at hD XD RD OD hko hkk
  obtain ⟨S, hSe⟩ : ∃ S, S = D.setCells go (j * 9) E.toList := ⟨_, rfl⟩
  have hS : Hid (Below w.heap.size w S) := Lib.hid (by rw [hSe]; exact below_setCells hD.out hBg _ _)
  have XS : Hid (Bk S w.heap.size 25 (mkC true a1 a2 a3 a4 a5 a6 (.slice (some ⟨go, 0, none⟩) no oc') (.slice (some ⟨gk, 0, none⟩) no kc'))) := Lib.hid (by rw [hSe]; exact XD.out.setCells hgo _ _)
  have RS : Hid (Bk S (w.heap.size + 1) 25 mkZ) := Lib.hid (by rw [hSe]; exact RD.out.setCells hgr _ _)
  have hQ : Hid (∀ X, X = D ∨ X = S → X.cell? ⟨w.heap.size, 7, none⟩ = some (.slice (some ⟨go, 0, none⟩) no oc') ∧ X.cell? ⟨w.heap.size, 8, none⟩ = some (.slice (some ⟨gk, 0, none⟩) no kc')) := Lib.hid (by
    rintro X (rfl | rfl)
    · exact ⟨XD.out.cell 7, XD.out.cell 8⟩
    · exact ⟨XS.out.cell 7, XS.out.cell 8⟩)
  have hLQ : Hid (∀ X, X = D ∨ X = S → (loadVar 34 ⟨gl, ol + j * 9, none⟩).run Try.prog X = .ok (.agg E) X) := Lib.hid (by
    rintro X (rfl | rfl)
    · exact HLE.out _ hD.out
    · exact HLE.out _ hS.out)
  have TH : Hid (D.there go (j * 9) E.size) := Lib.hid (hko.there (by rw [hso, E9]; omega))
  have FIN := Lib.hid (keep_stores (j := j) OD.out hjo HE8.out)
  rw [← hEE.out, ← hSe] at FIN
  have SKB : Hid (S.cell? ⟨gk, j, none⟩ = curk[j]? ∧ S.frozen? ⟨gk, j, none⟩ = false ∧ (curk[j]?).isSome = true ∧ gk < S.heap.size) := Lib.hid (by
    have hk2 : Bk S gk 4 curk := by rw [hSe]; exact Bk.setCells hkk (Ne.symm hgg) _ _
    refine ⟨hk2.cell j, hk2.frozen j, ?_, hk2.lt⟩
    rw [Array.getElem?_eq_getElem (by omega)]
    rfl)
  clear hko hkk hso hsk OD
  try simp only [List.append_eq, List.cons_append, List.nil_append]
  refine wp_region_saysE 12 (kpV w.heap.size j (.slice (some ⟨go, 0, none⟩) no oc') (.slice (some ⟨gk, 0, none⟩) no kc') (.slice (some ⟨gl, ol, none⟩) ln lc) gl ol go E) (KpH D S) () (by rw [hDe]; rfl) (by kernel_rfl) (by kernel_rfl) (by kernel_rfl) (by kernel_rfl) (by rfl) ?_ ?_
  · simp only [List.take_succ_cons, List.take_zero]
    refine walkE_is (fun d x u X _ hh _ => hh.is (by decide)) (fun d x u X hh hd => ?_) ?_
    · obtain ⟨q7, q8⟩ := hQ.out X hh.or
      clear hd
      go_simp
      try simp [hd]
      try rfl
    refine walkE_is (fun d x u X _ hh _ => hh.is (by decide)) (fun d x u X hh hd => ?_) ?_
    · obtain ⟨q7, q8⟩ := hQ.out X hh.or
      simp [kpV] at hd
      go_simp
      try simp [hd]
      try rfl
    refine walkE_is (fun d x u X _ hh _ => hh.is (by decide)) (fun d x u X hh hd => ?_) ?_
    · obtain ⟨q7, q8⟩ := hQ.out X hh.or
      clear hd
      go_simp
      try simp [hd]
      try rfl
    refine walkE_is (fun d x u X _ hh _ => hh.is (by decide)) (fun d x u X hh hd => ?_) ?_
    · obtain ⟨q7, q8⟩ := hQ.out X hh.or
      clear hd
      go_simp
      try simp [hd]
      try rfl
    refine walkE_is (fun d x u X _ hh _ => hh.is (by decide)) (fun d x u X hh hd => ?_) ?_
    · obtain ⟨q7, q8⟩ := hQ.out X hh.or
      simp [kpV] at hd
      go_simp
      try simp [hd]
      try rfl
    refine walkE_is (fun d x u X _ hh _ => hh.is (by decide)) (fun d x u X hh hd => ?_) ?_
    · obtain ⟨q7, q8⟩ := hQ.out X hh.or
      clear hd
      go_simp
      try simp [hd]
      try rfl
    refine walkE_is (fun d x u X _ hh _ => hh.is (by decide)) (fun d x u X hh hd => ?_) ?_
    · obtain ⟨q7, q8⟩ := hQ.out X hh.or
      clear hd
      go_simp
      try simp [hd]
      try rfl
    refine walkE_is (fun d x u X _ hh _ => hh.is (by decide)) (fun d x u X hh hd => ?_) ?_
    · obtain ⟨q7, q8⟩ := hQ.out X hh.or
      clear hd
      go_simp
      try simp [hd]
      try rfl
    refine walkE_is (fun d x u X _ hh _ => hh.is (by decide)) (fun d x u X hh hd => ?_) ?_
    · obtain ⟨q7, q8⟩ := hQ.out X hh.or
      simp [kpV] at hd
      go_simp
      try simp [hd]
      try rfl
    refine walkE_is (fun d x u X _ hh _ => hh.is (by decide)) (fun d x u X hh hd => ?_) ?_
    · simp [kpV] at hd
      exact op_load_at 34 gl (ol + j * 9) (hLQ.out X hh.or) _ rfl (by simp [look, findAt, hd])
    refine walkE_is (fun d x u X _ hh _ => hh.is (by decide)) (fun d x u X hh hd => ?_) ?_
    · obtain ⟨q7, q8⟩ := hQ.out X hh.or
      simp [kpV] at hd
      go_simp
      try simp [hd]
      try rfl
    refine walkE_store (fun x => rfl) (fun d x u X h1 hh hd => ?_) ?_
    · simp [kpV] at hd
      have hX : X = D := by
        unfold KpH at hh
        rw [h1] at hh
        exact hh
      subst hX
      exact ⟨_, op_st_mid 34 go (j * 9) E TH.out EI EA _ _ rfl (by simp [look, findAt, hd]) (by simp [look, findAt, hd]), by unfold KpH; rw [updB_self, hSe]; rfl⟩
    exact trivial
  · intro d x X hd hh
    have hX : X = S := by
      have := hd 11 (by decide)
      unfold KpH at hh
      rw [this] at hh
      exact hh
    subst hX
    clear hSe hDe hD XD RD TH hQ hLQ hh hd
    have Xf : Hid (Bk (X.setCell ⟨gk, j, none⟩ (.bool true)) w.heap.size 25 (mkC true a1 a2 a3 a4 a5 a6 (.slice (some ⟨go, 0, none⟩) no oc') (.slice (some ⟨gk, 0, none⟩) no kc'))) := Lib.hid (XS.out.far (p := ⟨gk, j, none⟩) hgk _)
    have Rf : Hid (Bk (X.setCell ⟨gk, j, none⟩ (.bool true)) (w.heap.size + 1) 25 mkZ) := Lib.hid (RS.out.far (p := ⟨gk, j, none⟩) hgs _)
    have Bf : Hid (Below w.heap.size w (X.setCell ⟨gk, j, none⟩ (.bool true))) := Lib.hid (Below.setCell (p := ⟨gk, j, none⟩) hS.out hBk _)
    obtain ⟨k1, k2, k3, k4⟩ := SKB.out
    obtain ⟨cv, hcv⟩ := Option.isSome_iff_exists.1 k3
    rw [hcv] at k1
    clear k3 hcv
    simp only [putAll, Act.put, kpV, List.take_succ_cons, List.take_zero, List.drop_succ_cons, List.drop_zero, List.setIfInBounds_toArray, List.set_cons_succ, List.set_cons_zero]
    go_wp2_with (first
      | (with_reducible refine ld_mk w.heap.size Xf.out _ rfl rfl rfl ?_)
      | (with_reducible refine st_mk (w.heap.size + 1) Rf.out rfl rfl rfl _ _ rfl rfl rfl rfl ?_))
    exact bodyPost_ret (v := .agg (mkC true a1 a2 a3 a4 a5 a6 (.slice (some ⟨go, 0, none⟩) no oc') (.slice (some ⟨gk, 0, none⟩) no kc'))) (results_cell_row rfl _ _ (w.heap.size + 1) _ _ (0, 0) _ rfl (Bk.setRow Rf.out _) Try.underlying25 rfl infoMk) rfl ⟨_, _, _, _, rfl, by rw [HKS.out]; exact FIN.out.varRow Rf.out (by decide) (by decide) _, below_row Bf.out (by omega) _⟩

end
end Go.Proofs.Ytgoamkneenmbgaa
