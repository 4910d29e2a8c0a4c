/-
  What pool.ownTask, copied and has answer, in whatever memory: tasks that say the same, with lists of their own. No conditions but those that stand there.
-/
import Derived.Test.YtldljohholgmoaaZPooB
namespace Go.Proofs.Ytldljohholgmoaa
open Go Go.RowKit
attribute [local go_sem] look findAt
attribute [local simp] depsOf isV Region.binds

theorem cmlC_all (x : CmL) : (cmlC x).toArray.all (·.oneCell') = true := by simp [cmlC, Value.oneCell']
theorem clone_blksV {B : Nat} {A : Option Addr} {n c : Nat} {l : Blks} {X : World} (h : Sl X 8 A n c (blksW l)) (hn : n ≤ 1000) (hB : B ≤ X.heap.size) :
    Calls Try.prog 53 #[.slice A n c] X fun e X' => ∃ A' c', e = .returned (.slice A' n c') ∧ X'.ownsRow B 81 8 (.slice A' n c') n (blksW l) ∧ Below X.heap.size X X' :=
  (clone_blks A n c _ X h hn (blksW_one l)).mono fun _ _ ⟨A', c', he, ho, hb⟩ => ⟨A', c', he, own_lower ho hB, hb⟩

set_option maxHeartbeats 16000000 in
set_option maxRecDepth 100000 in
theorem owntask_any (t : TkL) (w : World) (h : t.In w) (hf : fewT t) :
    Calls Try.prog 32 #[.agg (tkA t)] w fun e w' => ∃ u : TkL, e = .returned (.agg (tkA u)) ∧ u.tsk = t.tsk ∧ u.In w' ∧ u.Over w.heap.size ∧ Below w.heap.size w w' := by
  have BA := below_alloc1 w (.cells (tkA t) 41)
  have BB := below_alloc1 (w.alloc (.cells (tkA t) 41)) (.cells tkZ 41)
  have b0 := bnext BA BB
  have k0 := (Bk.new w 41 (tkA t)).below BB
  have z0 := Bk.new (w.alloc (.cells (tkA t) 41)) 41 tkZ
  rw [World.size_alloc] at z0
  obtain ⟨W0, hW0⟩ : ∃ W0, W0 = (w.alloc (.cells (tkA t) 41)).alloc (.cells tkZ 41) := ⟨_, rfl⟩
  rw [← hW0] at b0 k0 z0
  have hw0 : W0.heap.size = w.heap.size + 2 := by rw [hW0, World.size_alloc, World.size_alloc]
  have HW := Lib.hid hW0
  have B0 := Lib.hid b0
  have K0 := Lib.hid k0
  have Z0 := Lib.hid z0
  have hoc := Lib.hid (owncmd_any t.x W0 (h.cmd.below b0) ⟨hf.r, hf.w, hf.a, hf.c⟩)
  have c1 : Hid (∀ X, Below w.heap.size w X → w.heap.size + 2 ≤ X.heap.size → Calls Try.prog 52 #[.slice t.sA t.sn t.sc] X fun e X' => ∃ v, e = .returned v ∧ Below X.heap.size X X' ∧ ownV (w.heap.size + 2) 3 1 t.sn (t.m.stack.map (.int .i64)) v X') := Lib.hid (fun X hX hB => clone_intsV (h.mac.below hX).st hf.s hB)
  have c2 : Hid (∀ X, Below w.heap.size w X → w.heap.size + 2 ≤ X.heap.size → Calls Try.prog 52 #[.slice t.oA t.on t.oc] X fun e X' => ∃ v, e = .returned v ∧ Below X.heap.size X X' ∧ ownV (w.heap.size + 2) 3 1 t.on (t.m.out.map (.int .i64)) v X') := Lib.hid (fun X hX hB => clone_intsV (h.mac.below hX).ou hf.o hB)
  have c3 : Hid (∀ X, Below w.heap.size w X → w.heap.size + 2 ≤ X.heap.size → Calls Try.prog 53 #[.slice t.bA t.bn t.bc] X fun e X' => ∃ A' c', e = .returned (.slice A' t.bn c') ∧ X'.ownsRow (w.heap.size + 2) 81 8 (.slice A' t.bn c') t.bn (blksW t.own) ∧ Below X.heap.size X X') := Lib.hid (fun X hX hB => clone_blksV (h.mac.below hX).bk hf.b hB)
  have HI := Lib.hid h
  have r0 : W0.rangeAt w.heap.size 1 (cmlC t.x) := fun j v hv => by
    have hj : j < 5 := by
      rcases Nat.lt_or_ge j 5 with q | q
      · exact q
      · rw [List.getElem?_eq_none (by exact q)] at hv; cases hv
    rw [k0.cell, ← hv]
    rcases (show j = 0 ∨ j = 1 ∨ j = 2 ∨ j = 3 ∨ j = 4 by omega) with e | e | e | e | e <;> subst e <;> rfl
  have R0 := Lib.hid r0
  clear h hf BA BB b0 k0 z0 hW0 r0
  go_enter Try.func32, Try.ntmps32
  go_wp2_with (first
    | (rw [← HW.out]; refine wpList_load_mid rfl 33 _ rfl w.heap.size 1 rfl (cmlC t.x) _ R0.out Try.underlying33 rfl infoCm5 ?_)
    | (go_at_call 51; go_must ((with_reducible refine hoc.out.mono ?_); rintro e w1 ⟨y, rfl, hyc, hyi, hyo, hb1⟩; have YC := Lib.hid hyc; have YI := Lib.hid hyi; have YO := Lib.hid hyo; have B1 := Lib.hid hb1; have K1 := Lib.hid (K0.out.below hb1); have Z1 := Lib.hid (Z0.out.below hb1); have ht := Lib.hid (K1.out.there (o := 1) (n := (cmlC y).toArray.size) (by show 1 + 5 ≤ 18; decide)); clear hyc hyi hyo hb1))
    | (refine wpList_store_mid rfl 33 _ _ rfl w.heap.size 1 (cmlC y).toArray rfl rfl ht.out infoCm5 (cmlC_all y) ?_))
  obtain ⟨W1, hW1⟩ : ∃ W1, W1 = w1.setCells w.heap.size 1 (cmlC y).toArray.toList := ⟨_, rfl⟩
  rw [← hW1]
  obtain ⟨t1, ht1⟩ : ∃ t1, t1 = ({ t with x := y } : TkL) := ⟨_, rfl⟩
  have k1 : Bk W1 w.heap.size 41 (tkA t1) := by
    rw [hW1, ht1]
    have := ((((K1.out.set 1 (.slice y.ra y.nr y.rc)).set 2 (.slice y.wa y.nw y.wc)).set 3 (.slice y.aa y.na y.ac)).set 4 (.int .i64 y.c.fuel)).set 5 (.slice y.ca y.nc y.cc)
    simp only [List.setIfInBounds_toArray, List.set_cons_zero, List.set_cons_succ] at this
    exact this
  have z1 : Bk W1 (w.heap.size + 1) 41 tkZ := by rw [hW1]; exact Z1.out.setCells (by omega) _ _
  have b1 : Below w.heap.size w W1 := by rw [hW1]; exact below_setCells (bnext B0.out B1.out) (Nat.le_refl _) _ _
  have u1 : KeptUp (w.heap.size + 2) w1 W1 := by rw [hW1]; exact (KeptUp.refl _ w1).setCells (by omega) _ _
  have yo := YO.out.lower (B' := w.heap.size + 2) (by omega)
  have yi := Lib.hid (YI.out.up yo u1)
  have YO2 := Lib.hid yo
  have hs1 : w.heap.size + 2 ≤ W1.heap.size := by have := u1.1; have := B1.out.size; omega
  have e8 : t1.sA = t.sA ∧ t1.sn = t.sn ∧ t1.sc = t.sc ∧ t1.oA = t.oA ∧ t1.on = t.on ∧ t1.oc = t.oc := by rw [ht1]; exact ⟨rfl, rfl, rfl, rfl, rfl, rfl⟩
  obtain ⟨e81, e82, e83, e84, e85, e86⟩ := e8
  have CC : Hid (∀ X, Below W1.heap.size W1 X → X.cell? ⟨w.heap.size, 8, none⟩ = some (.slice t.sA t.sn t.sc) ∧ X.cell? ⟨w.heap.size, 13, none⟩ = some (.slice t.oA t.on t.oc) ∧ w.heap.size < X.heap.size) := Lib.hid (fun X hX => by
    have hk := k1.below hX
    exact ⟨by rw [← e81, ← e82, ← e83]; exact hk.cell 8, by rw [← e84, ← e85, ← e86]; exact hk.cell 13, hk.lt⟩)
  have K2 := Lib.hid k1
  have Z2 := Lib.hid z1
  have B2 := Lib.hid b1
  have T1 := Lib.hid ht1
  clear hW1 ht1 k1 z1 b1 u1 yo e81 e82 e83 e84 e85 e86
  try simp only [List.append_eq, List.cons_append, List.nil_append]
  refine wp_region_saysK 10 (fun x y => Below x.heap.size x y) (fun _ _ _ h k => bnext h k) W1 (below_drew1 W1) (by kernel_rfl) (by kernel_rfl) (by kernel_rfl) (by kernel_rfl) (by rfl) ?_
  simp only [List.take_succ_cons, List.take_zero, List.drop_succ_cons, List.drop_zero]
  refine walkK_is ?_ (by first | exact gs0 rfl | exact gs1 rfl rfl rfl) (fun _ => Below.refl _ _) (fun u X hX hd => ?_) ?_
  rotate_left
  · obtain ⟨q0, q1, ql⟩ := CC.out X hX
    try simp at hd
    go_simp
    try rfl
  apply walkK_norm
  · first | (simp only [List.nil_append]; rfl) | simp only [List.nil_append]
  refine walkK_is ?_ (by first | exact gs0 rfl | exact gs1 rfl rfl rfl) (fun _ => Below.refl _ _) (fun u X hX hd => ?_) ?_
  rotate_left
  · obtain ⟨q0, q1, ql⟩ := CC.out X hX
    try simp at hd
    go_simp
    try rfl
  apply walkK_norm
  · first | (simp only [List.nil_append, List.cons_append]; rfl) | simp only [List.nil_append, List.cons_append]
  refine walkK_is ?_ (by first | exact gs0 rfl | exact gs1 rfl rfl rfl) (fun _ => Below.refl _ _) (fun u X hX hd => ?_) ?_
  rotate_left
  · obtain ⟨q0, q1, ql⟩ := CC.out X hX
    try simp at hd
    go_simp
    try rfl
  apply walkK_norm
  · first | (simp only [List.nil_append, List.cons_append]; rfl) | simp only [List.nil_append, List.cons_append]
  refine walkK_call (ownV (w.heap.size + 2) 3 1 t.sn (t.m.stack.map (.int .i64))) 52 ?_ (by first | exact gs0 rfl | exact gs1 rfl rfl rfl) (fun v x y hb h => ownV_keep v x y hb h) (fun u X hX hd => ?_) (fun X hX => ?_) ?_
  rotate_left
  · obtain ⟨q0, q1, ql⟩ := CC.out X hX
    try simp at hd
    go_simp
    try rfl
  · exact c1.out X (bnext B2.out hX) (Nat.le_trans hs1 hX.size)
  apply walkK_norm
  · first | (simp only [List.nil_append, List.cons_append]; rfl) | simp only [List.nil_append, List.cons_append]
  refine walkK_is ?_ (by first | exact gs0 rfl | exact gs1 rfl rfl rfl) (fun _ => Below.refl _ _) (fun u X hX hd => ?_) ?_
  rotate_left
  · obtain ⟨q0, q1, ql⟩ := CC.out X hX
    try simp at hd
    go_simp
    try rfl
  apply walkK_norm
  · first | (simp only [List.nil_append, List.cons_append]; rfl) | simp only [List.nil_append, List.cons_append]
  refine walkK_is ?_ (by first | exact gs0 rfl | exact gs1 rfl rfl rfl) (fun _ => Below.refl _ _) (fun u X hX hd => ?_) ?_
  rotate_left
  · obtain ⟨q0, q1, ql⟩ := CC.out X hX
    try simp at hd
    go_simp
    try rfl
  apply walkK_norm
  · first | (simp only [List.nil_append, List.cons_append]; rfl) | simp only [List.nil_append, List.cons_append]
  refine walkK_is ?_ (by first | exact gs0 rfl | exact gs1 rfl rfl rfl) (fun _ => Below.refl _ _) (fun u X hX hd => ?_) ?_
  rotate_left
  · obtain ⟨q0, q1, ql⟩ := CC.out X hX
    try simp at hd
    go_simp
    try rfl
  apply walkK_norm
  · first | (simp only [List.nil_append, List.cons_append]; rfl) | simp only [List.nil_append, List.cons_append]
  refine walkK_call (ownV (w.heap.size + 2) 3 1 t.on (t.m.out.map (.int .i64))) 52 ?_ (by first | exact gs0 rfl | exact gs1 rfl rfl rfl) (fun v x y hb h => ownV_keep v x y hb h) (fun u X hX hd => ?_) (fun X hX => ?_) ?_
  rotate_left
  · obtain ⟨q0, q1, ql⟩ := CC.out X hX
    try simp at hd
    go_simp
    try rfl
  · exact c2.out X (bnext B2.out hX) (Nat.le_trans hs1 hX.size)
  apply walkK_norm
  · first | (simp only [List.nil_append, List.cons_append]; rfl) | simp only [List.nil_append, List.cons_append]
  refine walkK_is ?_ (by first | exact gs0 rfl | exact gs1 rfl rfl rfl) (fun _ => Below.refl _ _) (fun u X hX hd => ?_) ?_
  rotate_left
  · obtain ⟨q0, q1, ql⟩ := CC.out X hX
    try simp at hd
    go_simp
    try rfl
  apply walkK_norm
  · first | (simp only [List.nil_append, List.cons_append]; rfl) | simp only [List.nil_append, List.cons_append]
  refine walkK_is ?_ (by first | exact gs0 rfl | exact gs1 rfl rfl rfl) (fun _ => Below.refl _ _) (fun u X hX hd => ?_) ?_
  rotate_left
  · obtain ⟨q0, q1, ql⟩ := CC.out X hX
    try simp at hd
    go_simp
    try rfl
  apply walkK_norm
  · first | (simp only [List.nil_append, List.cons_append]; rfl) | simp only [List.nil_append, List.cons_append]
  intro u X hX hsay
  simp only [sayAll, isV] at hsay
  obtain ⟨-, -, -, v3, -, -, -, v7, v8, v9, -⟩ := hsay
  obtain ⟨A1, l1, v3, o1⟩ := v3
  obtain ⟨A2, l2, v7, o2⟩ := v7
  simp only [putAll, Act.put, v3, v7, v8, v9, List.setIfInBounds_toArray, List.set_cons_succ, List.set_cons_zero, Nat.zero_add, Nat.reduceAdd]
  have kx := K2.out.below hX
  have p8 := kx.cell 8
  have p13 := kx.cell 13
  have p16 := kx.cell 16
  have pf := fun o => kx.frozen o
  have pl := kx.lt
  simp only [List.getElem?_toArray, List.getElem?_cons_zero, List.getElem?_cons_succ] at p8 p13 p16
  have e16' : t1.bA = t.bA ∧ t1.bn = t.bn ∧ t1.bc = t.bc := by rw [T1.out]; exact ⟨rfl, rfl, rfl⟩
  rw [e16'.1, e16'.2.1, e16'.2.2] at p16
  clear e16'
  have hx2 : w.heap.size + 2 ≤ X.heap.size := by have := hX.size; omega
  have k3 := (kx.set 8 (.slice A1 t.sn l1)).set 13 (.slice A2 t.on l2)
  simp only [List.setIfInBounds_toArray, List.set_cons_zero, List.set_cons_succ] at k3
  have z3 := ((Z2.out.below hX).far (p := ⟨w.heap.size, 8, none⟩) (by show w.heap.size + 1 ≠ w.heap.size; omega) (.slice A1 t.sn l1)).far (p := ⟨w.heap.size, 13, none⟩) (by show w.heap.size + 1 ≠ w.heap.size; omega) (.slice A2 t.on l2)
  have b3 := ((bnext B2.out hX).setCell (p := ⟨w.heap.size, 8, none⟩) (Nat.le_refl _) (.slice A1 t.sn l1)).setCell (p := ⟨w.heap.size, 13, none⟩) (Nat.le_refl _) (.slice A2 t.on l2)
  have u3 := ((KeptUp.refl (w.heap.size + 2) X).setCell (show w.heap.size < w.heap.size + 2 by omega) 8 (.slice A1 t.sn l1)).setCell (show w.heap.size < w.heap.size + 2 by omega) 13 (.slice A2 t.on l2)
  obtain ⟨W3, hW3⟩ : ∃ W3, W3 = (X.setCell ⟨w.heap.size, 8, none⟩ (.slice A1 t.sn l1)).setCell ⟨w.heap.size, 13, none⟩ (.slice A2 t.on l2) := ⟨_, rfl⟩
  rw [← hW3] at k3 z3 b3 u3
  obtain ⟨t3, ht3⟩ : ∃ t3, t3 = ({ t with x := y, sA := A1, sc := l1, oA := A2, oc := l2 } : TkL) := ⟨_, rfl⟩
  have k3' : Bk W3 w.heap.size 41 (tkA t3) := by
    rw [ht3]
    rw [T1.out] at k3
    exact k3
  have P1 := Lib.hid (own_up u3 o1 (Nat.le_refl _))
  have P2 := Lib.hid (own_up u3 o2 (Nat.le_refl _))
  have Y3 := Lib.hid (yi.out.up YO2.out ((KeptUp.of (B := w.heap.size + 2) hX).trans u3))
  have hs3 : w.heap.size + 2 ≤ W3.heap.size := by have := u3.1; omega
  have hcl := Lib.hid (c3.out W3 b3 hs3)
  have y16 := k3'.cell 16
  have yl := k3'.lt
  have yf := fun o => k3'.frozen o
  simp only [List.getElem?_toArray, List.getElem?_cons_zero, List.getElem?_cons_succ] at y16
  have e16 : t3.bA = t.bA ∧ t3.bn = t.bn ∧ t3.bc = t.bc := by rw [ht3]; exact ⟨rfl, rfl, rfl⟩
  rw [e16.1, e16.2.1, e16.2.2] at y16
  have K3 := Lib.hid k3'
  have Z3 := Lib.hid z3
  have B3 := Lib.hid b3
  have T3 := Lib.hid ht3
  have HW3 := Lib.hid hW3
  clear v3 v7 v8 v9 o1 o2 kx hX k3 z3 b3 u3 ht3 e16 k3' hW3
  go_wp2_with (first
    | (go_at_call 53; rw [← HW3.out]; go_must ((with_reducible refine hcl.out.mono ?_); rintro e w4 ⟨A3, l3, rfl, ho, hb4⟩; have P3 := Lib.hid ho; have k4 := K3.out.below hb4; have k5 := k4.set 16 (.slice A3 t.bn l3); rw [T3.out] at k5; simp only [List.setIfInBounds_toArray, List.set_cons_zero, List.set_cons_succ] at k5; have K5 : Hid (Bk (w4.setCell ⟨w.heap.size, 16, none⟩ (.slice A3 t.bn l3)) w.heap.size 41 (tkA ({ t with x := y, sA := A1, sc := l1, oA := A2, oc := l2, bA := A3, bc := l3 } : TkL))) := Lib.hid k5; have Z5 := Lib.hid ((Z3.out.below hb4).far (p := ⟨w.heap.size, 16, none⟩) (by show w.heap.size + 1 ≠ w.heap.size; omega) (.slice A3 t.bn l3)); have B4 := Lib.hid hb4; clear p8 p13 p16 pf pl y16 yl yf ho hb4; have y16 := k4.cell 16; have yl := k4.lt; have yf := fun o => k4.frozen o; clear k4 k5))
    | (refine ld_tsk w.heap.size K5.out _ rfl rfl rfl ?_)
    | (refine st_tsk (w.heap.size + 1) Z5.out rfl ({ t with x := y, sA := A1, sc := l1, oA := A2, oc := l2, bA := A3, bc := l3 } : TkL) _ _ rfl rfl rfl rfl ?_))
  have up5 := ((KeptUp.refl (w.heap.size + 2) w4).setCell (show w.heap.size < w.heap.size + 2 by omega) 16 (.slice A3 t.bn l3)).setRow (show w.heap.size + 1 < w.heap.size + 2 by omega) (tkA ({ t with x := y, sA := A1, sc := l1, oA := A2, oc := l2, bA := A3, bc := l3 } : TkL))
  have up4 := (KeptUp.of (B := w.heap.size + 2) B4.out).trans up5
  have hin : TkL.In ({ t with x := y, sA := A1, sc := l1, oA := A2, oc := l2, bA := A3, bc := l3 } : TkL) _ := ⟨Y3.out.up YO2.out up4, ⟨Sl.own' (own_up up4 P1.out (Nat.le_refl _)), Sl.own' (own_up up4 P2.out (Nat.le_refl _)), Sl.own' (own_up up5 P3.out (Nat.le_refl _))⟩, HI.out.four, HI.out.own, HI.out.eight⟩
  have hov : TkL.Over w.heap.size ({ t with x := y, sA := A1, sc := l1, oA := A2, oc := l2, bA := A3, bc := l3 } : TkL) := ⟨YO2.out.lower (by omega), (own_over P1.out).lower (by omega), (own_over P2.out).lower (by omega), (own_over P3.out).lower (by omega)⟩
  have hsay : TkL.tsk ({ t with x := y, sA := A1, sc := l1, oA := A2, oc := l2, bA := A3, bc := l3 } : TkL) = t.tsk := by unfold TkL.tsk; rw [YC.out]
  exact bodyPost_ret (v := .agg (tkA ({ t with x := y, sA := A1, sc := l1, oA := A2, oc := l2, bA := A3, bc := l3 } : TkL))) (results_cell_row rfl _ _ (w.heap.size + 1) _ _ (0, 0) _ rfl (Bk.setRow Z5.out _) Try.underlying41 rfl infoTk) rfl ⟨_, rfl, hsay, hin, hov, below_row ((bnext B3.out B4.out).setCell (p := ⟨w.heap.size, 16, none⟩) (Nat.le_refl _) _) (by omega) _⟩

end Go.Proofs.Ytldljohholgmoaa
