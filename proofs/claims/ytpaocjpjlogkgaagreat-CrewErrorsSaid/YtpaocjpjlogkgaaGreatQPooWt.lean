/-
  Words and contracts of this claim, 2 texts laid into one, each under its own remark. No conditions but those that stand at each.
-/
import Derived.Test.YtpaocjpjlogkgaaGreatQPooB
import Derived.Test.YtpaocjpjlogkgaaGreatQPooA
import Derived.Test.YtpaocjpjlogkgaaGreatQMacNw
import Derived.Test.YtpaocjpjlogkgaaGreatQCelK
import Derived.Test.YtpaocjpjlogkgaaGreatQWords
import Derived.Test.YtpaocjpjlogkgaaGreatQIntSm
import Derived.Test.YtpaocjpjlogkgaaGreatQMchSb

/-
  What pool.With and Add answer, in whatever memory: rows of tasks with lists of their own. No conditions but those that stand there.
-/
namespace Go.Proofs.YtpaocjpjlogkgaaGreat
open Go Go.RowKit
set_option maxRecDepth 100000
attribute [local go_sem] look findAt
attribute [local simp] depsOf isV Region.binds

theorem TkNew.pos {L : List Tsk} {B : Nat} {w : World} {A : Option Addr} {n c : Nat} {l : List TkL} (h : TkNew L B w A n c l) (hn : 0 < n) : ∃ g cs, A = some ⟨g, 0, none⟩ ∧ B ≤ g ∧ Bk w g 67 cs ∧ n * 18 ≤ cs.size := h.own.pos hn
theorem TkNew.there {L : List Tsk} {B : Nat} {w : World} {g n c : Nat} {l : List TkL} (h : TkNew L B w (some ⟨g, 0, none⟩) n c l) {i : Nat} (hi : i < n) : w.there g (i * 18) 18 := by
  obtain ⟨g', cs, hA, -, hk, hsz⟩ := h.pos (by omega)
  injection hA with hA
  injection hA with hA1
  subst hA1
  exact hk.there (by omega)
theorem TkNew.set {L : List Tsk} {B : Nat} {w : World} {g n c : Nat} {l : List TkL} (h : TkNew L B w (some ⟨g, 0, none⟩) n c l) {i : Nat} (hi : i < n) (u : TkL) (hu : u.In w) (hg : u.Off g) (ho : u.Over B) (hf : fewT u) :
    TkNew (L.set i u.tsk) B (w.setCells g (i * 18) (tkC u)) (some ⟨g, 0, none⟩) n c (l.set i u) := by
  refine ⟨h.own.set hi fun v hv => ?_, ?_, fun v hv => ?_, fun v hv => ?_, fun g' off e v hv => ?_⟩
  · rcases List.mem_or_eq_of_mem_set hv with q | q
    · exact (h.own.2.2 v q).setCells (h.off _ _ rfl v q) _ _
    · rw [q]; exact hu.setCells hg _ _
  · unfold saysT
    rw [List.map_set, h.says]
  · rcases List.mem_or_eq_of_mem_set hv with q | q
    · exact h.few v q
    · rw [q]; exact hf
  · rcases List.mem_or_eq_of_mem_set hv with q | q
    · exact h.over v q
    · rw [q]; exact ho
  · injection e with e
    injection e with e1
    subst e1
    rcases List.mem_or_eq_of_mem_set hv with q | q
    · exact h.off _ _ rfl v q
    · rw [q]; exact hg

/-- the same, with its length. -/
def TpN (L : List Tsk) (n : Nat) (w : World) (e : Ending) (w' : World) : Prop := ∃ A c l, e = .returned (.slice A n c) ∧ TkNew L w.heap.size w' A n c l ∧ Below w.heap.size w w'
theorem TpPost.n {L : List Tsk} {n : Nat} {w w' : World} {e : Ending} (h : TpPost L w e w') (hn : L.length = n) : TpN L n w e w' := by
  obtain ⟨A, m, c, l, he, hO, hb⟩ := h
  obtain rfl : m = n := by rw [← hn]; exact hO.len.symm
  exact ⟨A, c, l, he, hO, hb⟩
theorem pcopied_n (l : List TkL) (A : Option Addr) (n c : Nat) (w : World) (h : Tks w A c l) (hN : l.length = n) (hn : n ≤ 1000) (hf : ∀ t ∈ l, fewT t) :
    Calls Tryz.prog 58 #[.slice A n c] w (TpN (l.map TkL.tsk) n w) := (pcopied_any l A n c w h hN hn hf).mono fun _ _ h => h.n (by rw [List.length_map]; exact hN)

set_option maxHeartbeats 4000000 in
set_option maxRecDepth 100000 in
theorem pwith_any (l : List TkL) (A : Option Addr) (n c i : Nat) (t : TkL) (w : World) (h : Tks w A c l) (hN : l.length = n) (hi : i < n) (hn : n ≤ 1000) (hf : ∀ t ∈ l, fewT t) (ht : t.In w) (htf : fewT t) :
    Calls Tryz.prog 38 #[.slice A n c, .int .i64 (i : Int), .agg (tkA t)] w (TpN ((l.map TkL.tsk).set i t.tsk) n w) := by
  have BA := below_alloc1 w (.cells (tkA t) 67)
  have K0 := Lib.hid (Bk.new w 67 (tkA t))
  have hco := Lib.hid (pcopied_n l A n c _ (h.below BA) hN hn hf)
  have hha := Lib.hid (fun (A : Option Addr) (c : Nat) (W : World) => phas_yes A n c i W hi)
  have B0 := Lib.hid BA
  have HT := Lib.hid ht
  have HF := Lib.hid htf
  have hw0 : (w.alloc (.cells (tkA t) 67)).heap.size = w.heap.size + 1 := World.size_alloc ..
  have d1 : (i : Int) < (n : Int) := by omega
  clear h hN hf ht htf BA
  go_enter Tryz.func38, Tryz.ntmps38
  go_wp2_with (first
    | (go_at_call 58; go_must ((with_reducible refine hco.out.mono ?_); rintro e w1 ⟨A1, c1, l1, rfl, hO, hb1⟩; have B1 := Lib.hid (bnext B0.out hb1); have K1 := Lib.hid (K0.out.below hb1); have O1 := Lib.hid hO; have hcap := hO.own.cap; have d2 : (i : Int) < (c1 : Int) := (by omega); have hot := Lib.hid (owntask_any t w1 (HT.out.below B1.out) HF.out); have h1s := hb1.size; obtain ⟨g, _, rfl, hg, hk, -⟩ := hO.pos (by omega); have hgl := hk.lt; clear hO hb1 hk))
    | (go_at_call 75; go_must ((with_reducible refine (hha.out _ _ _).mono ?_); rintro e w2 ⟨rfl, rfl⟩))
    | (with_reducible refine ld_tsk w.heap.size K1.out _ rfl rfl rfl ?_)
    | (go_at_call 59; go_must ((with_reducible refine hot.out.mono ?_); rintro e w3 ⟨u, rfl, hus, hui, huo, hb3⟩; have US := Lib.hid hus; have UI := Lib.hid hui; have UO := Lib.hid huo; have O3 := Lib.hid (O1.out.below hb3); have B3 := Lib.hid (bnext B1.out hb3); have ht3 := Lib.hid (O3.out.there hi); have h3s := hb3.size; clear hus hui huo hb3))
    | (with_reducible refine st_tskm g (i * 18) u _ _ rfl rfl rfl rfl ht3.out ?_))
  go_ret
  have hO4 := O3.out.set hi u UI.out (UO.out.off hgl) (UO.out.lower h1s) (HF.out.of HT.out UI.out US.out)
  rw [US.out] at hO4
  exact ⟨_, _, _, rfl, hO4.lower (by omega), below_setCells B3.out (by omega) _ _⟩

/-! ### Add -/
/-- a pointer to a new block of noughts. -/
def freshT (B : Nat) (v : Value) (w : World) : Prop := ∃ g, v = .pointer (some ⟨g, 0, none⟩) ∧ B ≤ g ∧ Bk w g 67 tkZ
theorem freshT_keep {B : Nat} (v : Value) (x y : World) (hb : Below x.heap.size x y) (h : freshT B v x) : freshT B v y := by
  obtain ⟨g, e, hg, hk⟩ := h
  exact ⟨g, e, hg, hk.below hb⟩
theorem run_alloc_tsk (ρ : Operand → Value) (w : World) (o : Oper) (ho : o.op = .alloc 67) : (execOp ρ o).run Tryz.prog w = .ok (.value (.pointer (some ⟨w.heap.size, 0, none⟩))) (w.alloc (.cells tkZ 67)) := by
  unfold execOp
  simp only [ho]
  go_simp
def tkV (B : Nat) (L : List Tsk) (n : Nat) (v : Value) (w : World) : Prop := ∃ A c l, v = .slice A n c ∧ TkNew L B w A n c l
theorem tkV_keep {B : Nat} {L : List Tsk} {n : Nat} (v : Value) (x y : World) (hb : Below x.heap.size x y) (h : tkV B L n v x) : tkV B L n v y := by
  obtain ⟨A, c, l, e, hO⟩ := h
  exact ⟨A, c, l, e, hO.below hb⟩
theorem TkL.In.grown {t : TkL} {w w' : World} {row : Option Nat} (h : t.In w) (hg : w.grownBy w' row) (ho : ∀ g, row = some g → t.Off g) : t.In w' := by
  cases row with
  | none => exact h.below (bfresh hg)
  | some g => exact h.keep (ho g rfl) hg.size fun k hk hl => hg.block k hl (by simpa using hk)

theorem all_oneCell_toArray_list (t : TkL) : (tkA t).toList.all Value.oneCell' = true := List.all_eq_true.2 (tkC_one t)
/-- one more behind it. -/
theorem TkNew.push {L : List Tsk} {B : Nat} {w w' : World} {A : Option Addr} {n c g c' : Nat} {l : List TkL} (h : TkNew L B w A n c l) (u : TkL) (hu : u.In w) (hg : ∀ k, (Value.slice A n c).ownBlock = some k → u.Off k) (ho : u.Over B) (hf : fewT u)
    (hw : w'.ownsRow B 67 18 (.slice (some ⟨g, 0, none⟩) (n + 1) c') (n + 1) (tksW l ++ (tkA u).toList)) (hgr : w.grownBy w' (Value.slice A n c).ownBlock) (hfr : (Value.slice A n c).ownBlock = some g ∨ g = w.heap.size) : TkNew (L ++ [u.tsk]) B w' (some ⟨g, 0, none⟩) (n + 1) c' (l ++ [u]) := by
  have hoff : ∀ t ∈ l, ∀ k, (Value.slice A n c).ownBlock = some k → t.Off k := fun t ht k hk => by
    cases A with
    | none => simp [Value.ownBlock] at hk
    | some a =>
      obtain ⟨b, off, al⟩ := a
      rcases h.own.2.1.2 with ⟨q, -⟩ | ⟨g', _, _, q, -, -⟩
      · injection q with q
        cases q
      · injection q with q
        injection q with q
        injection q with q1 q2 q3
        subst q1
        subst q2
        subst q3
        simp [Value.ownBlock] at hk
        subst hk
        exact h.off _ _ rfl t ht
  refine ⟨⟨by rw [List.length_append, h.own.1]; rfl, by rw [tksW_append, tksW_sing]; exact hw, fun t ht => ?_⟩, ?_, fun t ht => ?_, fun t ht => ?_, fun g' off e t ht => ?_⟩
  · rcases List.mem_append.1 ht with q | q
    · exact (h.own.2.2 t q).grown hgr (hoff t q)
    · rw [List.mem_singleton.1 q]; exact hu.grown hgr hg
  · unfold saysT
    rw [List.map_append, h.says]
    rfl
  · rcases List.mem_append.1 ht with q | q
    · exact h.few t q
    · rw [List.mem_singleton.1 q]; exact hf
  · rcases List.mem_append.1 ht with q | q
    · exact h.over t q
    · rw [List.mem_singleton.1 q]; exact ho
  · injection e with e
    injection e with e1
    subst e1
    rcases hfr with k | k
    · rcases List.mem_append.1 ht with q | q
      · exact hoff t q _ k
      · rw [List.mem_singleton.1 q]; exact hg _ k
    · rcases List.mem_append.1 ht with q | q
      · exact (h.own.2.2 t q).off_ge (by omega)
      · rw [List.mem_singleton.1 q]; exact hu.off_ge (by omega)

set_option maxHeartbeats 4000000 in
set_option maxRecDepth 100000 in
theorem padd_any (l : List TkL) (A : Option Addr) (n c : Nat) (x : CmL) (s : Int) (w : World) (h : Tks w A c l) (hN : l.length = n) (hn : n ≤ 999) (hf : ∀ t ∈ l, fewT t) (hx : x.In w) (hxf : x.nr ≤ 1000 ∧ x.nw ≤ 1000 ∧ x.na ≤ 1000 ∧ x.nc ≤ 1000) :
    Calls Tryz.prog 26 #[.slice A n c, .agg (cmlC x).toArray, .int .i64 s] w (TpN (l.map TkL.tsk ++ [⟨s, x.c, newM x.c, [], -1⟩]) (n + 1) w) := by
  have BA := below_alloc1 w (.cells (cmlC x).toArray 56)
  have CC0 := Bk.new w 56 (cmlC x).toArray
  have HL := Lib.hid (h.below BA)
  obtain ⟨W0, hW0⟩ : ∃ W0, W0 = w.alloc (.cells (cmlC x).toArray 56) := ⟨_, rfl⟩
  rw [← hW0] at BA CC0 HL
  have hw0 : W0.heap.size = w.heap.size + 1 := by rw [hW0, World.size_alloc]
  have B0 := Lib.hid BA
  have CC : Hid (∀ X, Below W0.heap.size W0 X → X.cell? ⟨w.heap.size, 0, none⟩ = some (.slice x.ra x.nr x.rc) ∧ X.cell? ⟨w.heap.size, 1, none⟩ = some (.slice x.wa x.nw x.wc) ∧ X.cell? ⟨w.heap.size, 2, none⟩ = some (.slice x.aa x.na x.ac) ∧ X.cell? ⟨w.heap.size, 3, none⟩ = some (.int .i64 x.c.fuel) ∧ X.cell? ⟨w.heap.size, 4, none⟩ = some (.slice x.ca x.nc x.cc) ∧ w.heap.size < X.heap.size) := Lib.hid (fun X hX => by
    have hb := CC0.below hX
    exact ⟨hb.cell 0, hb.cell 1, hb.cell 2, hb.cell 3, hb.cell 4, hb.lt⟩)
  have HX := Lib.hid (hx.below BA)
  have HN := Lib.hid hN
  have HF := Lib.hid hf
  have XF := Lib.hid hxf
  have HW := Lib.hid hW0
  clear h hN hf hx hxf BA CC0 hW0
  go_enter Tryz.func26, Tryz.ntmps26
  go_wp2
  rw [← HW.out]
  try simp only [List.append_eq, List.cons_append, List.nil_append]
  refine wp_region_saysK 6 (fun x y => Below x.heap.size x y) (fun _ _ _ h k => bnext h k) W0 (below_drew1 W0) (by kernel_rfl) (by kernel_rfl) (by kernel_rfl) (by kernel_rfl) (by rfl) ?_
  simp only [List.take_succ_cons, List.take_zero, List.drop_succ_cons, List.drop_zero]
  refine walkK_is (.int .i64 s) (by first | exact gs0 rfl | exact gs1 rfl rfl rfl) (fun _ => Below.refl _ _) (fun u X hX hd => ?_) ?_
  · obtain ⟨q0, q1, q2, q3, q4, ql⟩ := CC.out X hX
    try simp at hd
    go_simp
    try rfl
  apply walkK_norm
  · first | (simp only [List.nil_append]; rfl) | simp only [List.nil_append]
  refine walkK_is (.agg #[.slice x.ra x.nr x.rc, .slice x.wa x.nw x.wc, .slice x.aa x.na x.ac, .int .i64 x.c.fuel, .slice x.ca x.nc x.cc]) (by first | exact gs0 rfl | exact gs1 rfl rfl rfl) (fun _ => Below.refl _ _) (fun u X hX hd => ?_) ?_
  · obtain ⟨q0, q1, q2, q3, q4, ql⟩ := CC.out X hX
    try simp at hd
    go_simp
    try rfl
  apply walkK_norm
  · first | (simp only [List.nil_append, List.cons_append]; rfl) | simp only [List.nil_append, List.cons_append]
  refine walkK_is (.agg #[.slice x.ra x.nr x.rc, .slice x.wa x.nw x.wc, .slice x.aa x.na x.ac, .int .i64 x.c.fuel, .slice x.ca x.nc x.cc]) (by first | exact gs0 rfl | exact gs1 rfl rfl rfl) (fun _ => Below.refl _ _) (fun u X hX hd => ?_) ?_
  · obtain ⟨q0, q1, q2, q3, q4, ql⟩ := CC.out X hX
    try simp at hd
    go_simp
    try rfl
  apply walkK_norm
  · first | (simp only [List.nil_append, List.cons_append]; rfl) | simp only [List.nil_append, List.cons_append]
  refine walkK_call (isV (.agg (mC 0 x.c.fuel (.slice none 0 0) 0 0 0 0 (.slice none 0 0) false 0))) 57 ?_ (by first | exact gs0 rfl | exact gs1 rfl rfl rfl) (fun _ _ _ _ h => h) (fun u X hX hd => ?_) (fun X hX => ?_) ?_
  rotate_left
  · obtain ⟨q0, q1, q2, q3, q4, ql⟩ := CC.out X hX
    try simp at hd
    go_simp
    try rfl
  · exact (mnew_any x.ra x.nr x.rc x.wa x.nw x.wc x.aa x.na x.ac x.c.fuel x.ca x.nc x.cc X).mono fun e X' ⟨he, hb⟩ => ⟨_, he, hb, rfl⟩
  apply walkK_norm
  · first | (simp only [List.nil_append, List.cons_append]; rfl) | simp only [List.nil_append, List.cons_append]
  refine walkK_is (.agg (tkA (newT s x))) (by first | exact gs0 rfl | exact gs1 rfl rfl rfl) (fun _ => Below.refl _ _) (fun u X hX hd => ?_) ?_
  · try simp at hd
    go_simp
    simp [newT, newM, rg]
  apply walkK_norm
  · first | (simp only [List.nil_append, List.cons_append]; rfl) | simp only [List.nil_append, List.cons_append]
  refine walkK_new (freshT W0.heap.size) (by first | exact gs0 rfl | exact gs1 rfl rfl rfl) freshT_keep (fun u X hX hd => ⟨_, _, run_alloc_tsk _ X _ rfl, below_alloc1 _ _, _, rfl, hX.size, Bk.new _ _ _⟩) ?_
  apply walkK_norm
  · first | (simp only [List.nil_append, List.cons_append]; rfl) | simp only [List.nil_append, List.cons_append]
  intro u X hX hsay
  simp only [sayAll, isV] at hsay
  obtain ⟨-, -, -, -, v4, v5, -⟩ := hsay
  obtain ⟨g, v5, hg, hk⟩ := v5
  simp only [putAll, Act.put, v4, v5, List.setIfInBounds_toArray, List.set_cons_succ, List.set_cons_zero, Nat.zero_add, Nat.reduceAdd]
  have KZ := Lib.hid hk
  have BX := Lib.hid hX
  clear v4 v5 hk hX
  go_wp2_with (with_reducible refine st_tsk g KZ.out rfl (newT s x) _ _ rfl rfl rfl rfl ?_)
  obtain ⟨W1, hW1⟩ : ∃ W1, W1 = X.setRow g (tkA (newT s x)) := ⟨_, rfl⟩
  rw [← hW1]
  have b1 : Below W0.heap.size W0 W1 := by rw [hW1]; exact below_row BX.out hg _
  have k1 : Bk W1 g 67 (tkA (newT s x)) := by rw [hW1]; exact Bk.setRow KZ.out _
  have B1 := Lib.hid (bnext B0.out b1)
  have K1 := Lib.hid k1
  have hw1 : w.heap.size ≤ W1.heap.size := B1.out.size
  have TN := Lib.hid (newT_in (s := s) (HX.out.below b1))
  have hco : Hid (∀ X, Below W1.heap.size W1 X → Calls Tryz.prog 58 #[.slice A n c] X (TpN (l.map TkL.tsk) n X)) := Lib.hid (fun X hX => pcopied_n l A n c X ((HL.out.below b1).below hX) HN.out (by omega) HF.out)
  have hld : Hid (∀ X, Below W1.heap.size W1 X → (loadVar 67 ⟨g, 0, none⟩).run Tryz.prog X = .ok (.agg (tkA (newT s x))) X) := Lib.hid (fun X hX => run_loadVar_row X g 67 67 _ (0, 0) _ (k1.below hX) Tryz.underlying67 rfl infoTk)
  clear hW1 b1 k1
  try simp only [List.append_eq, List.cons_append, List.nil_append]
  refine wp_region_saysK 3 (fun x y => Below x.heap.size x y) (fun _ _ _ h k => bnext h k) W1 (below_drew1 W1) (by kernel_rfl) (by kernel_rfl) (by kernel_rfl) (by kernel_rfl) (by rfl) ?_
  simp only [List.take_succ_cons, List.take_zero, List.drop_succ_cons, List.drop_zero]
  refine walkK_is (.slice A n c) (by first | exact gs0 rfl | exact gs1 rfl rfl rfl) (fun _ => Below.refl _ _) (fun u X hX hd => ?_) ?_
  · skip
    try simp at hd
    go_simp
    try rfl
  apply walkK_norm
  · first | (simp only [List.nil_append]; rfl) | simp only [List.nil_append]
  refine walkK_call (tkV W1.heap.size (l.map TkL.tsk) n) 58 ?_ (by first | exact gs0 rfl | exact gs1 rfl rfl rfl) (tkV_keep) (fun u X hX hd => ?_) (fun X hX => ?_) ?_
  rotate_left
  · skip
    try simp at hd
    go_simp
    try rfl
  · exact (hco.out X hX).mono fun _ _ ⟨A', c', l', he, hO, hb⟩ => ⟨_, he, hb, A', c', l', rfl, hO.lower hX.size⟩
  apply walkK_norm
  · first | (simp only [List.nil_append, List.cons_append]; rfl) | simp only [List.nil_append, List.cons_append]
  refine walkK_is (.agg (tkA (newT s x))) (by first | exact gs0 rfl | exact gs1 rfl rfl rfl) (fun _ => Below.refl _ _) (fun u X hX hd => ?_) ?_
  · have hl := hld.out X hX
    try simp at hd
    refine op_load_at 67 (g) (0) hl _ rfl ?_
    go_simp
  apply walkK_norm
  · first | (simp only [List.nil_append, List.cons_append]; rfl) | simp only [List.nil_append, List.cons_append]
  intro u X hX hsay
  simp only [sayAll, isV] at hsay
  obtain ⟨-, v1, v2, -⟩ := hsay
  obtain ⟨A1, c1, l1, v1, hO⟩ := v1
  simp only [putAll, Act.put, v1, v2, List.setIfInBounds_toArray, List.set_cons_succ, List.set_cons_zero, Nat.zero_add, Nat.reduceAdd]
  have O1 := Lib.hid hO
  have BX := Lib.hid (bnext B1.out hX)
  have hot := Lib.hid (owntask_any (newT s x) X (TN.out.below hX) ⟨XF.out.1, XF.out.2.1, XF.out.2.2.1, XF.out.2.2.2, Nat.zero_le _, Nat.zero_le _, Nat.zero_le _⟩)
  have hxs := hX.size
  clear v1 v2 hO hX
  obtain ⟨i0, hi0, hz0, hz1, hz2⟩ := infoTsk
  go_wp2_with (first
    | (go_at_call 59; go_must ((with_reducible refine hot.out.mono ?_); rintro e w3 ⟨u, rfl, hus, hui, huo, hb3⟩; have US := Lib.hid hus; have UO := Lib.hid huo; have hz3 := hb3.size; have BL := below_alloc1 w3 (.cells (tkA u) 67); have KU := Lib.hid (Bk.new w3 67 (tkA u)); have O4 := Lib.hid ((O1.out.below hb3).below BL); have UI := Lib.hid (hui.below BL); have B4 := Lib.hid (bnext (bnext BX.out hb3) BL); have h4s : (w3.alloc (.cells (tkA u) 67)).heap.size = w3.heap.size + 1 := World.size_alloc ..; clear hus hui huo hb3 BL))
    | (at_builtin; go_must (refine append_rowH rfl (.tmp 14) (.tmp 17) _ rfl W1.heap.size 67 i0 _ 18 256 Tryz.underlying28 hi0 hz0 hz1 hz2 rfl (by decide) (.slice A1 n c1) n (tksW l1) rfl O4.out.own.2.1 w3.heap.size (tkA u) rfl KU.out rfl (all_oneCell_toArray_list u) (by unfold maxLen; omega) (by omega) (by rw [World.size_alloc]; omega) ?_; intro ga ca w5 own5 hgr5 hfr5; have OW := Lib.hid own5; have GR := Lib.hid hgr5; have FR := Lib.hid hfr5; clear own5 hgr5 hfr5)))
  go_ret
  have hug : ∀ k, (Value.slice A1 n c1).ownBlock = some k → u.Off k := fun k hk => UO.out.off (own_lt O1.out.own.2.1 hk)
  have hO5 := O4.out.push u UI.out hug (UO.out.lower hxs) ((⟨XF.out.1, XF.out.2.1, XF.out.2.2.1, XF.out.2.2.2, Nat.zero_le _, Nat.zero_le _, Nat.zero_le _⟩ : fewT (newT s x)).of TN.out UI.out US.out) OW.out GR.out FR.out
  rw [US.out, newT_tsk] at hO5
  exact ⟨_, _, _, rfl, hO5.lower hw1, B4.out.grown GR.out B4.out.size fun k hk => Nat.le_trans hw1 (own_ge O4.out.own.2.1 hk)⟩

end Go.Proofs.YtpaocjpjlogkgaaGreat

/-
  What foremanref16.Same answers of tasks that read the same: true, in whatever memory. No conditions but those that stand there.
-/
namespace Go.Proofs.YtpaocjpjlogkgaaGreat
open Go Go.RowKit
set_option maxRecDepth 100000
attribute [local go_sem] look findAt
attribute [local simp] depsOf isV Region.binds

set_option maxHeartbeats 16000000 in
set_option maxRecDepth 100000 in
theorem rsame16_yes (l m : List TkL) (A : Option Addr) (c : Nat) (B : Option Addr) (d n : Nat) (w : World) (h1 : Tks w A c l) (h2 : Tks w B d m) (hN : l.length = n) (hM : m.length = n) (hs : ∀ (i : Nat) (t u : TkL), l[i]? = some t → m[i]? = some u → t.tsk = u.tsk) (hz : n ≤ 1000) (hf : ∀ t ∈ l, fewT t) :
    Calls Tryz.prog 30 #[.slice A n c, .slice B n d] w fun e w' => e = .returned (.bool true) ∧ Below w.heap.size w w' := by
  have H1 := Lib.hid h1
  have H2 := Lib.hid h2
  have HN := Lib.hid hN
  have HM := Lib.hid hM
  have HS := Lib.hid hs
  have HF := Lib.hid hf
  have hnc : n ≤ c := by have := h1.cap; omega
  have hnd : n ≤ d := by have := h2.cap; omega
  clear h1 h2 hN hM hs hf
  go_enter Tryz.func30, Tryz.ntmps30
  go_wp2
  go_loopw [5] (fun cc wr => ∃ i : Nat, i ≤ n ∧ cc = .int .i64 i ∧ Hid (Below w.heap.size w wr)) (fun cc _ => n - (intOf cc).toNat)
  case atStart => exact ⟨0, Nat.zero_le _, rfl, Lib.hid (Below.refl _ _)⟩
  case round =>
    obtain ⟨i, hi, rfl, HB⟩ := hrel
    by_cases hlt : i < n
    · have d1 : (i : Int) < (n : Int) := by omega
      have d2 : (i : Int) < (c : Int) := by omega
      have d3 : (i : Int) < (d : Int) := by omega
      obtain ⟨t, ht⟩ := tk_at (l := l) (i := i) (by rw [HN.out]; exact hlt)
      obtain ⟨u, hu⟩ := tk_at (l := m) (i := i) (by rw [HM.out]; exact hlt)
      have htu := HS.out i t u ht hu
      have hfe := HF.out t (List.mem_of_getElem? ht)
      have I1 := (H1.out.below HB.out).2 t (List.mem_of_getElem? ht)
      have I2 := (H2.out.below HB.out).2 u (List.mem_of_getElem? hu)
      obtain ⟨b1, o1, rfl, hat1⟩ := (H1.out.below HB.out).lies ht
      obtain ⟨b2, o2, rfl, hat2⟩ := (H2.out.below HB.out).lies hu
      clear ht hu
      obtain ⟨s, x, mm, sA, sn, sc, oA, on, oc, own, bA, bn, bc, wk⟩ := t
      obtain ⟨s2, x2, mm2, sA2, sn2, sc2, oA2, on2, oc2, own2, bA2, bn2, bc2, wk2⟩ := u
      have htu : (⟨s, x.c, mm, own, wk⟩ : Tsk) = ⟨s2, x2.c, mm2, own2, wk2⟩ := htu
      injection htu with e1 e2 e3 e4 e5
      subst e1
      subst e3
      subst e4
      subst e5
      obtain rfl : sn2 = sn := by have a := I1.mac.st.1; have b := I2.mac.st.1; simp at a b; omega
      obtain rfl : on2 = on := by have a := I1.mac.ou.1; have b := I2.mac.ou.1; simp at a b; omega
      obtain rfl : bn2 = bn := by have a := I1.own; have b := I2.own; simp only at a b; omega
      obtain ⟨f1, f2, f3, f4, f5, f6, f7⟩ := hfe
      have I1 : (⟨s, x, mm, sA, sn2, sc, oA, on2, oc, own, bA, bn2, bc, wk⟩ : TkL).In wr := I1
      have J1 := Lib.hid I1
      have J2 := Lib.hid I2
      have c1 : Hid (∀ X, Below wr.heap.size wr X → Calls Tryz.prog 68 #[.agg #[.slice x.ra x.nr x.rc, .slice x.wa x.nw x.wc, .slice x.aa x.na x.ac, .int .i64 x.c.fuel, .slice x.ca x.nc x.cc], .agg #[.slice x2.ra x2.nr x2.rc, .slice x2.wa x2.nw x2.wc, .slice x2.aa x2.na x2.ac, .int .i64 x2.c.fuel, .slice x2.ca x2.nc x2.cc]] X fun e w' => e = .returned (.bool true) ∧ Below X.heap.size X w') := Lib.hid (fun X (hX : Below wr.heap.size wr X) => rcsame_yes x x2 e2 X (J1.out.cmd.below hX) (J2.out.cmd.below hX) ⟨f1, f2, f3, f4⟩)
      have c2 := Lib.hid (fun X (hX : Below wr.heap.size wr X) => rsame_yes mm.pc mm.fuel mm.stack mm.out (rg mm.regs 0) (rg mm.regs 1) (rg mm.regs 2) (rg mm.regs 3) mm.over mm.told sA sA2 sn2 sc sc2 oA oA2 on2 oc oc2 X (J1.out.mac.below hX).st (J2.out.mac.below hX).st (J1.out.mac.below hX).ou (J2.out.mac.below hX).ou (Nat.le_trans f5 (by decide)) (Nat.le_trans f6 (by decide)))
      have c3 := Lib.hid (fun X (hX : Below wr.heap.size wr X) => rsameB_yes own J1.out.eight bA bA2 bn2 bc bc2 X (by have := (J1.out.mac.below hX).bk; unfold Blocks; rw [J1.out.own]; exact this) (by have := (J2.out.mac.below hX).bk; unfold Blocks; rw [J1.out.own]; exact this) J1.out.own (Nat.le_trans f7 (by decide)))
      obtain ⟨p10, -, -, -, -, -, -, p1o, p1w, -, -, p1l⟩ := hat1 wr (Below.refl _ _)
      have r10 := KW.cell p10 p1l
      have r1o := KW.cell p1o p1l
      have r1w := KW.cell p1w p1l
      simp only at r10 r1o r1w
      have L1c : Hid (∀ W, (∃ x : KW wr, W = x.1) → (loadVar 56 ⟨b1, o1 + i * 18 + 1, none⟩).run Tryz.prog W = .ok (.agg #[.slice x.ra x.nr x.rc, .slice x.wa x.nw x.wc, .slice x.aa x.na x.ac, .int .i64 x.c.fuel, .slice x.ca x.nc x.cc]) W) := Lib.hid (fun W ⟨kw, hkw⟩ => by
        subst hkw
        obtain ⟨-, q1, q2, q3, q4, q5, -⟩ := hat1 kw.1 kw.2
        exact run_loadVar_mid kw.1 b1 (o1 + i * 18 + 1) 56 (cmlC x) _ (fun j v hv => by
          have hj : j < 5 := by
            rcases Nat.lt_or_ge j 5 with q | q
            · exact q
            · rw [List.getElem?_eq_none (by exact q)] at hv; cases hv
          rw [← hv]
          rcases (show j = 0 ∨ j = 1 ∨ j = 2 ∨ j = 3 ∨ j = 4 by omega) with e | e | e | e | e <;> subst e <;> first | exact q1 | exact q2 | exact q3 | exact q4 | exact q5) Tryz.underlying56 rfl infoCm5)
      have L1m : Hid (∀ W, (∃ x : KW wr, W = x.1) → (loadVar 64 ⟨b1, o1 + i * 18 + 6, none⟩).run Tryz.prog W = .ok (.agg (mC mm.pc mm.fuel (.slice sA sn2 sc) (rg mm.regs 0) (rg mm.regs 1) (rg mm.regs 2) (rg mm.regs 3) (.slice oA on2 oc) mm.over mm.told)) W) := Lib.hid (fun W ⟨kw, hkw⟩ => by
        subst hkw
        obtain ⟨-, -, -, -, -, -, -, -, -, -, pm, -⟩ := hat1 kw.1 kw.2
        exact run_loadVar_mid kw.1 b1 (o1 + i * 18 + 6) 64 _ _ pm Tryz.underlying64 rfl infoMc)
      obtain ⟨p20, -, -, -, -, -, -, p2o, p2w, -, -, p2l⟩ := hat2 wr (Below.refl _ _)
      have r20 := KW.cell p20 p2l
      have r2o := KW.cell p2o p2l
      have r2w := KW.cell p2w p2l
      simp only at r20 r2o r2w
      have L2c : Hid (∀ W, (∃ x : KW wr, W = x.1) → (loadVar 56 ⟨b2, o2 + i * 18 + 1, none⟩).run Tryz.prog W = .ok (.agg #[.slice x2.ra x2.nr x2.rc, .slice x2.wa x2.nw x2.wc, .slice x2.aa x2.na x2.ac, .int .i64 x2.c.fuel, .slice x2.ca x2.nc x2.cc]) W) := Lib.hid (fun W ⟨kw, hkw⟩ => by
        subst hkw
        obtain ⟨-, q1, q2, q3, q4, q5, -⟩ := hat2 kw.1 kw.2
        exact run_loadVar_mid kw.1 b2 (o2 + i * 18 + 1) 56 (cmlC x2) _ (fun j v hv => by
          have hj : j < 5 := by
            rcases Nat.lt_or_ge j 5 with q | q
            · exact q
            · rw [List.getElem?_eq_none (by exact q)] at hv; cases hv
          rw [← hv]
          rcases (show j = 0 ∨ j = 1 ∨ j = 2 ∨ j = 3 ∨ j = 4 by omega) with e | e | e | e | e <;> subst e <;> first | exact q1 | exact q2 | exact q3 | exact q4 | exact q5) Tryz.underlying56 rfl infoCm5)
      have L2m : Hid (∀ W, (∃ x : KW wr, W = x.1) → (loadVar 64 ⟨b2, o2 + i * 18 + 6, none⟩).run Tryz.prog W = .ok (.agg (mC mm.pc mm.fuel (.slice sA2 sn2 sc2) (rg mm.regs 0) (rg mm.regs 1) (rg mm.regs 2) (rg mm.regs 3) (.slice oA2 on2 oc2) mm.over mm.told)) W) := Lib.hid (fun W ⟨kw, hkw⟩ => by
        subst hkw
        obtain ⟨-, -, -, -, -, -, -, -, -, -, pm, -⟩ := hat2 kw.1 kw.2
        exact run_loadVar_mid kw.1 b2 (o2 + i * 18 + 6) 64 _ _ pm Tryz.underlying64 rfl infoMc)
      have hne : Nonempty (KW wr) := ⟨⟨wr, Below.refl _ _⟩⟩
      clear e2 hat1 hat2 I1 I2 f1 f2 f3 f4 f5 f6 f7 HS HF htu p10 p1o p1w p1l p20 p2o p2w p2l
      go_wp2
      try simp only [List.append_eq, List.cons_append, List.nil_append]
      refine wp_region_kept wr (Below.refl _ _) (by kernel_rfl) (by kernel_rfl) ?_
      repeat (first
        | (go_big_quiet_want; (first | refine quiet_load_at 56 b1 (o1 + i * 18 + 1) L1c.out _ rfl rfl ?_ | refine quiet_load_at 56 b2 (o2 + i * 18 + 1) L2c.out _ rfl rfl ?_ | refine quiet_load_at 64 b1 (o1 + i * 18 + 6) L1m.out _ rfl rfl ?_ | refine quiet_load_at 64 b2 (o2 + i * 18 + 6) L2m.out _ rfl rfl ?_); go_simp; go_big_quiet_on)
        | go_big_quiet_step ((first
          | (go_at_call 68; with_reducible exact kept_of _ (c1.out _ (Subtype.property _)))
          | (go_at_call 23; with_reducible exact kept_of _ (c2.out _ (Subtype.property _)))
          | (go_at_call 69; with_reducible exact kept_of _ (c3.out _ (Subtype.property _))))))
      refine wpQuiet_nil ?_
      rintro _ ⟨wx, rfl⟩
      have BX := Lib.hid (bnext HB.out wx.2)
      go_wp2
      go_roundw
      case rel => exact ⟨i + 1, by omega, by go_num, BX⟩
      case measure => simp [intOf]; omega
    · obtain rfl : i = n := by omega
      clear hlt
      go_wp2
      go_ret
      exact ⟨rfl, HB.out⟩

end Go.Proofs.YtpaocjpjlogkgaaGreat
