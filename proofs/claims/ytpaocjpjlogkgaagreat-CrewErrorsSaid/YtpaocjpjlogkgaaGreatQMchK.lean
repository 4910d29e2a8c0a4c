/-
  Words and contracts of this claim, 5 texts laid into one, each under its own remark. No conditions but those that stand at each.
-/
import Derived.Test.YtpaocjpjlogkgaaGreatQMchF
import Derived.Test.YtpaocjpjlogkgaaGreatZSetL
import Derived.Test.YtpaocjpjlogkgaaGreatQRely
import Derived.Test.YtpaocjpjlogkgaaGreatQCelK
import Derived.Test.YtpaocjpjlogkgaaGreatQWords
import Derived.Test.YtpaocjpjlogkgaaGreatQMchSb

/-
  What machine.takes answers of a put, in whatever memory. No conditions but those that stand there.
-/
namespace Go.Proofs.YtpaocjpjlogkgaaGreat
open Go.RowKit
set_option maxRecDepth 100000
attribute [local go_sem] look findAt
attribute [local simp] depsOf isV Region.binds

/-- a machine's blocks, one of them another one. -/
theorem MRow.putB {B : Nat} {w : World} {st ou : List Int} {own : Blks} {sA : Option Addr} {sn sc : Nat} {oA : Option Addr} {on oc : Nat} {g bn bc : Nat} (h : MRow B w st ou own sA sn sc oA on oc (some ⟨g, 0, none⟩) bn bc) (h8 : ∀ b ∈ own, b.length = 8) {j : Nat} (hj : j < own.length) {y : List Int} (hy : y.length = 8) :
    MRow B (w.setCells g (j * 8) (bkC y).toList) st ou (own.set j y) sA sn sc oA on oc (some ⟨g, 0, none⟩) bn bc := by
  have hb := own_setCells (bkC y).toList (j * 8) h.bk
  rw [show (bkC y).toList = y.map (Value.int .i64) by simp [bkC]] at hb ⊢
  rw [blksW_set own h8 hj hy] at hb
  exact ⟨own_keep h.st (fun k _ hk => heap_setCells _ _ _ k (fun e => own_apart h.bk h.st (by decide) g rfl (e ▸ hk))), own_keep h.ou (fun k _ hk => heap_setCells _ _ _ k (fun e => own_apart h.bk h.ou (by decide) g rfl (e ▸ hk))), hb, h.tw⟩

theorem Rows3.setCells {B : Nat} {S O A : Value} {w W : World} (h : Rows3 B S O A w W) {g : Nat} (hg : A.ownBlock = some g) (hB : B ≤ g) (o : Nat) (vs : List Value) : Rows3 B S O A w (W.setCells g o vs) :=
  ⟨below_setCells h.below hB vs o, fun k hk h1 h2 h3 => (heap_setCells vs o W k (fun e => h3 (by rw [hg, e]))).trans (h.kept k hk h1 h2 h3)⟩

section
variable (pc fuel : Int) (sA : Option Addr) (sc : Nat) (r0 r1 r2 r3 : Int) (oA : Option Addr) (on oc : Nat) (ov : Bool) (e0 : Int) (bA : Option Addr) (bn bc : Nat)

set_option maxHeartbeats 2000000 in
theorem takes_put (k j : Nat) (b : Int) (B : Nat) (st ou : List Int) (own : Blks) (w : World) (hB : B ≤ w.heap.size) (hR : MRow B w st ou own sA (k + 1) sc oA on oc bA bn bc) (hk : k ≤ 1000) (h8 : ∀ x ∈ own, x.length = 8) (hj : j < own.length) (hjn : own.length ≤ 1000) :
    Calls Tryz.prog 112 #[.agg #[.int .i64 5, .int .i64 (j : Int), .int .i64 b], .agg (mC pc fuel (.slice sA (k + 1 : Nat) sc) r0 r1 r2 r3 (.slice oA on oc) ov e0), .slice bA bn bc] w
      (StepPost B (.slice sA (k + 1 : Nat) sc) (.slice oA on oc) (.slice bA bn bc) pc fuel (st.take k) r0 r1 r2 r3 ou ov e0 (own.set j (putC (own[j]?.getD []) b (st[k]?.getD 0))) w) := by
  obtain ⟨g, rfl, hg, hsc, hv⟩ := hR.top (j := k) (Nat.le_refl _)
  have hbn := hR.blen h8
  subst hbn
  obtain ⟨gb, cur, rfl, hgB, hgb, hbc, _, hcs, _⟩ := own_pos hR.bk (by omega)
  have hb0 := nR_below ⟨5, j, b⟩ (mC pc fuel (.slice (some ⟨g, 0, none⟩) (k + 1 : Nat) sc) r0 r1 r2 r3 (.slice oA on oc) ov e0) w
  have hat := Lib.hid (atInt_in g 0 (k + 1) sc k _ (nR ⟨5, j, b⟩ (mC pc fuel (.slice (some ⟨g, 0, none⟩) (k + 1 : Nat) sc) r0 r1 r2 r3 (.slice oA on oc) ov e0) w) (by omega) hsc ((hb0.cell (p := ⟨g, 0 + k, none⟩) hg).trans hv))
  have hk2 : (k : Int) < (sc : Int) := by omega
  generalize st[k]?.getD 0 = top at *
  have hR' := Lib.hid (hR.cut (k := k) (by omega))
  have hbx := Lib.hid (nR_box ⟨5, j, b⟩ (mC pc fuel (.slice (some ⟨g, 0, none⟩) k sc) r0 r1 r2 r3 (.slice oA on oc) ov e0) w)
  have hrs := Lib.hid (nR_res ⟨5, j, b⟩ (mC pc fuel (.slice (some ⟨g, 0, none⟩) k sc) r0 r1 r2 r3 (.slice oA on oc) ov e0) w)
  have hin := Lib.hid (nR_ins ⟨5, j, b⟩ (mC pc fuel (.slice (some ⟨g, 0, none⟩) k sc) r0 r1 r2 r3 (.slice oA on oc) ov e0) w)
  have hbe := Lib.hid (nR_below ⟨5, j, b⟩ (mC pc fuel (.slice (some ⟨g, 0, none⟩) k sc) r0 r1 r2 r3 (.slice oA on oc) ov e0) w)
  have hatb := Lib.hid (atBlk_in own _ bc j _ ((hR.blocks h8).below hbe.out) h8 hj)
  have H8 := Lib.hid h8
  have hl : (own[j]?.getD []).length = 8 := by
    rw [List.getElem?_eq_getElem hj]
    exact h8 _ (List.getElem_mem _)
  have hpu := Lib.hid (fun W => put_any (own[j]?.getD []) hl b top W)
  have hyl : (putC (own[j]?.getD []) b top).length = 8 := by rw [putC_length, hl]
  have hJ := Lib.hid hj
  have hCS := Lib.hid hcs
  have d1 : (j : Int) < (own.length : Int) := by omega
  have d2 : (j : Int) < (bc : Int) := by omega
  have GB := Lib.hid hgb
  have hglt := hgb.lt
  have i8 := infoBlk hl
  have s8 : (bkC (own[j]?.getD [])).size = 8 := by rw [bkC_size, hl]
  have i8y := infoBlk hyl
  have HY := Lib.hid hyl
  generalize putC (own[j]?.getD []) b top = y at *
  generalize own[j]?.getD [] = x at *
  clear hv hR hb0 h8 hgb hcs hj hyl
  go_enter Tryz.func112, Tryz.ntmps112
  go_wp2_with (first
    | (go_at_call 127; go_must ((with_reducible refine hat.out.mono ?_); rintro e w1 ⟨rfl, rfl⟩))
    | (go_at_call 128; go_must ((with_reducible refine hatb.out.mono ?_); rintro e w1 ⟨rfl, hb1⟩; have I1 := Lib.hid (hin.out.below hb1); have X1 := Lib.hid (hbx.out.below hb1); have R1 := Lib.hid (hrs.out.below hb1); have B1 := Lib.hid (bnext hbe.out hb1); have N1 := Lib.hid (Bk.new w1 74 (bkC (List.replicate 8 0))); have L1 := R1.out.lt; rw [bkC_noughts] at N1; clear hb1))
    | (refine wpList_store_row rfl 74 _ _ rfl w1.heap.size (bkC x) rfl rfl 74 _ N1.out i8 (by rw [s8]; rfl) (bkC_all x) ?_))
  obtain ⟨wr, hW⟩ : ∃ W, W = (w1.alloc (.cells #[.int .i64 0, .int .i64 0, .int .i64 0, .int .i64 0, .int .i64 0, .int .i64 0, .int .i64 0, .int .i64 0] 74)).setRow w1.heap.size (bkC x) := ⟨_, rfl⟩
  have hF : ∀ {q : Nat} {t : TypeId} {cs : Array Value}, Bk w1 q t cs → Bk wr q t cs := fun {q t cs} h => by
    rw [hW]
    exact (h.alloc _).farRow (by have := h.lt; omega) _
  have I2 := Lib.hid (hF I1.out)
  have X2 := Lib.hid (hF X1.out)
  have R2 := Lib.hid (hF R1.out)
  have G2 := Lib.hid (hF (GB.out.below B1.out))
  have N2 : Hid (Bk wr w1.heap.size 74 (bkC x)) := Lib.hid (by rw [hW]; exact Bk.setRow N1.out _)
  have BB : Hid (Below w1.heap.size w1 wr) := Lib.hid (by rw [hW]; exact below_row ((Below.refl _ _).alloc (Nat.le_refl _) _) (Nat.le_refl _) _)
  have lb : Hid (∀ X, Below wr.heap.size wr X → (loadVar 74 ⟨w1.heap.size, 0, none⟩).run Tryz.prog X = .ok (.agg (bkC x)) X) := Lib.hid (fun X hX => load_blk hl (N2.out.below hX))
  have la : Hid (∀ X, Below wr.heap.size wr X → X.cell? ⟨w.heap.size, 1, none⟩ = some (.int .i64 (j : Int)) ∧ X.cell? ⟨w.heap.size, 2, none⟩ = some (.int .i64 b)) := Lib.hid (fun X hX => ⟨(I2.out.below hX).three.2.1, (I2.out.below hX).three.2.2.1⟩)
  rw [← hW]
  clear hW hF
  try simp only [List.append_eq, List.cons_append, List.nil_append]
  refine wp_region_saysK 9 (fun x y => Below x.heap.size x y) (fun _ _ _ h k => bnext h k) wr (below_drew1 wr) (by kernel_rfl) (by kernel_rfl) (by kernel_rfl) (by kernel_rfl) (by rfl) ?_
  simp only [List.take_succ_cons, List.take_zero, List.drop_succ_cons, List.drop_zero]
  refine walkK_is ?_ (by exact gs0 rfl) (fun _ => Below.refl _ _) (fun u X hX hd => ?_) ?_
  rotate_left
  · obtain ⟨e1, e2⟩ := la.out X hX
    try simp at hd
    go_simp
    try rfl
  apply walkK_norm
  · first | (simp only [List.nil_append]; rfl) | simp only [List.nil_append]
  refine walkK_is ?_ (by exact gs0 rfl) (fun _ => Below.refl _ _) (fun u X hX hd => ?_) ?_
  rotate_left
  · obtain ⟨e1, e2⟩ := la.out X hX
    try simp at hd
    go_simp
    try rfl
  apply walkK_norm
  · first | (simp only [List.nil_append, List.cons_append]; rfl) | simp only [List.nil_append, List.cons_append]
  refine walkK_is ?_ (by exact gs0 rfl) (fun _ => Below.refl _ _) (fun u X hX hd => ?_) ?_
  rotate_left
  · obtain ⟨e1, e2⟩ := la.out X hX
    try simp at hd
    go_simp
    try rfl
  apply walkK_norm
  · first | (simp only [List.nil_append, List.cons_append]; rfl) | simp only [List.nil_append, List.cons_append]
  refine walkK_is (.agg (bkC x)) (by exact gs0 rfl) (fun _ => Below.refl _ _) (fun u X hX hd => op_load_blk w1.heap.size (lb.out X hX) _ rfl rfl) ?_
  apply walkK_norm
  · first | (simp only [List.nil_append, List.cons_append]; rfl) | simp only [List.nil_append, List.cons_append]
  refine walkK_is ?_ (by exact gs0 rfl) (fun _ => Below.refl _ _) (fun u X hX hd => ?_) ?_
  rotate_left
  · obtain ⟨e1, e2⟩ := la.out X hX
    try simp at hd
    go_simp
    try rfl
  apply walkK_norm
  · first | (simp only [List.nil_append, List.cons_append]; rfl) | simp only [List.nil_append, List.cons_append]
  refine walkK_is ?_ (by exact gs0 rfl) (fun _ => Below.refl _ _) (fun u X hX hd => ?_) ?_
  rotate_left
  · obtain ⟨e1, e2⟩ := la.out X hX
    try simp at hd
    go_simp
    try rfl
  apply walkK_norm
  · first | (simp only [List.nil_append, List.cons_append]; rfl) | simp only [List.nil_append, List.cons_append]
  refine walkK_is ?_ (by exact gs0 rfl) (fun _ => Below.refl _ _) (fun u X hX hd => ?_) ?_
  rotate_left
  · obtain ⟨e1, e2⟩ := la.out X hX
    try simp at hd
    go_simp
    try rfl
  apply walkK_norm
  · first | (simp only [List.nil_append, List.cons_append]; rfl) | simp only [List.nil_append, List.cons_append]
  refine walkK_call (isV (.agg (bkC y))) 129 ?_ (by exact gs0 rfl) (fun _ _ _ _ h => h) (fun u X hX hd => ?_) (fun X hX => ?_) ?_
  rotate_left
  · obtain ⟨e1, e2⟩ := la.out X hX
    try simp at hd
    go_simp
    try rfl
  · exact (hpu.out X).mono fun e X' ⟨he, hb⟩ => ⟨_, he, hb, rfl⟩
  apply walkK_norm
  · first | (simp only [List.nil_append, List.cons_append]; rfl) | simp only [List.nil_append, List.cons_append]
  refine walkK_is ?_ (by exact gs0 rfl) (fun _ => Below.refl _ _) (fun u X hX hd => ?_) ?_
  rotate_left
  · obtain ⟨e1, e2⟩ := la.out X hX
    try simp at hd
    go_simp
    try rfl
  apply walkK_norm
  · first | (simp only [List.nil_append, List.cons_append]; rfl) | simp only [List.nil_append, List.cons_append]
  intro u X hX hsay
  simp only [sayAll, isV] at hsay
  obtain ⟨v0, v1, v2, v3, v4, v5, v6, v7, v8, -⟩ := hsay
  have C2 := G2.out.below hX
  have X3 := Lib.hid (((X2.out.below hX).setCells (h := gb) (by omega) (j * 8) (bkC y).toList))
  have R3 := Lib.hid (((R2.out.below hX).setCells (h := gb) (by omega) (j * 8) (bkC y).toList))
  have M3 := Lib.hid ((((hR'.out.below B1.out).below BB.out).below hX).putB H8.out hJ.out HY.out)
  have B3 : Hid (Rows3 B (.slice (some ⟨g, 0, none⟩) (k + 1 : Nat) sc) (.slice oA on oc) (.slice (some ⟨gb, 0, none⟩) own.length bc) w (X.setCells gb (j * 8) (bkC y).toList)) := Lib.hid ((Rows3.start hB (bnext (bnext B1.out BB.out) hX)).setCells rfl hgB (j * 8) (bkC y).toList)
  have ht := Lib.hid (C2.there (o := j * 8) (n := (bkC y).size) (by rw [bkC_size, HY.out, hCS.out]; have := hJ.out; omega))
  simp only [putAll, Act.put, v0, v1, v2, v3, v4, v5, v6, v7, v8, List.setIfInBounds_toArray, List.set_cons_succ, List.set_cons_zero]
  clear C2 v0 v1 v2 v3 v4 v5 v6 v7 v8
  go_wp2_with (first
    | (refine wpList_store_mid rfl 74 _ _ rfl gb (j * 8) (bkC y) rfl rfl ht.out i8y (bkC_all y) ?_)
    | (with_reducible refine ld_mach (w.heap.size + 1) X3.out _ rfl rfl rfl ?_)
    | (with_reducible refine st_mach (w.heap.size + 1 + 1) R3.out rfl rfl _ _ rfl rfl rfl rfl ?_))
  exact bodyPost_ret (v := .tuple #[.agg (mC pc fuel (.slice (some ⟨g, 0, none⟩) k sc) r0 r1 r2 r3 (.slice oA on oc) ov e0), .slice (some ⟨gb, 0, none⟩) own.length bc]) (res2_mach rfl _ _ (w.heap.size + 1 + 1) _ rfl rfl (Bk.setRow R3.out _)) rfl
    ⟨_, _, _, _, _, _, _, _, _, rfl, M3.out.setRow (hR'.out.off (by omega)) _, B3.out.setRow hB (by omega) _⟩

end
end Go.Proofs.YtpaocjpjlogkgaaGreat

/-
  What machine.Step answers, in whatever memory: of a machine that is over, one without fuel, one that goes on. No conditions but those that stand there.
-/
namespace Go.Proofs.YtpaocjpjlogkgaaGreat
open Go.RowKit
set_option maxRecDepth 100000
attribute [local go_sem] look findAt
attribute [local simp] depsOf isV Region.binds

/-- a command and a machine in their boxes, and a result's block. -/
abbrev sB (cm : Array Value) (cs : Array Value) (w : World) : World := ((w.alloc (.cells cm 56)).alloc (.cells cs 64)).alloc (.cells mZ 64)
theorem sB_below (cm cs : Array Value) (w : World) : Below w.heap.size w (sB cm cs w) := bnext (bnext (below_alloc1 _ _) (below_alloc1 _ _)) (below_alloc1 _ _)
theorem sB_cmd (cm cs : Array Value) (w : World) : Bk (sB cm cs w) w.heap.size 56 cm := ((Bk.new w _ _).alloc _).alloc _
theorem sB_box (cm cs : Array Value) (w : World) : Bk (sB cm cs w) (w.heap.size + 1) 64 cs := by
  have := (Bk.new (w.alloc (.cells cm 56)) 64 cs).alloc (.cells mZ 64)
  rwa [World.size_alloc] at this
theorem sB_res (cm cs : Array Value) (w : World) : Bk (sB cm cs w) (w.heap.size + 1 + 1) 64 mZ := by
  have := Bk.new ((w.alloc (.cells cm 56)).alloc (.cells cs 64)) 64 mZ
  rwa [World.size_alloc, World.size_alloc] at this

/-- a row of one's own. -/
def rowV (B : Nat) (e : TypeId) (size n : Nat) (xs : List Value) : Says := fun v w => ∃ A c, v = .slice A n c ∧ w.ownsRow B e size (.slice A n c) n xs
theorem rowV_keep {B : Nat} {e : TypeId} {size n : Nat} {xs : List Value} (v : Value) (w w' : World) (hb : Below w.heap.size w w') (h : rowV B e size n xs v w) : rowV B e size n xs v w' := by
  obtain ⟨A, c, rfl, ho⟩ := h
  exact ⟨A, c, rfl, own_below ho hb⟩
theorem rowV_lies {B : Nat} {e : TypeId} {size n : Nat} {xs : List Value} (v : Value) (w : World) (h : rowV B e size n xs v w) : liesIn v w := by
  obtain ⟨A, c, rfl, ho⟩ := h
  exact own_lies ho
theorem rowV_call {f : FuncId} {args : Array Value} {w : World} {B : Nat} {e : TypeId} {size n : Nat} {xs : List Value} (hB : B ≤ w.heap.size)
    (h : Calls Tryz.prog f args w fun en w' => ∃ A c, en = .returned (.slice A n c) ∧ w'.ownsRow w.heap.size e size (.slice A n c) n xs ∧ Below w.heap.size w w') :
    Calls Tryz.prog f args w fun en w' => ∃ v, en = .returned v ∧ Below w.heap.size w w' ∧ rowV B e size n xs v w' ∧ newTo v w :=
  h.mono fun _ _ ⟨A, c, he, ho, hb⟩ => ⟨_, he, hb, ⟨A, c, rfl, own_lower ho hB⟩, newTo_own ho⟩

theorem ints_oneC (l : List Int) : ∀ u ∈ l.map (Value.int .i64), u.oneCell' = true := by
  intro u hu
  obtain ⟨x, _, rfl⟩ := List.mem_map.1 hu
  rfl

theorem MRow.min {B : Nat} {w : World} {st ou : List Int} {own : Blks} {sA : Option Addr} {sn sc : Nat} {oA : Option Addr} {on oc : Nat} {bA : Option Addr} {bn bc : Nat} (h : MRow B w st ou own sA sn sc oA on oc bA bn bc) : MIn w st ou own sA sn sc oA on oc bA bn bc := ⟨Sl.own' h.st, Sl.own' h.ou, Sl.own' h.bk⟩

theorem own_offA {w : World} {B n c G : Nat} {e : TypeId} {size : Nat} {A : Option Addr} {xs : List Value} (h : w.ownsRow B e size (.slice A n c) n xs) (hG : G < B) : offA G A n := fun hn b off he => by
  obtain ⟨g, _, rfl, hb, _⟩ := own_pos h hn
  injection he with he
  injection he with he
  omega
theorem MRow.off3 {B G : Nat} {w : World} {st ou : List Int} {own : Blks} {sA : Option Addr} {sn sc : Nat} {oA : Option Addr} {on oc : Nat} {bA : Option Addr} {bn bc : Nat} (h : MRow B w st ou own sA sn sc oA on oc bA bn bc) (hG : G < B) : off3 G sA sn oA on bA bn := ⟨own_offA h.st hG, own_offA h.ou hG, own_offA h.bk hG⟩
theorem Sl.offSet {w w' : World} {size n c G : Nat} {A : Option Addr} {xs : List Value} (h : Sl w size A n c xs) (ho : offA G A n) (hs : w.heap.size ≤ w'.heap.size) (hk : ∀ k, k ≠ G → k < w.heap.size → w'.heap[k]? = w.heap[k]?) : Sl w' size A n c xs :=
  ⟨h.1, h.2.1, h.2.2.1, fun hn => by
    obtain ⟨b, off, e, hb, hc⟩ := h.2.2.2 hn
    exact ⟨b, off, e, by omega, fun j hj => (World.cell?_of_block (hk b (ho hn b off e) hb)).trans (hc j hj)⟩⟩
/-- what a step answers. -/
def SPost (pc fuel : Int) (st : List Int) (r0 r1 r2 r3 : Int) (ou : List Int) (ov : Bool) (e0 : Int) (own : Blks) (w : World) (e : Ending) (w' : World) : Prop :=
  ∃ sA sn sc oA on oc bA bn bc, e = .returned (.tuple #[.agg (mC pc fuel (.slice sA sn sc) r0 r1 r2 r3 (.slice oA on oc) ov e0), .slice bA bn bc]) ∧ MIn w' st ou own sA sn sc oA on oc bA bn bc ∧ Below w.heap.size w w' ∧ ∀ G, G < w.heap.size → off3 G sA sn oA on bA bn

section
variable (ra : Option Addr) (nr rc : Nat) (wa : Option Addr) (nw wc : Nat) (aa : Option Addr) (na ac : Nat) (cf : Int) (ca : Option Addr) (nc cc : Nat)
variable (pc fuel : Int) (sA : Option Addr) (sn sc : Nat) (r0 r1 r2 r3 : Int) (oA : Option Addr) (on oc : Nat) (ov : Bool) (e0 : Int) (bA : Option Addr) (bn bc : Nat)

set_option maxHeartbeats 2000000 in
theorem step_ov (st ou : List Int) (own : Blks) (w : World) (hM : MIn w st ou own sA sn sc oA on oc bA bn bc) (hs : sn ≤ 1000) (ho : on ≤ 1000) (hbn : bn ≤ 1000) :
    Calls Tryz.prog 44 #[cmV ra nr rc wa nw wc aa na ac cf ca nc cc, .agg (mC pc fuel (.slice sA sn sc) r0 r1 r2 r3 (.slice oA on oc) true e0), .slice bA bn bc] w (SPost pc fuel st r0 r1 r2 r3 ou true e0 own w) := by
  have cl1 := Lib.hid (fun (W : World) (hW : Below w.heap.size w W) => rowV_call (B := w.heap.size) hW.size (clone_ints sA sn sc _ W (hM.st.below hW) hs (ints_oneC st)))
  have cl2 := Lib.hid (fun (W : World) (hW : Below w.heap.size w W) => rowV_call (B := w.heap.size) hW.size (clone_ints oA on oc _ W (hM.ou.below hW) ho (ints_oneC ou)))
  have cl3 := Lib.hid (fun (W : World) (hW : Below w.heap.size w W) => rowV_call (B := w.heap.size) hW.size (clone_blks bA bn bc _ W (hM.bk.below hW) hbn (blksW_one own)))
  obtain ⟨wr, hW⟩ : ∃ W, W = ((w.alloc (.cells #[.slice ra nr rc, .slice wa nw wc, .slice aa na ac, .int .i64 cf, .slice ca nc cc] 56)).alloc (.cells (mC pc fuel (.slice sA sn sc) r0 r1 r2 r3 (.slice oA on oc) true e0) 64)).alloc (.cells mZ 64) := ⟨_, rfl⟩
  have B0 : Hid (Below w.heap.size w wr) := Lib.hid (by rw [hW]; exact sB_below _ _ _)
  have C0 : Hid (Bk wr w.heap.size 56 #[.slice ra nr rc, .slice wa nw wc, .slice aa na ac, .int .i64 cf, .slice ca nc cc]) := Lib.hid (by rw [hW]; exact sB_cmd _ _ _)
  have X0 : Hid (Bk wr (w.heap.size + 1) 64 (mC pc fuel (.slice sA sn sc) r0 r1 r2 r3 (.slice oA on oc) true e0)) := Lib.hid (by rw [hW]; exact sB_box _ _ _)
  have R0 : Hid (Bk wr (w.heap.size + 1 + 1) 64 mZ) := Lib.hid (by rw [hW]; exact sB_res _ _ _)
  have la : Hid (∀ X, Below wr.heap.size wr X → X.cell? ⟨w.heap.size + 1, 2, none⟩ = some (.slice sA sn sc) ∧ X.cell? ⟨w.heap.size + 1, 7, none⟩ = some (.slice oA on oc)) := Lib.hid (fun X hX => ⟨(X0.out.below hX).cell 2, (X0.out.below hX).cell 7⟩)
  clear hM
  go_enter Tryz.func44, Tryz.ntmps44
  go_wp2
  rw [← hW]
  clear hW
  try simp only [List.append_eq, List.cons_append, List.nil_append]
  refine wp_region_saysA 9 (fun x y => Below x.heap.size x y) (fun _ _ _ h k => bnext h k) (fun i => i == 2 || i == 5 || i == 7) wr (below_drew1 wr) (by kernel_rfl) (by kernel_rfl) (by kernel_rfl) (by kernel_rfl) (by rfl) ?_
  simp only [List.take_succ_cons, List.take_zero, List.drop_succ_cons, List.drop_zero]
  refine walkA_is ?_ rfl (fun _ => Below.refl _ _) (fun u X hX hd => ?_) ?_
  rotate_left
  · obtain ⟨e1, e2⟩ := la.out X hX
    try simp at hd
    go_simp
    try rfl
  apply walkA_norm
  · first | (simp only [List.nil_append]; rfl) | simp only [List.nil_append]
  refine walkA_is ?_ rfl (fun _ => Below.refl _ _) (fun u X hX hd => ?_) ?_
  rotate_left
  · obtain ⟨e1, e2⟩ := la.out X hX
    try simp at hd
    go_simp
    try rfl
  apply walkA_norm
  · first | (simp only [List.nil_append, List.cons_append]; rfl) | simp only [List.nil_append, List.cons_append]
  refine walkA_row (rowV w.heap.size 3 1 sn (st.map (.int .i64))) 77 ?_ (fun v x y hb h => rowV_keep v x y hb h) (fun v x h => rowV_lies v x h) (fun u X hX hd => ?_) (fun X hX => ?_) ?_
  rotate_left
  · obtain ⟨e1, e2⟩ := la.out X hX
    try simp at hd
    go_simp
    try rfl
  · exact cl1.out X (bnext B0.out hX)
  apply walkA_norm
  · first | (simp only [List.nil_append, List.cons_append]; rfl) | simp only [List.nil_append, List.cons_append]
  refine walkA_is ?_ rfl (fun _ => Below.refl _ _) (fun u X hX hd => ?_) ?_
  rotate_left
  · obtain ⟨e1, e2⟩ := la.out X hX
    try simp at hd
    go_simp
    try rfl
  apply walkA_norm
  · first | (simp only [List.nil_append, List.cons_append]; rfl) | simp only [List.nil_append, List.cons_append]
  refine walkA_is ?_ rfl (fun _ => Below.refl _ _) (fun u X hX hd => ?_) ?_
  rotate_left
  · obtain ⟨e1, e2⟩ := la.out X hX
    try simp at hd
    go_simp
    try rfl
  apply walkA_norm
  · first | (simp only [List.nil_append, List.cons_append]; rfl) | simp only [List.nil_append, List.cons_append]
  refine walkA_row (rowV w.heap.size 3 1 on (ou.map (.int .i64))) 77 ?_ (fun v x y hb h => rowV_keep v x y hb h) (fun v x h => rowV_lies v x h) (fun u X hX hd => ?_) (fun X hX => ?_) ?_
  rotate_left
  · obtain ⟨e1, e2⟩ := la.out X hX
    try simp at hd
    go_simp
    try rfl
  · exact cl2.out X (bnext B0.out hX)
  apply walkA_norm
  · first | (simp only [List.nil_append, List.cons_append]; rfl) | simp only [List.nil_append, List.cons_append]
  refine walkA_is ?_ rfl (fun _ => Below.refl _ _) (fun u X hX hd => ?_) ?_
  rotate_left
  · obtain ⟨e1, e2⟩ := la.out X hX
    try simp at hd
    go_simp
    try rfl
  apply walkA_norm
  · first | (simp only [List.nil_append, List.cons_append]; rfl) | simp only [List.nil_append, List.cons_append]
  refine walkA_row (rowV w.heap.size 74 8 bn (blksW own)) 78 ?_ (fun v x y hb h => rowV_keep v x y hb h) (fun v x h => rowV_lies v x h) (fun u X hX hd => ?_) (fun X hX => ?_) ?_
  rotate_left
  · obtain ⟨e1, e2⟩ := la.out X hX
    try simp at hd
    go_simp
    try rfl
  · exact cl3.out X (bnext B0.out hX)
  apply walkA_norm
  · first | (simp only [List.nil_append, List.cons_append]; rfl) | simp only [List.nil_append, List.cons_append]
  refine walkA_is ?_ rfl (fun _ => Below.refl _ _) (fun u X hX hd => ?_) ?_
  rotate_left
  · obtain ⟨e1, e2⟩ := la.out X hX
    try simp at hd
    go_simp
    try rfl
  apply walkA_norm
  · first | (simp only [List.nil_append, List.cons_append]; rfl) | simp only [List.nil_append, List.cons_append]
  intro u X hX hsay htw
  simp only [sayAll, isV] at hsay
  obtain ⟨v0, v1, ⟨sA', sc', v2, hs2⟩, v3, v4, ⟨oA', oc', v5, ho2⟩, v6, ⟨bA', bc', v7, hb2⟩, v8, -⟩ := hsay
  have htw2 := htw 2 5 (by decide) (by decide) (by decide) rfl rfl
  rw [v2, v5] at htw2
  have M1 : Hid (MRow w.heap.size X st ou own sA' sn sc' oA' on oc' bA' bn bc') := Lib.hid ⟨hs2, ho2, hb2, htw2⟩
  have X1 := Lib.hid (X0.out.below hX)
  have hof := Lib.hid (M1.out.offM X1.out)
  have X2 : Hid (Bk ((X.setCell ⟨w.heap.size + 1, 2, none⟩ (.slice sA' sn sc')).setCell ⟨w.heap.size + 1, 7, none⟩ (.slice oA' on oc')) (w.heap.size + 1) 64 (mC pc fuel (.slice sA' sn sc') r0 r1 r2 r3 (.slice oA' on oc') true e0)) := Lib.hid (by simpa using (X1.out.set 2 (.slice sA' sn sc')).set 7 (.slice oA' on oc'))
  have R2 := Lib.hid (((R0.out.below hX).far (p := ⟨w.heap.size + 1, 2, none⟩) (by simp) (.slice sA' sn sc')).far (p := ⟨w.heap.size + 1, 7, none⟩) (by simp) (.slice oA' on oc'))
  have C2 := Lib.hid (((C0.out.below hX).far (p := ⟨w.heap.size + 1, 2, none⟩) (by simp) (.slice sA' sn sc')).far (p := ⟨w.heap.size + 1, 7, none⟩) (by simp) (.slice oA' on oc'))
  have M2 := Lib.hid ((M1.out.set hof.out 2 (.slice sA' sn sc')).set hof.out 7 (.slice oA' on oc'))
  have B2 := Lib.hid (((bnext B0.out hX).setCell (p := ⟨w.heap.size + 1, 2, none⟩) (by simp) (.slice sA' sn sc')).setCell (p := ⟨w.heap.size + 1, 7, none⟩) (by simp) (.slice oA' on oc'))
  have z0 := X1.out.cell 2
  have z1 := X1.out.cell 7
  have z2 := X1.out.cell 8
  have z3 := X1.out.cell 0
  have z4 := X1.out.cell 1
  have zf := X1.out.frozen
  have zl := X1.out.lt
  simp only [List.getElem?_toArray, List.getElem?_cons_zero, List.getElem?_cons_succ] at z0 z1 z2 z3 z4
  simp only [putAll, Act.put, v0, v1, v2, v3, v4, v5, v6, v7, v8, List.setIfInBounds_toArray, List.set_cons_succ, List.set_cons_zero]
  clear hs2 ho2 hb2 htw htw2 v0 v1 v2 v3 v4 v5 v6 v7 v8 cl1 cl2 cl3 la
  go_wp2_with (first
    | (with_reducible refine ld_mach (w.heap.size + 1) X2.out _ rfl rfl rfl ?_)
    | (with_reducible refine st_mach (w.heap.size + 1 + 1) R2.out rfl rfl _ _ rfl rfl rfl rfl ?_))
  exact bodyPost_ret (v := .tuple #[.agg (mC pc fuel (.slice sA' sn sc') r0 r1 r2 r3 (.slice oA' on oc') true e0), .slice bA' bn bc']) (res2_mach rfl _ _ (w.heap.size + 1 + 1) _ rfl rfl (Bk.setRow R2.out _)) rfl
    ⟨_, _, _, _, _, _, _, _, _, rfl, (M2.out.setRow (M2.out.offM R2.out) _).min, below_row B2.out (by omega) _, fun G hG => M2.out.off3 hG⟩

set_option maxHeartbeats 2000000 in
theorem step_nofuel (st ou : List Int) (own : Blks) (w : World) (hM : MIn w st ou own sA sn sc oA on oc bA bn bc) (hs : sn ≤ 1000) (ho : on ≤ 1000) (hbn : bn ≤ 1000) (hf : fuel < 1) :
    Calls Tryz.prog 44 #[cmV ra nr rc wa nw wc aa na ac cf ca nc cc, .agg (mC pc fuel (.slice sA sn sc) r0 r1 r2 r3 (.slice oA on oc) false e0), .slice bA bn bc] w (SPost pc fuel st r0 r1 r2 r3 [] true 11 own w) := by
  have hov := Lib.hid (fun sA sc oA oc W => over_bad pc fuel sA sn sc r0 r1 r2 r3 oA on oc false e0 11 (by decide) W)
  have cl1 := Lib.hid (fun (W : World) (hW : Below w.heap.size w W) => rowV_call (B := w.heap.size) hW.size (clone_ints sA sn sc _ W (hM.st.below hW) hs (ints_oneC st)))
  have cl2 := Lib.hid (fun (W : World) (hW : Below w.heap.size w W) => rowV_call (B := w.heap.size) hW.size (clone_ints oA on oc _ W (hM.ou.below hW) ho (ints_oneC ou)))
  have cl3 := Lib.hid (fun (W : World) (hW : Below w.heap.size w W) => rowV_call (B := w.heap.size) hW.size (clone_blks bA bn bc _ W (hM.bk.below hW) hbn (blksW_one own)))
  obtain ⟨wr, hW⟩ : ∃ W, W = ((w.alloc (.cells #[.slice ra nr rc, .slice wa nw wc, .slice aa na ac, .int .i64 cf, .slice ca nc cc] 56)).alloc (.cells (mC pc fuel (.slice sA sn sc) r0 r1 r2 r3 (.slice oA on oc) false e0) 64)).alloc (.cells mZ 64) := ⟨_, rfl⟩
  have B0 : Hid (Below w.heap.size w wr) := Lib.hid (by rw [hW]; exact sB_below _ _ _)
  have C0 : Hid (Bk wr w.heap.size 56 #[.slice ra nr rc, .slice wa nw wc, .slice aa na ac, .int .i64 cf, .slice ca nc cc]) := Lib.hid (by rw [hW]; exact sB_cmd _ _ _)
  have X0 : Hid (Bk wr (w.heap.size + 1) 64 (mC pc fuel (.slice sA sn sc) r0 r1 r2 r3 (.slice oA on oc) false e0)) := Lib.hid (by rw [hW]; exact sB_box _ _ _)
  have R0 : Hid (Bk wr (w.heap.size + 1 + 1) 64 mZ) := Lib.hid (by rw [hW]; exact sB_res _ _ _)
  have la : Hid (∀ X, Below wr.heap.size wr X → X.cell? ⟨w.heap.size + 1, 2, none⟩ = some (.slice sA sn sc) ∧ X.cell? ⟨w.heap.size + 1, 7, none⟩ = some (.slice oA on oc)) := Lib.hid (fun X hX => ⟨(X0.out.below hX).cell 2, (X0.out.below hX).cell 7⟩)
  clear hM
  go_enter Tryz.func44, Tryz.ntmps44
  go_wp2
  rw [← hW]
  clear hW
  try simp only [List.append_eq, List.cons_append, List.nil_append]
  refine wp_region_saysA 9 (fun x y => Below x.heap.size x y) (fun _ _ _ h k => bnext h k) (fun i => i == 2 || i == 5 || i == 7) wr (below_drew1 wr) (by kernel_rfl) (by kernel_rfl) (by kernel_rfl) (by kernel_rfl) (by rfl) ?_
  simp only [List.take_succ_cons, List.take_zero, List.drop_succ_cons, List.drop_zero]
  refine walkA_is ?_ rfl (fun _ => Below.refl _ _) (fun u X hX hd => ?_) ?_
  rotate_left
  · obtain ⟨e1, e2⟩ := la.out X hX
    try simp at hd
    go_simp
    try rfl
  apply walkA_norm
  · first | (simp only [List.nil_append]; rfl) | simp only [List.nil_append]
  refine walkA_is ?_ rfl (fun _ => Below.refl _ _) (fun u X hX hd => ?_) ?_
  rotate_left
  · obtain ⟨e1, e2⟩ := la.out X hX
    try simp at hd
    go_simp
    try rfl
  apply walkA_norm
  · first | (simp only [List.nil_append, List.cons_append]; rfl) | simp only [List.nil_append, List.cons_append]
  refine walkA_row (rowV w.heap.size 3 1 sn (st.map (.int .i64))) 77 ?_ (fun v x y hb h => rowV_keep v x y hb h) (fun v x h => rowV_lies v x h) (fun u X hX hd => ?_) (fun X hX => ?_) ?_
  rotate_left
  · obtain ⟨e1, e2⟩ := la.out X hX
    try simp at hd
    go_simp
    try rfl
  · exact cl1.out X (bnext B0.out hX)
  apply walkA_norm
  · first | (simp only [List.nil_append, List.cons_append]; rfl) | simp only [List.nil_append, List.cons_append]
  refine walkA_is ?_ rfl (fun _ => Below.refl _ _) (fun u X hX hd => ?_) ?_
  rotate_left
  · obtain ⟨e1, e2⟩ := la.out X hX
    try simp at hd
    go_simp
    try rfl
  apply walkA_norm
  · first | (simp only [List.nil_append, List.cons_append]; rfl) | simp only [List.nil_append, List.cons_append]
  refine walkA_is ?_ rfl (fun _ => Below.refl _ _) (fun u X hX hd => ?_) ?_
  rotate_left
  · obtain ⟨e1, e2⟩ := la.out X hX
    try simp at hd
    go_simp
    try rfl
  apply walkA_norm
  · first | (simp only [List.nil_append, List.cons_append]; rfl) | simp only [List.nil_append, List.cons_append]
  refine walkA_row (rowV w.heap.size 3 1 on (ou.map (.int .i64))) 77 ?_ (fun v x y hb h => rowV_keep v x y hb h) (fun v x h => rowV_lies v x h) (fun u X hX hd => ?_) (fun X hX => ?_) ?_
  rotate_left
  · obtain ⟨e1, e2⟩ := la.out X hX
    try simp at hd
    go_simp
    try rfl
  · exact cl2.out X (bnext B0.out hX)
  apply walkA_norm
  · first | (simp only [List.nil_append, List.cons_append]; rfl) | simp only [List.nil_append, List.cons_append]
  refine walkA_is ?_ rfl (fun _ => Below.refl _ _) (fun u X hX hd => ?_) ?_
  rotate_left
  · obtain ⟨e1, e2⟩ := la.out X hX
    try simp at hd
    go_simp
    try rfl
  apply walkA_norm
  · first | (simp only [List.nil_append, List.cons_append]; rfl) | simp only [List.nil_append, List.cons_append]
  refine walkA_row (rowV w.heap.size 74 8 bn (blksW own)) 78 ?_ (fun v x y hb h => rowV_keep v x y hb h) (fun v x h => rowV_lies v x h) (fun u X hX hd => ?_) (fun X hX => ?_) ?_
  rotate_left
  · obtain ⟨e1, e2⟩ := la.out X hX
    try simp at hd
    go_simp
    try rfl
  · exact cl3.out X (bnext B0.out hX)
  apply walkA_norm
  · first | (simp only [List.nil_append, List.cons_append]; rfl) | simp only [List.nil_append, List.cons_append]
  refine walkA_is ?_ rfl (fun _ => Below.refl _ _) (fun u X hX hd => ?_) ?_
  rotate_left
  · obtain ⟨e1, e2⟩ := la.out X hX
    try simp at hd
    go_simp
    try rfl
  apply walkA_norm
  · first | (simp only [List.nil_append, List.cons_append]; rfl) | simp only [List.nil_append, List.cons_append]
  intro u X hX hsay htw
  simp only [sayAll, isV] at hsay
  obtain ⟨v0, v1, ⟨sA', sc', v2, hs2⟩, v3, v4, ⟨oA', oc', v5, ho2⟩, v6, ⟨bA', bc', v7, hb2⟩, v8, -⟩ := hsay
  have htw2 := htw 2 5 (by decide) (by decide) (by decide) rfl rfl
  rw [v2, v5] at htw2
  have M1 : Hid (MRow w.heap.size X st ou own sA' sn sc' oA' on oc' bA' bn bc') := Lib.hid ⟨hs2, ho2, hb2, htw2⟩
  have X1 := Lib.hid (X0.out.below hX)
  have hof := Lib.hid (M1.out.offM X1.out)
  have X2 : Hid (Bk ((X.setCell ⟨w.heap.size + 1, 2, none⟩ (.slice sA' sn sc')).setCell ⟨w.heap.size + 1, 7, none⟩ (.slice oA' on oc')) (w.heap.size + 1) 64 (mC pc fuel (.slice sA' sn sc') r0 r1 r2 r3 (.slice oA' on oc') false e0)) := Lib.hid (by simpa using (X1.out.set 2 (.slice sA' sn sc')).set 7 (.slice oA' on oc'))
  have R2 := Lib.hid (((R0.out.below hX).far (p := ⟨w.heap.size + 1, 2, none⟩) (by simp) (.slice sA' sn sc')).far (p := ⟨w.heap.size + 1, 7, none⟩) (by simp) (.slice oA' on oc'))
  have C2 := Lib.hid (((C0.out.below hX).far (p := ⟨w.heap.size + 1, 2, none⟩) (by simp) (.slice sA' sn sc')).far (p := ⟨w.heap.size + 1, 7, none⟩) (by simp) (.slice oA' on oc'))
  have M2 := Lib.hid ((M1.out.set hof.out 2 (.slice sA' sn sc')).set hof.out 7 (.slice oA' on oc'))
  have B2 := Lib.hid (((bnext B0.out hX).setCell (p := ⟨w.heap.size + 1, 2, none⟩) (by simp) (.slice sA' sn sc')).setCell (p := ⟨w.heap.size + 1, 7, none⟩) (by simp) (.slice oA' on oc'))
  have z0 := X1.out.cell 2
  have z1 := X1.out.cell 7
  have z2 := X1.out.cell 8
  have z3 := X1.out.cell 0
  have z4 := X1.out.cell 1
  have zf := X1.out.frozen
  have zl := X1.out.lt
  simp only [List.getElem?_toArray, List.getElem?_cons_zero, List.getElem?_cons_succ] at z0 z1 z2 z3 z4
  simp only [putAll, Act.put, v0, v1, v2, v3, v4, v5, v6, v7, v8, List.setIfInBounds_toArray, List.set_cons_succ, List.set_cons_zero]
  clear hs2 ho2 hb2 htw htw2 v0 v1 v2 v3 v4 v5 v6 v7 v8 cl1 cl2 cl3 la
  go_wp2_with (first
    | (with_reducible refine ld_mach (w.heap.size + 1) X2.out _ rfl rfl rfl ?_)
    | (go_at_call 79; go_must ((with_reducible refine (hov.out _ _ _ _ _).mono ?_); rintro e w1 ⟨rfl, hb1⟩; have R3 := Lib.hid (R2.out.below hb1); have M3 := Lib.hid (M2.out.below hb1).mute; have B3 := Lib.hid (bnext B2.out hb1); clear hb1))
    | (with_reducible refine st_mach (w.heap.size + 1 + 1) R3.out rfl rfl _ _ rfl rfl rfl rfl ?_))
  exact bodyPost_ret (v := .tuple #[.agg (mC pc fuel (.slice sA' sn sc') r0 r1 r2 r3 (.slice none 0 0) true 11), .slice bA' bn bc']) (res2_mach rfl _ _ (w.heap.size + 1 + 1) _ rfl rfl (Bk.setRow R3.out _)) rfl
    ⟨_, _, _, _, _, _, _, _, _, rfl, (M3.out.setRow (M3.out.offM R3.out) _).min, below_row B3.out (by omega) _, fun G hG => M3.out.off3 hG⟩

set_option maxHeartbeats 2000000 in
theorem step_go (st ou : List Int) (own : Blks) (w : World) (hM : MIn w st ou own sA sn sc oA on oc bA bn bc) (hs : sn ≤ 1000) (ho : on ≤ 1000) (hbn : bn ≤ 1000) (hf : 1 ≤ fuel ∧ fuel ≤ 1000) (code : List Ins) (hcode : Inss w ca cc code) (hnc : code.length = nc) (i : Nat) (hi : i < nc) (hpc : pc = i) (hnc2 : nc ≤ 1000)
    (pc' fuel' : Int) (st' ou' : List Int) (q0 q1 q2 q3 : Int) (ov' : Bool) (e' : Int) (own' : Blks)
    (hbh : ∀ (W : World) (sA' : Option Addr) (sc' : Nat) (oA' : Option Addr) (oc' : Nat) (bA' : Option Addr) (bc' : Nat), Below w.heap.size w W → MRow w.heap.size W st ou own sA' sn sc' oA' on oc' bA' bn bc' →
      Calls Tryz.prog 81 #[.agg #[.int .i64 (insAt code i).op, .int .i64 (insAt code i).a, .int .i64 (insAt code i).b], .slice aa na ac, .agg (mC ((i : Int) + 1) (fuel - 1) (.slice sA' sn sc') r0 r1 r2 r3 (.slice oA' on oc') false e0), .slice bA' bn bc'] W
        (StepPost w.heap.size (.slice sA' sn sc') (.slice oA' on oc') (.slice bA' bn bc') pc' fuel' st' q0 q1 q2 q3 ou' ov' e' own' W)) :
    Calls Tryz.prog 44 #[cmV ra nr rc wa nw wc aa na ac cf ca nc cc, .agg (mC pc fuel (.slice sA sn sc) r0 r1 r2 r3 (.slice oA on oc) false e0), .slice bA bn bc] w (SPost pc' fuel' st' q0 q1 q2 q3 ou' ov' e' own' w) := by
  subst hpc
  subst hnc
  have hat := Lib.hid (fun (W : World) (hW : Below w.heap.size w W) => atIns_in code ca cc i W (hcode.below hW) hi)
  have HB := Lib.hid hbh
  generalize insAt code i = x at *
  generalize code.length = nc at *
  clear hcode hbh
  have cl1 := Lib.hid (fun (W : World) (hW : Below w.heap.size w W) => rowV_call (B := w.heap.size) hW.size (clone_ints sA sn sc _ W (hM.st.below hW) hs (ints_oneC st)))
  have cl2 := Lib.hid (fun (W : World) (hW : Below w.heap.size w W) => rowV_call (B := w.heap.size) hW.size (clone_ints oA on oc _ W (hM.ou.below hW) ho (ints_oneC ou)))
  have cl3 := Lib.hid (fun (W : World) (hW : Below w.heap.size w W) => rowV_call (B := w.heap.size) hW.size (clone_blks bA bn bc _ W (hM.bk.below hW) hbn (blksW_one own)))
  obtain ⟨wr, hW⟩ : ∃ W, W = ((w.alloc (.cells #[.slice ra nr rc, .slice wa nw wc, .slice aa na ac, .int .i64 cf, .slice ca nc cc] 56)).alloc (.cells (mC (i : Int) fuel (.slice sA sn sc) r0 r1 r2 r3 (.slice oA on oc) false e0) 64)).alloc (.cells mZ 64) := ⟨_, rfl⟩
  have B0 : Hid (Below w.heap.size w wr) := Lib.hid (by rw [hW]; exact sB_below _ _ _)
  have C0 : Hid (Bk wr w.heap.size 56 #[.slice ra nr rc, .slice wa nw wc, .slice aa na ac, .int .i64 cf, .slice ca nc cc]) := Lib.hid (by rw [hW]; exact sB_cmd _ _ _)
  have X0 : Hid (Bk wr (w.heap.size + 1) 64 (mC (i : Int) fuel (.slice sA sn sc) r0 r1 r2 r3 (.slice oA on oc) false e0)) := Lib.hid (by rw [hW]; exact sB_box _ _ _)
  have R0 : Hid (Bk wr (w.heap.size + 1 + 1) 64 mZ) := Lib.hid (by rw [hW]; exact sB_res _ _ _)
  have la : Hid (∀ X, Below wr.heap.size wr X → X.cell? ⟨w.heap.size + 1, 2, none⟩ = some (.slice sA sn sc) ∧ X.cell? ⟨w.heap.size + 1, 7, none⟩ = some (.slice oA on oc)) := Lib.hid (fun X hX => ⟨(X0.out.below hX).cell 2, (X0.out.below hX).cell 7⟩)
  clear hM
  go_enter Tryz.func44, Tryz.ntmps44
  go_wp2
  rw [← hW]
  clear hW
  try simp only [List.append_eq, List.cons_append, List.nil_append]
  refine wp_region_saysA 9 (fun x y => Below x.heap.size x y) (fun _ _ _ h k => bnext h k) (fun i => i == 2 || i == 5 || i == 7) wr (below_drew1 wr) (by kernel_rfl) (by kernel_rfl) (by kernel_rfl) (by kernel_rfl) (by rfl) ?_
  simp only [List.take_succ_cons, List.take_zero, List.drop_succ_cons, List.drop_zero]
  refine walkA_is ?_ rfl (fun _ => Below.refl _ _) (fun u X hX hd => ?_) ?_
  rotate_left
  · obtain ⟨e1, e2⟩ := la.out X hX
    try simp at hd
    go_simp
    try rfl
  apply walkA_norm
  · first | (simp only [List.nil_append]; rfl) | simp only [List.nil_append]
  refine walkA_is ?_ rfl (fun _ => Below.refl _ _) (fun u X hX hd => ?_) ?_
  rotate_left
  · obtain ⟨e1, e2⟩ := la.out X hX
    try simp at hd
    go_simp
    try rfl
  apply walkA_norm
  · first | (simp only [List.nil_append, List.cons_append]; rfl) | simp only [List.nil_append, List.cons_append]
  refine walkA_row (rowV w.heap.size 3 1 sn (st.map (.int .i64))) 77 ?_ (fun v x y hb h => rowV_keep v x y hb h) (fun v x h => rowV_lies v x h) (fun u X hX hd => ?_) (fun X hX => ?_) ?_
  rotate_left
  · obtain ⟨e1, e2⟩ := la.out X hX
    try simp at hd
    go_simp
    try rfl
  · exact cl1.out X (bnext B0.out hX)
  apply walkA_norm
  · first | (simp only [List.nil_append, List.cons_append]; rfl) | simp only [List.nil_append, List.cons_append]
  refine walkA_is ?_ rfl (fun _ => Below.refl _ _) (fun u X hX hd => ?_) ?_
  rotate_left
  · obtain ⟨e1, e2⟩ := la.out X hX
    try simp at hd
    go_simp
    try rfl
  apply walkA_norm
  · first | (simp only [List.nil_append, List.cons_append]; rfl) | simp only [List.nil_append, List.cons_append]
  refine walkA_is ?_ rfl (fun _ => Below.refl _ _) (fun u X hX hd => ?_) ?_
  rotate_left
  · obtain ⟨e1, e2⟩ := la.out X hX
    try simp at hd
    go_simp
    try rfl
  apply walkA_norm
  · first | (simp only [List.nil_append, List.cons_append]; rfl) | simp only [List.nil_append, List.cons_append]
  refine walkA_row (rowV w.heap.size 3 1 on (ou.map (.int .i64))) 77 ?_ (fun v x y hb h => rowV_keep v x y hb h) (fun v x h => rowV_lies v x h) (fun u X hX hd => ?_) (fun X hX => ?_) ?_
  rotate_left
  · obtain ⟨e1, e2⟩ := la.out X hX
    try simp at hd
    go_simp
    try rfl
  · exact cl2.out X (bnext B0.out hX)
  apply walkA_norm
  · first | (simp only [List.nil_append, List.cons_append]; rfl) | simp only [List.nil_append, List.cons_append]
  refine walkA_is ?_ rfl (fun _ => Below.refl _ _) (fun u X hX hd => ?_) ?_
  rotate_left
  · obtain ⟨e1, e2⟩ := la.out X hX
    try simp at hd
    go_simp
    try rfl
  apply walkA_norm
  · first | (simp only [List.nil_append, List.cons_append]; rfl) | simp only [List.nil_append, List.cons_append]
  refine walkA_row (rowV w.heap.size 74 8 bn (blksW own)) 78 ?_ (fun v x y hb h => rowV_keep v x y hb h) (fun v x h => rowV_lies v x h) (fun u X hX hd => ?_) (fun X hX => ?_) ?_
  rotate_left
  · obtain ⟨e1, e2⟩ := la.out X hX
    try simp at hd
    go_simp
    try rfl
  · exact cl3.out X (bnext B0.out hX)
  apply walkA_norm
  · first | (simp only [List.nil_append, List.cons_append]; rfl) | simp only [List.nil_append, List.cons_append]
  refine walkA_is ?_ rfl (fun _ => Below.refl _ _) (fun u X hX hd => ?_) ?_
  rotate_left
  · obtain ⟨e1, e2⟩ := la.out X hX
    try simp at hd
    go_simp
    try rfl
  apply walkA_norm
  · first | (simp only [List.nil_append, List.cons_append]; rfl) | simp only [List.nil_append, List.cons_append]
  intro u X hX hsay htw
  simp only [sayAll, isV] at hsay
  obtain ⟨v0, v1, ⟨sA', sc', v2, hs2⟩, v3, v4, ⟨oA', oc', v5, ho2⟩, v6, ⟨bA', bc', v7, hb2⟩, v8, -⟩ := hsay
  have htw2 := htw 2 5 (by decide) (by decide) (by decide) rfl rfl
  rw [v2, v5] at htw2
  have M1 : Hid (MRow w.heap.size X st ou own sA' sn sc' oA' on oc' bA' bn bc') := Lib.hid ⟨hs2, ho2, hb2, htw2⟩
  have X1 := Lib.hid (X0.out.below hX)
  have hof := Lib.hid (M1.out.offM X1.out)
  have X2 : Hid (Bk ((X.setCell ⟨w.heap.size + 1, 2, none⟩ (.slice sA' sn sc')).setCell ⟨w.heap.size + 1, 7, none⟩ (.slice oA' on oc')) (w.heap.size + 1) 64 (mC (i : Int) fuel (.slice sA' sn sc') r0 r1 r2 r3 (.slice oA' on oc') false e0)) := Lib.hid (by simpa using (X1.out.set 2 (.slice sA' sn sc')).set 7 (.slice oA' on oc'))
  have R2 := Lib.hid (((R0.out.below hX).far (p := ⟨w.heap.size + 1, 2, none⟩) (by simp) (.slice sA' sn sc')).far (p := ⟨w.heap.size + 1, 7, none⟩) (by simp) (.slice oA' on oc'))
  have C2 := Lib.hid (((C0.out.below hX).far (p := ⟨w.heap.size + 1, 2, none⟩) (by simp) (.slice sA' sn sc')).far (p := ⟨w.heap.size + 1, 7, none⟩) (by simp) (.slice oA' on oc'))
  have M2 := Lib.hid ((M1.out.set hof.out 2 (.slice sA' sn sc')).set hof.out 7 (.slice oA' on oc'))
  have B2 := Lib.hid (((bnext B0.out hX).setCell (p := ⟨w.heap.size + 1, 2, none⟩) (by simp) (.slice sA' sn sc')).setCell (p := ⟨w.heap.size + 1, 7, none⟩) (by simp) (.slice oA' on oc'))
  have z0 := X1.out.cell 2
  have z1 := X1.out.cell 7
  have z2 := X1.out.cell 8
  have z3 := X1.out.cell 0
  have z4 := X1.out.cell 1
  have zf := X1.out.frozen
  have zl := X1.out.lt
  simp only [List.getElem?_toArray, List.getElem?_cons_zero, List.getElem?_cons_succ] at z0 z1 z2 z3 z4
  simp only [putAll, Act.put, v0, v1, v2, v3, v4, v5, v6, v7, v8, List.setIfInBounds_toArray, List.set_cons_succ, List.set_cons_zero]
  clear hs2 ho2 hb2 htw htw2 v0 v1 v2 v3 v4 v5 v6 v7 v8 cl1 cl2 cl3 la
  obtain ⟨y0, y1, y2, y3, y4, yf⟩ := C2.out.cmd
  have yl := C2.out.lt
  have H2 := Lib.hid (hat.out _ B2.out)
  clear hat
  go_wp2_with (first
    | (go_at_call 80; go_must ((with_reducible refine H2.out.mono ?_); rintro e w1 ⟨rfl, hb1⟩; have XX := X2.out.below hb1; have RR := R2.out.below hb1; have MM := M2.out.below hb1; have hof3 := MM.offM XX; have X4 : Hid (Bk (((w1.setCell ⟨w.heap.size + 1, 1, none⟩ (.int .i64 (fuel - 1))).setCell ⟨w.heap.size + 1, 0, none⟩ (.int .i64 ((i : Int) + 1))).alloc (IObj x)) (w.heap.size + 1) 64 (mC ((i : Int) + 1) (fuel - 1) (.slice sA' sn sc') r0 r1 r2 r3 (.slice oA' on oc') false e0)) := Lib.hid (by simpa using (((XX.set 1 (.int .i64 (fuel - 1))).set 0 (.int .i64 ((i : Int) + 1))).alloc (IObj x))); have R4 : Hid (Bk (((w1.setCell ⟨w.heap.size + 1, 1, none⟩ (.int .i64 (fuel - 1))).setCell ⟨w.heap.size + 1, 0, none⟩ (.int .i64 ((i : Int) + 1))).alloc (IObj x)) (w.heap.size + 1 + 1) 64 mZ) := Lib.hid (((RR.far (p := ⟨w.heap.size + 1, 1, none⟩) (by simp) _).far (p := ⟨w.heap.size + 1, 0, none⟩) (by simp) _).alloc _); have M4 : Hid (MRow w.heap.size (((w1.setCell ⟨w.heap.size + 1, 1, none⟩ (.int .i64 (fuel - 1))).setCell ⟨w.heap.size + 1, 0, none⟩ (.int .i64 ((i : Int) + 1))).alloc (IObj x)) st ou own sA' sn sc' oA' on oc' bA' bn bc') := Lib.hid (((MM.set hof3 1 _).set hof3 0 _).below (below_alloc1 _ _)); have B4 : Hid (Below w.heap.size w (((w1.setCell ⟨w.heap.size + 1, 1, none⟩ (.int .i64 (fuel - 1))).setCell ⟨w.heap.size + 1, 0, none⟩ (.int .i64 ((i : Int) + 1))).alloc (IObj x))) := Lib.hid (bnext (((bnext B2.out hb1).setCell (p := ⟨w.heap.size + 1, 1, none⟩) (by simp) _).setCell (p := ⟨w.heap.size + 1, 0, none⟩) (by simp) _) (below_alloc1 _ _)); have HC := Lib.hid (HB.out _ sA' sc' oA' oc' bA' bc' B4.out M4.out); have hof4 := Lib.hid (M4.out.offM R4.out); have l0 := XX.cell 0; have l1 := XX.cell 1; have lf := XX.frozen; have ll := XX.lt; simp only [List.getElem?_toArray, List.getElem?_cons_zero, List.getElem?_cons_succ] at l0 l1; obtain ⟨u0, u1, u2, u3, u4, uf⟩ := (C2.out.below hb1).cmd; have ul := (C2.out.below hb1).lt; clear XX RR MM hof3 hb1 z0 z1 z2 z3 z4 zf zl y0 y1 y2 y3 y4 yf yl))
    | (with_reducible refine ld_mach (w.heap.size + 1) X4.out _ rfl rfl rfl ?_)
    | (go_at_call 81; go_must ((with_reducible refine HC.out.mono ?_); rintro e w5 ⟨sA5, sn5, sc5, oA5, on5, oc5, bA5, bn5, bc5, rfl, M5, B5⟩; have R5 := Lib.hid (B5.bk R4.out hof4.out.1 hof4.out.2.1 hof4.out.2.2); have M6 := Lib.hid M5; have B6 := Lib.hid (B4.out.trans B5.below); clear M5 B5))
    | (with_reducible refine st_mach (w.heap.size + 1 + 1) R5.out rfl rfl _ _ rfl rfl rfl rfl ?_))
  exact bodyPost_ret (v := .tuple #[.agg (mC pc' fuel' (.slice sA5 sn5 sc5) q0 q1 q2 q3 (.slice oA5 on5 oc5) ov' e'), .slice bA5 bn5 bc5]) (res2_mach rfl _ _ (w.heap.size + 1 + 1) _ rfl rfl (Bk.setRow R5.out _)) rfl
    ⟨_, _, _, _, _, _, _, _, _, rfl, (M6.out.setRow (M6.out.offM R5.out) _).min, below_row B6.out (by omega) _, fun G hG => M6.out.off3 hG⟩

end
end Go.Proofs.YtpaocjpjlogkgaaGreat

/-
  What machine.Step answers: the plain step, in whatever memory, of a machine that has something to work on. No conditions but those that stand there.
-/
namespace Go.Proofs.YtpaocjpjlogkgaaGreat
open Go.RowKit

/-- a machine and blocks in memory: what a step answers. -/
def MacPost (r : Mac × Blks) (w : World) : Ending → World → Prop :=
  SPost r.1.pc r.1.fuel r.1.stack (rg r.1.regs 0) (rg r.1.regs 1) (rg r.1.regs 2) (rg r.1.regs 3) r.1.out r.1.over r.1.told r.2 w

/-- a machine's value. -/
abbrev mM (m : Mac) (sA : Option Addr) (sn sc : Nat) (oA : Option Addr) (on oc : Nat) : Value :=
  .agg (mC m.pc m.fuel (.slice sA sn sc) (rg m.regs 0) (rg m.regs 1) (rg m.regs 2) (rg m.regs 3) (.slice oA on oc) m.over m.told)

theorem MIn.lens {w : World} {st ou : List Int} {own : Blks} {sA : Option Addr} {sn sc : Nat} {oA : Option Addr} {on oc : Nat} {bA : Option Addr} {bn bc : Nat} (h : MIn w st ou own sA sn sc oA on oc bA bn bc) (h8 : ∀ b ∈ own, b.length = 8) : sn = st.length ∧ on = ou.length ∧ bn = own.length := by
  have h1 := h.st.1
  have h2 := h.ou.1
  have h3 := h.bk.1
  rw [blksW_length own h8] at h3
  simp at h1 h2
  omega

section
variable (ra : Option Addr) (nr rc : Nat) (wa : Option Addr) (nw wc : Nat) (aa : Option Addr) (na ac : Nat) (ca : Option Addr) (nc cc : Nat)
variable (sA : Option Addr) (sn sc : Nat) (oA : Option Addr) (on oc : Nat) (bA : Option Addr) (bn bc : Nat)

set_option maxHeartbeats 2000000 in
theorem behind_any (c : Cmd) (x : Ins) (pc fuel : Int) (st ou : List Int) (r0 r1 r2 r3 : Int) (e0 : Nat) (own : Blks) (w : World) (hx : FitI c x ⟨pc, fuel, st, [r0, r1, r2, r3], ou, false, e0⟩ own) (hp : 0 ≤ pc ∧ pc ≤ 2000) (hs8 : st.length ≤ 1000) (ho8 : ou.length ≤ 1000) (h8 : ∀ b ∈ own, b.length = 8) (hm : own.length ≤ 1000)
    (hA : Ints w aa ac c.args) (hna : c.args.length = na) (B : Nat) (hB : B ≤ w.heap.size) (hR : MRow B w st ou own sA sn sc oA on oc bA bn bc) :
    Calls Tryz.prog 81 #[.agg #[.int .i64 x.op, .int .i64 x.a, .int .i64 x.b], .slice aa na ac, .agg (mC pc fuel (.slice sA sn sc) r0 r1 r2 r3 (.slice oA on oc) false e0), .slice bA bn bc] w
      (StepPost B (.slice sA sn sc) (.slice oA on oc) (.slice bA bn bc) (doM c x ⟨pc, fuel, st, [r0, r1, r2, r3], ou, false, e0⟩ own).1.pc (doM c x ⟨pc, fuel, st, [r0, r1, r2, r3], ou, false, e0⟩ own).1.fuel (doM c x ⟨pc, fuel, st, [r0, r1, r2, r3], ou, false, e0⟩ own).1.stack
        (rg (doM c x ⟨pc, fuel, st, [r0, r1, r2, r3], ou, false, e0⟩ own).1.regs 0) (rg (doM c x ⟨pc, fuel, st, [r0, r1, r2, r3], ou, false, e0⟩ own).1.regs 1) (rg (doM c x ⟨pc, fuel, st, [r0, r1, r2, r3], ou, false, e0⟩ own).1.regs 2) (rg (doM c x ⟨pc, fuel, st, [r0, r1, r2, r3], ou, false, e0⟩ own).1.regs 3)
        (doM c x ⟨pc, fuel, st, [r0, r1, r2, r3], ou, false, e0⟩ own).1.out (doM c x ⟨pc, fuel, st, [r0, r1, r2, r3], ou, false, e0⟩ own).1.over (doM c x ⟨pc, fuel, st, [r0, r1, r2, r3], ou, false, e0⟩ own).1.told (doM c x ⟨pc, fuel, st, [r0, r1, r2, r3], ou, false, e0⟩ own).2 w) := by
  obtain ⟨op, a, b⟩ := x
  obtain ⟨⟨o1, o2⟩, hreg, hblk, harg, hway, hoff⟩ := hx
  simp only at o1 o2 hreg hblk harg hway hoff
  have hsl := hR.slen
  have hol := hR.olen
  have hbl := hR.blen h8
  rcases (show op = 1 ∨ op = 2 ∨ op = 3 ∨ op = 4 ∨ op = 5 ∨ op = 6 ∨ op = 13 ∨ op = 14 ∨ op = 15 ∨ op = 16 ∨ op = 17 ∨ op = 7 ∨ op = 8 ∨ op = 9 ∨ op = 10 ∨ op = 11 ∨ op = 12 by omega) with rfl | rfl | rfl | rfl | rfl | rfl | rfl | rfl | rfl | rfl | rfl | rfl | rfl | rfl | rfl | rfl | rfl
  · exact behind_puts1 pc fuel sA sn sc r0 r1 r2 r3 oA on oc false e0 aa na ac bA bn bc a a b B st ou own w hB hR (by omega) (fun W _ => named_push pc fuel sA sn sc r0 r1 r2 r3 oA on oc false e0 aa na ac bA bn bc a b W)
  · obtain ⟨h1, h2⟩ := hreg (.inl rfl)
    obtain ⟨k, rfl⟩ := Int.eq_ofNat_of_zero_le h1
    have hk : k < 4 := by omega
    refine behind_puts2 pc fuel sA sn sc r0 r1 r2 r3 oA on oc false e0 aa na ac bA bn bc (rg [r0, r1, r2, r3] k) k b B st ou own w hB hR (by omega) (fun W _ => named_load pc fuel sA sn sc r0 r1 r2 r3 oA on oc false e0 aa na ac bA bn bc k b _ hk ?_ W)
    rcases (show k = 0 ∨ k = 1 ∨ k = 2 ∨ k = 3 by omega) with rfl | rfl | rfl | rfl <;> rfl
  · obtain ⟨h1, h2⟩ := hreg (.inr rfl)
    obtain ⟨k, hk⟩ : ∃ k, st.length = k + 1 := ⟨st.length - 1, by simp [offN] at hoff; omega⟩
    obtain rfl : sn = k + 1 := by omega
    have e1 : popN st 1 = st.take k := by rw [popN, hk]; rfl
    have e2 : topN st = st[k]?.getD 0 := by rw [topN, hk]; rfl
    rcases (show a = 0 ∨ a = 1 ∨ a = 2 ∨ a = 3 by omega) with rfl | rfl | rfl | rfl
    · have hd : doM c ⟨3, 0, b⟩ ⟨pc, fuel, st, [r0, r1, r2, r3], ou, false, e0⟩ own = (⟨pc, fuel, st.take k, [st[k]?.getD 0, r1, r2, r3], ou, false, e0⟩, own) := by rw [← e1, ← e2]; rfl
      rw [hd]
      exact behind_takes3 pc fuel sA (k + 1) sc r0 r1 r2 r3 oA on oc false e0 aa na ac bA bn bc _ _ _ _ _ _ _ _ 0 b B st ou own w hB hR (fun W hW => takes_keep0 pc fuel sA sc r0 r1 r2 r3 oA on oc false e0 bA bn bc k b B st ou own W (Nat.le_trans hB hW.size) (hR.below hW) (by omega))
    · have hd : doM c ⟨3, 1, b⟩ ⟨pc, fuel, st, [r0, r1, r2, r3], ou, false, e0⟩ own = (⟨pc, fuel, st.take k, [r0, st[k]?.getD 0, r2, r3], ou, false, e0⟩, own) := by rw [← e1, ← e2]; rfl
      rw [hd]
      exact behind_takes3 pc fuel sA (k + 1) sc r0 r1 r2 r3 oA on oc false e0 aa na ac bA bn bc _ _ _ _ _ _ _ _ 1 b B st ou own w hB hR (fun W hW => takes_keep1 pc fuel sA sc r0 r1 r2 r3 oA on oc false e0 bA bn bc k b B st ou own W (Nat.le_trans hB hW.size) (hR.below hW) (by omega))
    · have hd : doM c ⟨3, 2, b⟩ ⟨pc, fuel, st, [r0, r1, r2, r3], ou, false, e0⟩ own = (⟨pc, fuel, st.take k, [r0, r1, st[k]?.getD 0, r3], ou, false, e0⟩, own) := by rw [← e1, ← e2]; rfl
      rw [hd]
      exact behind_takes3 pc fuel sA (k + 1) sc r0 r1 r2 r3 oA on oc false e0 aa na ac bA bn bc _ _ _ _ _ _ _ _ 2 b B st ou own w hB hR (fun W hW => takes_keep2 pc fuel sA sc r0 r1 r2 r3 oA on oc false e0 bA bn bc k b B st ou own W (Nat.le_trans hB hW.size) (hR.below hW) (by omega))
    · have hd : doM c ⟨3, 3, b⟩ ⟨pc, fuel, st, [r0, r1, r2, r3], ou, false, e0⟩ own = (⟨pc, fuel, st.take k, [r0, r1, r2, st[k]?.getD 0], ou, false, e0⟩, own) := by rw [← e1, ← e2]; rfl
      rw [hd]
      exact behind_takes3 pc fuel sA (k + 1) sc r0 r1 r2 r3 oA on oc false e0 aa na ac bA bn bc _ _ _ _ _ _ _ _ 3 b B st ou own w hB hR (fun W hW => takes_keep3 pc fuel sA sc r0 r1 r2 r3 oA on oc false e0 bA bn bc k b B st ou own W (Nat.le_trans hB hW.size) (hR.below hW) (by omega))
  · obtain ⟨h1, h2⟩ := hblk (.inl rfl)
    obtain ⟨k, rfl⟩ := Int.eq_ofNat_of_zero_le h1
    exact behind_puts4 pc fuel sA sn sc r0 r1 r2 r3 oA on oc false e0 aa na ac bA bn bc (getC (own[k]?.getD []) b) k b B st ou own w hB hR (by omega) (fun W hW => named_get pc fuel sA sn sc r0 r1 r2 r3 oA on oc false e0 aa na ac bA bn bc own W ((hR.blocks h8).below hW) h8 hbl.symm k b (by omega))
  · obtain ⟨h1, h2⟩ := hblk (.inr rfl)
    obtain ⟨j, rfl⟩ := Int.eq_ofNat_of_zero_le h1
    obtain ⟨k, hk⟩ : ∃ k, st.length = k + 1 := ⟨st.length - 1, by simp [offN] at hoff; omega⟩
    obtain rfl : sn = k + 1 := by omega
    have e1 : popN st 1 = st.take k := by rw [popN, hk]; rfl
    have e2 : topN st = st[k]?.getD 0 := by rw [topN, hk]; rfl
    have hd : doM c ⟨5, j, b⟩ ⟨pc, fuel, st, [r0, r1, r2, r3], ou, false, e0⟩ own = (⟨pc, fuel, st.take k, [r0, r1, r2, r3], ou, false, e0⟩, own.set j (putC (own[j]?.getD []) b (st[k]?.getD 0))) := by rw [← e1, ← e2]; rfl
    rw [hd]
    exact behind_takes5 pc fuel sA (k + 1) sc r0 r1 r2 r3 oA on oc false e0 aa na ac bA bn bc _ _ _ _ _ _ _ _ j b B st ou own w hB hR (fun W hW => takes_put pc fuel sA sc r0 r1 r2 r3 oA on oc false e0 bA bn bc k j b B st ou own W (Nat.le_trans hB hW.size) (hR.below hW) (by omega) h8 (by omega) hm)
  · obtain ⟨h1, h2⟩ := harg rfl
    obtain ⟨k, rfl⟩ := Int.eq_ofNat_of_zero_le h1
    exact behind_puts6 pc fuel sA sn sc r0 r1 r2 r3 oA on oc false e0 aa na ac bA bn bc (c.args[k]?.getD 0) k b B st ou own w hB hR (by omega) (fun W hW => named_arg pc fuel sA sn sc r0 r1 r2 r3 oA on oc false e0 aa na ac bA bn bc c.args W (hA.below hW) hna k b (by omega))
  · have ha := hway (.inl rfl)
    obtain ⟨k, hk⟩ : ∃ k, st.length = k + 1 := ⟨st.length - 1, by simp [offN] at hoff; omega⟩
    obtain rfl : sn = k + 1 := by omega
    have e1 : popN st 1 = st.take k := by rw [popN, hk]; rfl
    have e2 : topN st = st[k]?.getD 0 := by rw [topN, hk]; rfl
    have hd : doM c ⟨13, a, b⟩ ⟨pc, fuel, st, [r0, r1, r2, r3], ou, false, e0⟩ own = (⟨if (st[k]?.getD 0 == 0) = true then pc + a else pc, fuel, st.take k, [r0, r1, r2, r3], ou, false, e0⟩, own) := by
      rw [← e1, ← e2]
      simp [doM]
    rw [hd]
    exact behind_takes13 pc fuel sA (k + 1) sc r0 r1 r2 r3 oA on oc false e0 aa na ac bA bn bc _ _ _ _ _ _ _ _ a b B st ou own w hB hR (fun W hW => takes_skip pc fuel sA sc r0 r1 r2 r3 oA on oc false e0 bA bn bc k a b B st ou own W (Nat.le_trans hB hW.size) (hR.below hW) (by omega) ha hp _ rfl)
  · exact behind_go pc fuel sA sn sc r0 r1 r2 r3 oA on oc false e0 aa na ac bA bn bc a b B st ou own w hB hR (hway (.inr rfl)) hp
  · obtain ⟨k, hk⟩ : ∃ k, st.length = k + 1 := ⟨st.length - 1, by simp [offN] at hoff; omega⟩
    obtain rfl : sn = k + 1 := by omega
    have e1 : popN st 1 = st.take k := by rw [popN, hk]; rfl
    have e2 : topN st = st[k]?.getD 0 := by rw [topN, hk]; rfl
    have hd : doM c ⟨15, a, b⟩ ⟨pc, fuel, st, [r0, r1, r2, r3], ou, false, e0⟩ own = (⟨pc, fuel, st.take k, [r0, r1, r2, r3], ou ++ [st[k]?.getD 0], false, e0⟩, own) := by rw [← e1, ← e2]; rfl
    rw [hd]
    exact behind_takes15 pc fuel sA (k + 1) sc r0 r1 r2 r3 oA on oc false e0 aa na ac bA bn bc _ _ _ _ _ _ _ _ a b B st ou own w hB hR (fun W hW => takes_emit pc fuel sA sc r0 r1 r2 r3 oA on oc false e0 bA bn bc k a b B st ou own W (Nat.le_trans hB hW.size) (hR.below hW) (by omega) (by omega))
  · exact behind_stop pc fuel sA sn sc r0 r1 r2 r3 oA on oc false e0 aa na ac bA bn bc a b B st ou own w hB hR
  · exact behind_end pc fuel sA sn sc r0 r1 r2 r3 oA on oc false e0 aa na ac bA bn bc a b B st ou own w hB hR
  · obtain ⟨k, hk⟩ : ∃ k, st.length = k + 2 := ⟨st.length - 2, by simp [offN] at hoff; omega⟩
    obtain rfl : sn = k + 2 := by omega
    have e1 : popN st 2 = st.take k := by rw [popN, hk]; rfl
    have e2 : topN st = st[k + 1]?.getD 0 := by rw [topN, hk]; rfl
    have e3 : nextTop st = st[k]?.getD 0 := by rw [nextTop, hk]; rfl
    have e0' : doM c ⟨7, a, b⟩ ⟨pc, fuel, st, [r0, r1, r2, r3], ou, false, e0⟩ own = (match twoN 7 (nextTop st) (topN st) with
      | none => (overM ⟨pc, fuel, st, [r0, r1, r2, r3], ou, false, e0⟩ 12, own)
      | some n => (⟨pc, fuel, popN st 2 ++ [n], [r0, r1, r2, r3], ou, false, e0⟩, own)) := rfl
    cases ht : twoN 7 (st[k]?.getD 0) (st[k + 1]?.getD 0) with
    | none =>
      have hd : doM c ⟨7, a, b⟩ ⟨pc, fuel, st, [r0, r1, r2, r3], ou, false, e0⟩ own = (⟨pc, fuel, st, [r0, r1, r2, r3], [], true, 12⟩, own) := by
        rw [e0', e2, e3, ht]
        rfl
      rw [hd]
      exact behind_reckons7 pc fuel sA (k + 2) sc r0 r1 r2 r3 oA on oc false e0 aa na ac bA bn bc _ _ _ _ a b B st ou own w hB hR (fun W hW => reckons_zero pc fuel sA sc r0 r1 r2 r3 oA on oc false e0 bA bn bc 7 (by decide) k B st ou own W (Nat.le_trans hB hW.size) (hR.below hW) (by omega) ht)
    | some n =>
      have hd : doM c ⟨7, a, b⟩ ⟨pc, fuel, st, [r0, r1, r2, r3], ou, false, e0⟩ own = (⟨pc, fuel, st.take k ++ [n], [r0, r1, r2, r3], ou, false, e0⟩, own) := by
        rw [e0', e2, e3, ht, ← e1]
      rw [hd]
      exact behind_reckons7 pc fuel sA (k + 2) sc r0 r1 r2 r3 oA on oc false e0 aa na ac bA bn bc _ _ _ _ a b B st ou own w hB hR (fun W hW => reckons_some pc fuel sA sc r0 r1 r2 r3 oA on oc false e0 bA bn bc 7 n (by decide) k B st ou own W (Nat.le_trans hB hW.size) (hR.below hW) (by omega) ht)
  · obtain ⟨k, hk⟩ : ∃ k, st.length = k + 2 := ⟨st.length - 2, by simp [offN] at hoff; omega⟩
    obtain rfl : sn = k + 2 := by omega
    have e1 : popN st 2 = st.take k := by rw [popN, hk]; rfl
    have e2 : topN st = st[k + 1]?.getD 0 := by rw [topN, hk]; rfl
    have e3 : nextTop st = st[k]?.getD 0 := by rw [nextTop, hk]; rfl
    have e0' : doM c ⟨8, a, b⟩ ⟨pc, fuel, st, [r0, r1, r2, r3], ou, false, e0⟩ own = (match twoN 8 (nextTop st) (topN st) with
      | none => (overM ⟨pc, fuel, st, [r0, r1, r2, r3], ou, false, e0⟩ 12, own)
      | some n => (⟨pc, fuel, popN st 2 ++ [n], [r0, r1, r2, r3], ou, false, e0⟩, own)) := rfl
    cases ht : twoN 8 (st[k]?.getD 0) (st[k + 1]?.getD 0) with
    | none =>
      have hd : doM c ⟨8, a, b⟩ ⟨pc, fuel, st, [r0, r1, r2, r3], ou, false, e0⟩ own = (⟨pc, fuel, st, [r0, r1, r2, r3], [], true, 12⟩, own) := by
        rw [e0', e2, e3, ht]
        rfl
      rw [hd]
      exact behind_reckons8 pc fuel sA (k + 2) sc r0 r1 r2 r3 oA on oc false e0 aa na ac bA bn bc _ _ _ _ a b B st ou own w hB hR (fun W hW => reckons_zero pc fuel sA sc r0 r1 r2 r3 oA on oc false e0 bA bn bc 8 (by decide) k B st ou own W (Nat.le_trans hB hW.size) (hR.below hW) (by omega) ht)
    | some n =>
      have hd : doM c ⟨8, a, b⟩ ⟨pc, fuel, st, [r0, r1, r2, r3], ou, false, e0⟩ own = (⟨pc, fuel, st.take k ++ [n], [r0, r1, r2, r3], ou, false, e0⟩, own) := by
        rw [e0', e2, e3, ht, ← e1]
      rw [hd]
      exact behind_reckons8 pc fuel sA (k + 2) sc r0 r1 r2 r3 oA on oc false e0 aa na ac bA bn bc _ _ _ _ a b B st ou own w hB hR (fun W hW => reckons_some pc fuel sA sc r0 r1 r2 r3 oA on oc false e0 bA bn bc 8 n (by decide) k B st ou own W (Nat.le_trans hB hW.size) (hR.below hW) (by omega) ht)
  · obtain ⟨k, hk⟩ : ∃ k, st.length = k + 2 := ⟨st.length - 2, by simp [offN] at hoff; omega⟩
    obtain rfl : sn = k + 2 := by omega
    have e1 : popN st 2 = st.take k := by rw [popN, hk]; rfl
    have e2 : topN st = st[k + 1]?.getD 0 := by rw [topN, hk]; rfl
    have e3 : nextTop st = st[k]?.getD 0 := by rw [nextTop, hk]; rfl
    have e0' : doM c ⟨9, a, b⟩ ⟨pc, fuel, st, [r0, r1, r2, r3], ou, false, e0⟩ own = (match twoN 9 (nextTop st) (topN st) with
      | none => (overM ⟨pc, fuel, st, [r0, r1, r2, r3], ou, false, e0⟩ 12, own)
      | some n => (⟨pc, fuel, popN st 2 ++ [n], [r0, r1, r2, r3], ou, false, e0⟩, own)) := rfl
    cases ht : twoN 9 (st[k]?.getD 0) (st[k + 1]?.getD 0) with
    | none =>
      have hd : doM c ⟨9, a, b⟩ ⟨pc, fuel, st, [r0, r1, r2, r3], ou, false, e0⟩ own = (⟨pc, fuel, st, [r0, r1, r2, r3], [], true, 12⟩, own) := by
        rw [e0', e2, e3, ht]
        rfl
      rw [hd]
      exact behind_reckons9 pc fuel sA (k + 2) sc r0 r1 r2 r3 oA on oc false e0 aa na ac bA bn bc _ _ _ _ a b B st ou own w hB hR (fun W hW => reckons_zero pc fuel sA sc r0 r1 r2 r3 oA on oc false e0 bA bn bc 9 (by decide) k B st ou own W (Nat.le_trans hB hW.size) (hR.below hW) (by omega) ht)
    | some n =>
      have hd : doM c ⟨9, a, b⟩ ⟨pc, fuel, st, [r0, r1, r2, r3], ou, false, e0⟩ own = (⟨pc, fuel, st.take k ++ [n], [r0, r1, r2, r3], ou, false, e0⟩, own) := by
        rw [e0', e2, e3, ht, ← e1]
      rw [hd]
      exact behind_reckons9 pc fuel sA (k + 2) sc r0 r1 r2 r3 oA on oc false e0 aa na ac bA bn bc _ _ _ _ a b B st ou own w hB hR (fun W hW => reckons_some pc fuel sA sc r0 r1 r2 r3 oA on oc false e0 bA bn bc 9 n (by decide) k B st ou own W (Nat.le_trans hB hW.size) (hR.below hW) (by omega) ht)
  · obtain ⟨k, hk⟩ : ∃ k, st.length = k + 2 := ⟨st.length - 2, by simp [offN] at hoff; omega⟩
    obtain rfl : sn = k + 2 := by omega
    have e1 : popN st 2 = st.take k := by rw [popN, hk]; rfl
    have e2 : topN st = st[k + 1]?.getD 0 := by rw [topN, hk]; rfl
    have e3 : nextTop st = st[k]?.getD 0 := by rw [nextTop, hk]; rfl
    have e0' : doM c ⟨10, a, b⟩ ⟨pc, fuel, st, [r0, r1, r2, r3], ou, false, e0⟩ own = (match twoN 10 (nextTop st) (topN st) with
      | none => (overM ⟨pc, fuel, st, [r0, r1, r2, r3], ou, false, e0⟩ 12, own)
      | some n => (⟨pc, fuel, popN st 2 ++ [n], [r0, r1, r2, r3], ou, false, e0⟩, own)) := rfl
    cases ht : twoN 10 (st[k]?.getD 0) (st[k + 1]?.getD 0) with
    | none =>
      have hd : doM c ⟨10, a, b⟩ ⟨pc, fuel, st, [r0, r1, r2, r3], ou, false, e0⟩ own = (⟨pc, fuel, st, [r0, r1, r2, r3], [], true, 12⟩, own) := by
        rw [e0', e2, e3, ht]
        rfl
      rw [hd]
      exact behind_reckons10 pc fuel sA (k + 2) sc r0 r1 r2 r3 oA on oc false e0 aa na ac bA bn bc _ _ _ _ a b B st ou own w hB hR (fun W hW => reckons_zero pc fuel sA sc r0 r1 r2 r3 oA on oc false e0 bA bn bc 10 (by decide) k B st ou own W (Nat.le_trans hB hW.size) (hR.below hW) (by omega) ht)
    | some n =>
      have hd : doM c ⟨10, a, b⟩ ⟨pc, fuel, st, [r0, r1, r2, r3], ou, false, e0⟩ own = (⟨pc, fuel, st.take k ++ [n], [r0, r1, r2, r3], ou, false, e0⟩, own) := by
        rw [e0', e2, e3, ht, ← e1]
      rw [hd]
      exact behind_reckons10 pc fuel sA (k + 2) sc r0 r1 r2 r3 oA on oc false e0 aa na ac bA bn bc _ _ _ _ a b B st ou own w hB hR (fun W hW => reckons_some pc fuel sA sc r0 r1 r2 r3 oA on oc false e0 bA bn bc 10 n (by decide) k B st ou own W (Nat.le_trans hB hW.size) (hR.below hW) (by omega) ht)
  · obtain ⟨k, hk⟩ : ∃ k, st.length = k + 2 := ⟨st.length - 2, by simp [offN] at hoff; omega⟩
    obtain rfl : sn = k + 2 := by omega
    have e1 : popN st 2 = st.take k := by rw [popN, hk]; rfl
    have e2 : topN st = st[k + 1]?.getD 0 := by rw [topN, hk]; rfl
    have e3 : nextTop st = st[k]?.getD 0 := by rw [nextTop, hk]; rfl
    have e0' : doM c ⟨11, a, b⟩ ⟨pc, fuel, st, [r0, r1, r2, r3], ou, false, e0⟩ own = (match twoN 11 (nextTop st) (topN st) with
      | none => (overM ⟨pc, fuel, st, [r0, r1, r2, r3], ou, false, e0⟩ 12, own)
      | some n => (⟨pc, fuel, popN st 2 ++ [n], [r0, r1, r2, r3], ou, false, e0⟩, own)) := rfl
    cases ht : twoN 11 (st[k]?.getD 0) (st[k + 1]?.getD 0) with
    | none =>
      have hd : doM c ⟨11, a, b⟩ ⟨pc, fuel, st, [r0, r1, r2, r3], ou, false, e0⟩ own = (⟨pc, fuel, st, [r0, r1, r2, r3], [], true, 12⟩, own) := by
        rw [e0', e2, e3, ht]
        rfl
      rw [hd]
      exact behind_reckons11 pc fuel sA (k + 2) sc r0 r1 r2 r3 oA on oc false e0 aa na ac bA bn bc _ _ _ _ a b B st ou own w hB hR (fun W hW => reckons_zero pc fuel sA sc r0 r1 r2 r3 oA on oc false e0 bA bn bc 11 (by decide) k B st ou own W (Nat.le_trans hB hW.size) (hR.below hW) (by omega) ht)
    | some n =>
      have hd : doM c ⟨11, a, b⟩ ⟨pc, fuel, st, [r0, r1, r2, r3], ou, false, e0⟩ own = (⟨pc, fuel, st.take k ++ [n], [r0, r1, r2, r3], ou, false, e0⟩, own) := by
        rw [e0', e2, e3, ht, ← e1]
      rw [hd]
      exact behind_reckons11 pc fuel sA (k + 2) sc r0 r1 r2 r3 oA on oc false e0 aa na ac bA bn bc _ _ _ _ a b B st ou own w hB hR (fun W hW => reckons_some pc fuel sA sc r0 r1 r2 r3 oA on oc false e0 bA bn bc 11 n (by decide) k B st ou own W (Nat.le_trans hB hW.size) (hR.below hW) (by omega) ht)
  · obtain ⟨k, hk⟩ : ∃ k, st.length = k + 2 := ⟨st.length - 2, by simp [offN] at hoff; omega⟩
    obtain rfl : sn = k + 2 := by omega
    have e1 : popN st 2 = st.take k := by rw [popN, hk]; rfl
    have e2 : topN st = st[k + 1]?.getD 0 := by rw [topN, hk]; rfl
    have e3 : nextTop st = st[k]?.getD 0 := by rw [nextTop, hk]; rfl
    have e0' : doM c ⟨12, a, b⟩ ⟨pc, fuel, st, [r0, r1, r2, r3], ou, false, e0⟩ own = (match twoN 12 (nextTop st) (topN st) with
      | none => (overM ⟨pc, fuel, st, [r0, r1, r2, r3], ou, false, e0⟩ 12, own)
      | some n => (⟨pc, fuel, popN st 2 ++ [n], [r0, r1, r2, r3], ou, false, e0⟩, own)) := rfl
    cases ht : twoN 12 (st[k]?.getD 0) (st[k + 1]?.getD 0) with
    | none =>
      have hd : doM c ⟨12, a, b⟩ ⟨pc, fuel, st, [r0, r1, r2, r3], ou, false, e0⟩ own = (⟨pc, fuel, st, [r0, r1, r2, r3], [], true, 12⟩, own) := by
        rw [e0', e2, e3, ht]
        rfl
      rw [hd]
      exact behind_reckons12 pc fuel sA (k + 2) sc r0 r1 r2 r3 oA on oc false e0 aa na ac bA bn bc _ _ _ _ a b B st ou own w hB hR (fun W hW => reckons_zero pc fuel sA sc r0 r1 r2 r3 oA on oc false e0 bA bn bc 12 (by decide) k B st ou own W (Nat.le_trans hB hW.size) (hR.below hW) (by omega) ht)
    | some n =>
      have hd : doM c ⟨12, a, b⟩ ⟨pc, fuel, st, [r0, r1, r2, r3], ou, false, e0⟩ own = (⟨pc, fuel, st.take k ++ [n], [r0, r1, r2, r3], ou, false, e0⟩, own) := by
        rw [e0', e2, e3, ht, ← e1]
      rw [hd]
      exact behind_reckons12 pc fuel sA (k + 2) sc r0 r1 r2 r3 oA on oc false e0 aa na ac bA bn bc _ _ _ _ a b B st ou own w hB hR (fun W hW => reckons_some pc fuel sA sc r0 r1 r2 r3 oA on oc false e0 bA bn bc 12 n (by decide) k B st ou own W (Nat.le_trans hB hW.size) (hR.below hW) (by omega) ht)

set_option maxHeartbeats 2000000 in
/-- a step. -/
theorem step_any (c : Cmd) (m : Mac) (own : Blks) (w : World) (hf : Fit c m own) (hC : CmIn w c ra nr rc wa nw wc aa na ac ca nc cc) (hM : MIn w m.stack m.out own sA sn sc oA on oc bA bn bc) :
    Calls Tryz.prog 44 #[cmV ra nr rc wa nw wc aa na ac c.fuel ca nc cc, mM m sA sn sc oA on oc, .slice bA bn bc] w (MacPost (stepM c m own) w) := by
  obtain ⟨l1, l2, l3⟩ := hM.lens hf.cells
  obtain ⟨pc, fuel, st, regs, ou, ov, e0⟩ := m
  have h4 := four_of hf.regs
  simp only at h4 l1 l2
  generalize rg regs 0 = r0 at *
  generalize rg regs 1 = r1 at *
  generalize rg regs 2 = r2 at *
  generalize rg regs 3 = r3 at *
  subst h4
  have d1 := hf.deep
  have d2 := hf.outs
  have d3 := hf.many
  have d4 := hf.fuel
  have d5 := hC.bc
  have d6 := hC.lc
  simp only at d1 d2 d3 d4
  cases ov with
  | true =>
    rw [step_over rfl]
    exact step_ov ra nr rc wa nw wc aa na ac c.fuel ca nc cc pc fuel sA sn sc r0 r1 r2 r3 oA on oc e0 bA bn bc st ou own w hM (by omega) (by omega) (by omega)
  | false =>
    by_cases h0 : fuel = 0
    · rw [step_empty rfl h0]
      exact step_nofuel ra nr rc wa nw wc aa na ac c.fuel ca nc cc pc fuel sA sn sc r0 r1 r2 r3 oA on oc e0 bA bn bc st ou own w hM (by omega) (by omega) (by omega) (by omega)
    · rw [step_goes rfl h0]
      obtain ⟨g1, g2, g3, g4⟩ := hf.goes rfl h0
      simp only at g1 g2 g4
      obtain ⟨i, rfl⟩ := Int.eq_ofNat_of_zero_le g1
      rw [Int.toNat_natCast] at g4
      refine step_go ra nr rc wa nw wc aa na ac c.fuel ca nc cc i fuel sA sn sc r0 r1 r2 r3 oA on oc e0 bA bn bc st ou own w hM (by omega) (by omega) (by omega) ⟨by omega, d4.2⟩ c.code hC.code d6 i (by omega) rfl (by omega)
        _ _ _ _ _ _ _ _ _ _ _ (fun W sA' sc' oA' oc' bA' bc' hW hR => ?_)
      exact behind_any aa na ac sA' sn sc' oA' on oc' bA' bn bc' c (insAt c.code i) ((i : Int) + 1) (fuel - 1) st ou r0 r1 r2 r3 e0 own W ⟨g4.op, g4.reg, g4.blk, g4.arg, g4.way, g4.off⟩ (by omega) (by omega) (by omega) hf.cells (by omega) (hC.args.below hW) hC.la w.heap.size hW.size hR

end
end Go.Proofs.YtpaocjpjlogkgaaGreat

/-
  What run.Tells, foremanref11.Tells and foremanref11.Same answer, in whatever memory. No conditions but those that stand there.
-/
namespace Go.Proofs.YtpaocjpjlogkgaaGreat
open Go.RowKit
set_option maxRecDepth 100000
attribute [local go_sem] look findAt
attribute [local simp] depsOf isV Region.binds

/-- a result's cells. -/
abbrev rC (seq told : Int) (S : Value) : Array Value := #[.int .i64 seq, .int .i64 told, S]
theorem infoRs : (Tryz.prog.info? 51).map (·.size) = some 3 := by kernel_rfl

section
variable {ops : Array Oper} {rest : List Oper} {o : Oper} {a : Act} {w : World} {Q : Exit → Act → World → Prop}
theorem st_rs (g : Nat) {seq told : Int} {S : Value} {seq' told' : Int} {S' : Value} (hk : Bk w g 51 (rC seq' told' S'))
    (hS : S.oneCell' = true) (x y : Operand) (hgd : o.guard = none) (ho : o.op = .store 51 x y) (hx : a.eval x = .pointer (some ⟨g, 0, none⟩)) (hy : a.eval y = .agg (rC seq told S))
    (h : wpList Tryz.prog ops Q rest (a.put o.dst undef) (w.setRow g (rC seq told S))) : wpList Tryz.prog ops Q (o :: rest) a w :=
  wpList_store_row hgd _ x y ho g _ hx hy _ _ hk infoRs rfl (by simp [Value.oneCell']; exact hS) h
end

theorem res_rs {fn : Func} {p : Tmp} (hf : fn.results = #[.cell p 51]) (tmps : Array Value) (w : World) (g : Nat) {seq told : Int} {S : Value}
    (hp : tmps.getD p undef = .pointer (some ⟨g, 0, none⟩)) (hk : Bk w g 51 (rC seq told S)) : (results fn tmps).run Tryz.prog w = .ok (.agg (rC seq told S)) w :=
  results_cell_row hf tmps w g _ _ (0, 0) _ hp hk Tryz.underlying51 rfl infoRs

abbrev rsZ : Array Value := rC 0 0 (.slice none 0 0)
abbrev tW (cs : Array Value) (w : World) : World := (w.alloc (.cells cs 64)).alloc (.cells rsZ 51)
theorem tW_is (cs : Array Value) (w : World) : Below w.heap.size w (tW cs w) ∧ Bk (tW cs w) w.heap.size 64 cs ∧ Bk (tW cs w) (w.heap.size + 1) 51 rsZ := by
  refine ⟨bnext (below_alloc1 _ _) (below_alloc1 _ _), (Bk.new w _ _).alloc _, ?_⟩
  have := Bk.new (w.alloc (.cells cs 64)) 51 rsZ
  rwa [World.size_alloc] at this

section
variable (seq pc fuel : Int) (sA : Option Addr) (sn sc : Nat) (r0 r1 r2 r3 : Int) (oA : Option Addr) (on oc : Nat) (ov : Bool) (e0 : Int)

end

abbrev rs2 (cs cs' : Array Value) (w : World) : World := (w.alloc (.cells cs 51)).alloc (.cells cs' 51)
theorem rs2_box (cs cs' : Array Value) (w : World) : Bk (rs2 cs cs' w) w.heap.size 51 cs ∧ Bk (rs2 cs cs' w) (w.heap.size + 1) 51 cs' ∧ Below w.heap.size w (rs2 cs cs' w) := by
  refine ⟨(Bk.new w _ _).alloc _, ?_, bnext (below_alloc1 _ _) (below_alloc1 _ _)⟩
  have := Bk.new (w.alloc (.cells cs 51)) 51 cs'
  rwa [World.size_alloc] at this

set_option maxHeartbeats 2000000 in
theorem rsameR_yes (seq told : Int) (ou : List Int) (A A' : Option Addr) (n c c' : Nat) (w : World) (h : Sl w 1 A n c (ou.map (.int .i64))) (h' : Sl w 1 A' n c' (ou.map (.int .i64))) (hn : n ≤ 1000000) :
    Calls Tryz.prog 19 #[.agg (rC seq told (.slice A n c)), .agg (rC seq told (.slice A' n c'))] w fun e w' => e = .returned (.bool true) ∧ Below w.heap.size w w' := by
  have q1 := h.2.1
  have q2 := h'.2.1
  have HS := Lib.hid h
  have HS' := Lib.hid h'
  obtain ⟨x1, x2, x3⟩ := rs2_box (rC seq told (.slice A n c)) (rC seq told (.slice A' n c')) w
  have X := Lib.hid x1
  have Y := Lib.hid x2
  have B0 := Lib.hid x3
  clear x1 x2 x3 h h'
  go_enter Tryz.func19, Tryz.ntmps19
  go_wp2
  go_loopw [5] (fun cc wr => ∃ k : Nat, k ≤ n ∧ cc = .int .i64 k ∧ Hid (Below w.heap.size w wr) ∧ Hid (Bk wr w.heap.size 51 (rC seq told (.slice A n c))) ∧ Hid (Bk wr (w.heap.size + 1) 51 (rC seq told (.slice A' n c')))) (fun cc _ => n - (intOf cc).toNat)
  case atStart => exact ⟨0, Nat.zero_le _, rfl, B0, X, Y⟩
  case round =>
    obtain ⟨k, hk, rfl, HB, HX, HY⟩ := hrel
    have c0 := HX.out.cell 2
    have c1 := HY.out.cell 2
    have l1 := HY.out.lt
    simp only [List.getElem?_toArray, List.getElem?_cons_zero, List.getElem?_cons_succ] at c0 c1
    by_cases hlt : k < n
    · have d1 : (k : Int) < (n : Int) := by omega
      have d2 : (k : Int) < (c : Int) := by omega
      have d3 : (k : Int) < (c' : Int) := by omega
      obtain ⟨b, off, rfl, hb, hv⟩ := (HS.out.below HB.out).int hlt
      obtain ⟨b', off', rfl, hb', hv'⟩ := (HS'.out.below HB.out).int hlt
      generalize ou[k]?.getD 0 = v at *
      go_wp2
      go_quiet (fail)
      go_wp2
      go_roundw
      case rel => exact ⟨k + 1, by omega, by go_num, Lib.hid (bnext HB.out (drewN_below _ _)), Lib.hid (HX.out.drewN _), Lib.hid (HY.out.drewN _)⟩
      case measure => simp [intOf]; omega
    · obtain rfl : k = n := by omega
      clear hlt
      go_wp2
      go_ret
      exact ⟨rfl, HB.out⟩

end Go.Proofs.YtpaocjpjlogkgaaGreat

/-
  What run.Tells answers lies in no block that was there ahead of it; a call whose arguments hang on what other operations left; a drawn call that tells a result. No conditions but those that stand there.
-/
namespace Go.Proofs.YtpaocjpjlogkgaaGreat
open Go.RowKit
set_option maxRecDepth 100000
attribute [local go_sem] look findAt
attribute [local simp] depsOf isV Region.binds

/-- a result in memory, in no block that was there. -/
def TlPost (seq told : Int) (ou : List Int) (w : World) (e : Ending) (w' : World) : Prop :=
  ∃ A n c, e = .returned (.agg (rC seq told (.slice A n c))) ∧ Sl w' 1 A n c (ou.map (.int .i64)) ∧ Below w.heap.size w w' ∧ ∀ G, G < w.heap.size → offA G A n

section
variable (seq pc fuel : Int) (sA : Option Addr) (sn sc : Nat) (r0 r1 r2 r3 : Int) (oA : Option Addr) (on oc : Nat) (ov : Bool) (e0 : Int)

set_option maxHeartbeats 2000000 in
theorem tells_off (ou : List Int) (w : World) (hO : Sl w 1 oA on oc (ou.map (.int .i64))) (hon : on ≤ 1000) :
    Calls Tryz.prog 85 #[.int .i64 seq, .agg (mC pc fuel (.slice sA sn sc) r0 r1 r2 r3 (.slice oA on oc) ov e0)] w (TlPost seq e0 ou w) := by
  obtain ⟨t1, t2, t3⟩ := tW_is (mC pc fuel (.slice sA sn sc) r0 r1 r2 r3 (.slice oA on oc) ov e0) w
  obtain ⟨wr, hW⟩ : ∃ W, W = (w.alloc (.cells (mC pc fuel (.slice sA sn sc) r0 r1 r2 r3 (.slice oA on oc) ov e0) 64)).alloc (.cells #[.int .i64 0, .int .i64 0, .slice none 0 0] 51) := ⟨_, rfl⟩
  rw [show tW (mC pc fuel (.slice sA sn sc) r0 r1 r2 r3 (.slice oA on oc) ov e0) w = wr from hW.symm] at t1 t2 t3
  have cl := Lib.hid (fun (W : World) (hW : Below wr.heap.size wr W) => rowV_call (B := wr.heap.size) hW.size (clone_ints oA on oc _ W (hO.below (bnext t1 hW)) hon (ints_oneC ou)))
  have B0 := Lib.hid t1
  have X0 := Lib.hid t2
  have R0 := Lib.hid t3
  have la : Hid (∀ X, Below wr.heap.size wr X → X.cell? ⟨w.heap.size, 9, none⟩ = some (.int .i64 e0) ∧ X.cell? ⟨w.heap.size, 7, none⟩ = some (.slice oA on oc)) := Lib.hid (fun X hX => ⟨(X0.out.below hX).cell 9, (X0.out.below hX).cell 7⟩)
  clear t1 t2 t3 hO
  go_enter Tryz.func85, Tryz.ntmps85
  go_wp2
  rw [← hW]
  clear hW
  try simp only [List.append_eq, List.cons_append, List.nil_append]
  refine wp_region_saysK 6 (fun x y => Below x.heap.size x y) (fun _ _ _ h k => bnext h k) wr (below_drew1 wr) (by kernel_rfl) (by kernel_rfl) (by kernel_rfl) (by kernel_rfl) (by rfl) ?_
  simp only [List.take_succ_cons, List.take_zero, List.drop_succ_cons, List.drop_zero]
  refine walkK_is ?_ (by first | exact gs0 rfl | exact gs1 rfl rfl rfl) (fun _ => Below.refl _ _) (fun u X hX hd => ?_) ?_
  rotate_left
  · obtain ⟨e1, e2⟩ := la.out X hX
    try simp at hd
    go_simp
    try rfl
  apply walkK_norm
  · first | (simp only [List.nil_append]; rfl) | simp only [List.nil_append]
  refine walkK_is ?_ (by first | exact gs0 rfl | exact gs1 rfl rfl rfl) (fun _ => Below.refl _ _) (fun u X hX hd => ?_) ?_
  rotate_left
  · obtain ⟨e1, e2⟩ := la.out X hX
    try simp at hd
    go_simp
    try rfl
  apply walkK_norm
  · first | (simp only [List.nil_append, List.cons_append]; rfl) | simp only [List.nil_append, List.cons_append]
  refine walkK_is ?_ (by first | exact gs0 rfl | exact gs1 rfl rfl rfl) (fun _ => Below.refl _ _) (fun u X hX hd => ?_) ?_
  rotate_left
  · obtain ⟨e1, e2⟩ := la.out X hX
    try simp at hd
    go_simp
    try rfl
  apply walkK_norm
  · first | (simp only [List.nil_append, List.cons_append]; rfl) | simp only [List.nil_append, List.cons_append]
  refine walkK_is ?_ (by first | exact gs0 rfl | exact gs1 rfl rfl rfl) (fun _ => Below.refl _ _) (fun u X hX hd => ?_) ?_
  rotate_left
  · obtain ⟨e1, e2⟩ := la.out X hX
    try simp at hd
    go_simp
    try rfl
  apply walkK_norm
  · first | (simp only [List.nil_append, List.cons_append]; rfl) | simp only [List.nil_append, List.cons_append]
  refine walkK_is ?_ (by first | exact gs0 rfl | exact gs1 rfl rfl rfl) (fun _ => Below.refl _ _) (fun u X hX hd => ?_) ?_
  rotate_left
  · obtain ⟨e1, e2⟩ := la.out X hX
    try simp at hd
    go_simp
    try rfl
  apply walkK_norm
  · first | (simp only [List.nil_append, List.cons_append]; rfl) | simp only [List.nil_append, List.cons_append]
  refine walkK_call (rowV wr.heap.size 3 1 on (ou.map (.int .i64))) 77 ?_ (by first | exact gs0 rfl | exact gs1 rfl rfl rfl) (fun v x y hb h => rowV_keep v x y hb h) (fun u X hX hd => ?_) (fun X hX => ?_) ?_
  rotate_left
  · obtain ⟨e1, e2⟩ := la.out X hX
    try simp at hd
    go_simp
    try rfl
  · exact (cl.out X hX).mono fun e X' ⟨v, he, hb, ho, _⟩ => ⟨v, he, hb, ho⟩
  apply walkK_norm
  · first | (simp only [List.nil_append, List.cons_append]; rfl) | simp only [List.nil_append, List.cons_append]
  intro u X hX hsay
  simp only [sayAll, isV] at hsay
  obtain ⟨v0, v1, v2, v3, v4, ⟨A', c', v5, hs2⟩, -⟩ := hsay
  have R2 := Lib.hid (R0.out.below hX)
  have S2 := Lib.hid (Sl.own' hs2)
  have O2 := Lib.hid (fun (G : Nat) (hG : G < wr.heap.size) => own_offA hs2 (G := G) hG)
  have Z2 := B0.out.size
  have L2 := R0.out.lt
  have B2 := Lib.hid (bnext B0.out hX)
  simp only [putAll, Act.put, v0, v1, v2, v3, v4, v5, List.setIfInBounds_toArray, List.set_cons_succ, List.set_cons_zero]
  clear hs2 v0 v1 v2 v3 v4 v5 cl la
  go_wp2_with (with_reducible refine st_rs (w.heap.size + 1) R2.out rfl _ _ rfl rfl rfl rfl ?_)
  exact bodyPost_ret (v := .agg (rC seq e0 (.slice A' on c'))) (res_rs rfl _ _ (w.heap.size + 1) rfl (Bk.setRow R2.out _)) rfl ⟨_, _, _, rfl, S2.out.offSet (O2.out _ L2) (by simp) (fun k hk _ => setRow_other X (w.heap.size + 1) k _ hk), below_row B2.out (by omega) _, fun G hG => O2.out G (by omega)⟩

end
end Go.Proofs.YtpaocjpjlogkgaaGreat
