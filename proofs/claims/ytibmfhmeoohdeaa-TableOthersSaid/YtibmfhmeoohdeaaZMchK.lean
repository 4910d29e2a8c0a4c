/-
  What machine.takes answers of a put, in whatever memory. No conditions but those that stand there.
-/
import Derived.Test.YtibmfhmeoohdeaaQMchF
import Derived.Test.YtibmfhmeoohdeaaQRely
import Derived.Test.YtibmfhmeoohdeaaZCelK
namespace Go.Proofs.Ytibmfhmeoohdeaa
open Go.RowKit
attribute [local go_sem] look findAt
attribute [local simp] depsOf isV Region.binds

/-- some cells of a list, set one by one. -/
def setL : List Value → Nat → List Value → List Value
  | xs, _, [] => xs
  | xs, o, v :: r => setL (xs.set o v) (o + 1) r

theorem setL_length : ∀ (vs xs : List Value) (o : Nat), (setL xs o vs).length = xs.length
  | [], _, _ => rfl
  | v :: r, xs, o => by rw [setL, setL_length r]; simp

theorem setL_at : ∀ (vs xs : List Value) (o i : Nat), i < xs.length → (setL xs o vs)[i]? = if o ≤ i ∧ i < o + vs.length then vs[i - o]? else xs[i]?
  | [], xs, o, i, h => by simp [setL]; omega
  | v :: r, xs, o, i, h => by
    rw [setL, setL_at r _ (o + 1) i (by simpa using h)]
    by_cases h1 : o + 1 ≤ i ∧ i < o + 1 + r.length
    · rw [if_pos h1, if_pos (by simp; omega), show i - o = i - (o + 1) + 1 by omega]
      simp
    · rw [if_neg h1]
      by_cases h2 : i = o
      · subst h2
        rw [List.getElem?_set_self h, if_pos (by simp)]
        simp
      · rw [List.getElem?_set_ne (Ne.symm h2), if_neg (by simp; omega)]

theorem own_setCells {B : Nat} {e : TypeId} {size n c g : Nat} : ∀ (vs : List Value) (o : Nat) {w : World} {xs : List Value}, w.ownsRow B e size (.slice (some ⟨g, 0, none⟩) n c) n xs → (w.setCells g o vs).ownsRow B e size (.slice (some ⟨g, 0, none⟩) n c) n (setL xs o vs)
  | [], _, _, _, h => h
  | v :: r, o, _, _, h => own_setCells r (o + 1) (h.stored o v).1

theorem heap_setCells {g : Nat} : ∀ (vs : List Value) (o : Nat) (w : World) (k : Nat), k ≠ g → (w.setCells g o vs).heap[k]? = w.heap[k]?
  | [], _, _, _, _ => rfl
  | v :: r, o, w, k, h => by rw [World.setCells, heap_setCells r (o + 1) _ k h, Below.heap_setCell w ⟨g, o, none⟩ v k h]

theorem size_setCells {g : Nat} : ∀ (vs : List Value) (o : Nat) (w : World), (w.setCells g o vs).heap.size = w.heap.size
  | [], _, _ => rfl
  | v :: r, o, w => by rw [World.setCells, size_setCells r (o + 1)]; simp

theorem misc_setCells {g : Nat} : ∀ (vs : List Value) (o : Nat) (w : World), (w.setCells g o vs).os = w.os ∧ (w.setCells g o vs).tape = w.tape ∧ (w.setCells g o vs).output = w.output
  | [], _, _ => ⟨rfl, rfl, rfl⟩
  | v :: r, o, w => by
    rw [World.setCells]
    exact misc_setCells r (o + 1) _

theorem below_setCells {B g : Nat} {a w : World} (h : Below B a w) (hg : B ≤ g) (vs : List Value) (o : Nat) : Below B a (w.setCells g o vs) :=
  h.trans ⟨(misc_setCells vs o w).1, (misc_setCells vs o w).2.1, (misc_setCells vs o w).2.2, by rw [size_setCells]; exact Nat.le_refl _, fun k hk => heap_setCells vs o w k (by omega)⟩

/-- a block set in a list of blocks. -/
theorem blksW_set (own : Blks) (h8 : ∀ b ∈ own, b.length = 8) {j : Nat} (hj : j < own.length) {y : List Int} (hy : y.length = 8) : setL (blksW own) (j * 8) (y.map (.int .i64)) = blksW (own.set j y) := by
  have h8' : ∀ b ∈ own.set j y, b.length = 8 := fun b hb => by
    rcases List.mem_or_eq_of_mem_set hb with hb | rfl
    · exact h8 b hb
    · exact hy
  have hl : (setL (blksW own) (j * 8) (y.map (.int .i64))).length = own.length * 8 := by rw [setL_length, blksW_length own h8]
  have hl' : (blksW (own.set j y)).length = own.length * 8 := by rw [blksW_length _ h8', List.length_set]
  apply List.ext_getElem?
  intro i
  by_cases hi : i < own.length * 8
  · have hp : i / 8 < own.length := by omega
    have hq : i % 8 < 8 := by omega
    have e : i = i / 8 * 8 + i % 8 := by omega
    rw [setL_at _ _ _ _ (by rw [blksW_length own h8]; exact hi)]
    have e1 := blksW_at own h8 (i / 8) hp (i % 8) hq
    have e2 := blksW_at (own.set j y) h8' (i / 8) (by simpa using hp) (i % 8) hq
    rw [← e] at e1 e2
    rw [e2]
    by_cases hij : i / 8 = j
    · rw [if_pos (by simp; omega), hij, List.getElem?_set_self hj, List.getElem?_map, show i - j * 8 = i % 8 by omega, List.getElem?_eq_getElem (by omega)]
      simp
      rw [List.getElem?_eq_getElem (by omega)]
      rfl
    · rw [if_neg (by simp; omega), e1, List.getElem?_set_ne (Ne.symm hij)]
  · rw [List.getElem?_eq_none (by omega), List.getElem?_eq_none (by omega)]

/-- a machine's blocks, one of them another one. -/
theorem MRow.putB {B : Nat} {w : World} {st ou : List Int} {own : Blks} {sA : Option Addr} {sn sc : Nat} {oA : Option Addr} {on oc : Nat} {g bn bc : Nat} (h : MRow B w st ou own sA sn sc oA on oc (some ⟨g, 0, none⟩) bn bc) (h8 : ∀ b ∈ own, b.length = 8) {j : Nat} (hj : j < own.length) {y : List Int} (hy : y.length = 8) :
    MRow B (w.setCells g (j * 8) (bkC y).toList) st ou (own.set j y) sA sn sc oA on oc (some ⟨g, 0, none⟩) bn bc := by
  have hb := own_setCells (bkC y).toList (j * 8) h.bk
  rw [show (bkC y).toList = y.map (Value.int .i64) by simp [bkC]] at hb ⊢
  rw [blksW_set own h8 hj hy] at hb
  exact ⟨own_keep h.st (fun k _ hk => heap_setCells _ _ _ k (fun e => own_apart h.bk h.st (by decide) g rfl (e ▸ hk))), own_keep h.ou (fun k _ hk => heap_setCells _ _ _ k (fun e => own_apart h.bk h.ou (by decide) g rfl (e ▸ hk))), hb, h.tw⟩

theorem Rows3.setCells {B : Nat} {S O A : Value} {w W : World} (h : Rows3 B S O A w W) {g : Nat} (hg : A.ownBlock = some g) (hB : B ≤ g) (o : Nat) (vs : List Value) : Rows3 B S O A w (W.setCells g o vs) :=
  ⟨below_setCells h.below hB vs o, fun k hk h1 h2 h3 => (heap_setCells vs o W k (fun e => h3 (by rw [hg, e]))).trans (h.kept k hk h1 h2 h3)⟩

/-- cells of a block that are there, and may be written. -/
theorem Bk.there {w : World} {g : Nat} {t : TypeId} {cs : Array Value} (h : Bk w g t cs) {o n : Nat} (hn : o + n ≤ cs.size) : w.there g o n := fun j hj => ⟨by rw [h.cell, Array.getElem?_eq_getElem (by omega)]; rfl, h.frozen _⟩

theorem Bk.setCells {w : World} {g h : Nat} {t : TypeId} {cs : Array Value} (hk : Bk w g t cs) (hne : g ≠ h) (o : Nat) (vs : List Value) : Bk (w.setCells h o vs) g t cs := (heap_setCells vs o w g hne).trans hk

section
variable (pc fuel : Int) (sA : Option Addr) (sc : Nat) (r0 r1 r2 r3 : Int) (oA : Option Addr) (on oc : Nat) (ov : Bool) (e0 : Int) (bA : Option Addr) (bn bc : Nat)

set_option maxHeartbeats 2000000 in
theorem takes_put (k j : Nat) (b : Int) (B : Nat) (st ou : List Int) (own : Blks) (w : World) (hB : B ≤ w.heap.size) (hR : MRow B w st ou own sA (k + 1) sc oA on oc bA bn bc) (hk : k ≤ 1000) (h8 : ∀ x ∈ own, x.length = 8) (hj : j < own.length) (hjn : own.length ≤ 1000) :
    Calls Try.prog 51 #[.agg #[.int .i64 5, .int .i64 (j : Int), .int .i64 b], .agg (mC pc fuel (.slice sA (k + 1 : Nat) sc) r0 r1 r2 r3 (.slice oA on oc) ov e0), .slice bA bn bc] w
      (StepPost B (.slice sA (k + 1 : Nat) sc) (.slice oA on oc) (.slice bA bn bc) pc fuel (st.take k) r0 r1 r2 r3 ou ov e0 (own.set j (putC (own[j]?.getD []) b (st[k]?.getD 0))) w) := by
  obtain ⟨g, rfl, hg, hsc, hv⟩ := hR.top (j := k) (Nat.le_refl _)
  have hbn := hR.blen h8
  subst hbn
  obtain ⟨gb, cur, rfl, hgB, hgb, hbc, _, hcs, _⟩ := own_pos hR.bk (by omega)
  have hb0 := nR_below ⟨5, j, b⟩ (mC pc fuel (.slice (some ⟨g, 0, none⟩) (k + 1 : Nat) sc) r0 r1 r2 r3 (.slice oA on oc) ov e0) w
  have hat := Lib.hid (atInt_in g 0 (k + 1) sc k _ (nR ⟨5, j, b⟩ (mC pc fuel (.slice (some ⟨g, 0, none⟩) (k + 1 : Nat) sc) r0 r1 r2 r3 (.slice oA on oc) ov e0) w) (by omega) hsc ((hb0.cell (p := ⟨g, 0 + k, none⟩) hg).trans hv))
  have hk2 : (k : Int) < (sc : Int) := by omega
  generalize st[k]?.getD 0 = top at *
  have hR' := Lib.hid (hR.cut (k := k) (by omega))
  have hbx := Lib.hid (nR_box ⟨5, j, b⟩ (mC pc fuel (.slice (some ⟨g, 0, none⟩) k sc) r0 r1 r2 r3 (.slice oA on oc) ov e0) w)
  have hrs := Lib.hid (nR_res ⟨5, j, b⟩ (mC pc fuel (.slice (some ⟨g, 0, none⟩) k sc) r0 r1 r2 r3 (.slice oA on oc) ov e0) w)
  have hin := Lib.hid (nR_ins ⟨5, j, b⟩ (mC pc fuel (.slice (some ⟨g, 0, none⟩) k sc) r0 r1 r2 r3 (.slice oA on oc) ov e0) w)
  have hbe := Lib.hid (nR_below ⟨5, j, b⟩ (mC pc fuel (.slice (some ⟨g, 0, none⟩) k sc) r0 r1 r2 r3 (.slice oA on oc) ov e0) w)
  have hatb := Lib.hid (atBlk_in own _ bc j _ ((hR.blocks h8).below hbe.out) h8 hj)
  have H8 := Lib.hid h8
  have hl : (own[j]?.getD []).length = 8 := by
    rw [List.getElem?_eq_getElem hj]
    exact h8 _ (List.getElem_mem _)
  have hpu := Lib.hid (fun W => put_any (own[j]?.getD []) hl b top W)
  have hyl : (putC (own[j]?.getD []) b top).length = 8 := by rw [putC_length, hl]
  have hJ := Lib.hid hj
  have hCS := Lib.hid hcs
  have d1 : (j : Int) < (own.length : Int) := by omega
  have d2 : (j : Int) < (bc : Int) := by omega
  have GB := Lib.hid hgb
  have hglt := hgb.lt
  have i8 := infoBlk hl
  have s8 : (bkC (own[j]?.getD [])).size = 8 := by rw [bkC_size, hl]
  have i8y := infoBlk hyl
  have HY := Lib.hid hyl
  generalize putC (own[j]?.getD []) b top = y at *
  generalize own[j]?.getD [] = x at *
  clear hv hR hb0 h8 hgb hcs hj hyl
  go_enter Try.func51, Try.ntmps51
  go_wp2_with (first
    | (go_at_call 54; go_must ((with_reducible refine hat.out.mono ?_); rintro e w1 ⟨rfl, rfl⟩))
    | (go_at_call 55; go_must ((with_reducible refine hatb.out.mono ?_); rintro e w1 ⟨rfl, hb1⟩; have I1 := Lib.hid (hin.out.below hb1); have X1 := Lib.hid (hbx.out.below hb1); have R1 := Lib.hid (hrs.out.below hb1); have B1 := Lib.hid (bnext hbe.out hb1); have N1 := Lib.hid (Bk.new w1 43 (bkC (List.replicate 8 0))); have L1 := R1.out.lt; rw [bkC_noughts] at N1; clear hb1))
    | (refine wpList_store_row rfl 43 _ _ rfl w1.heap.size (bkC x) rfl rfl 43 _ N1.out i8 (by rw [s8]; rfl) (bkC_all x) ?_))
  obtain ⟨wr, hW⟩ : ∃ W, W = (w1.alloc (.cells #[.int .i64 0, .int .i64 0, .int .i64 0, .int .i64 0, .int .i64 0, .int .i64 0, .int .i64 0, .int .i64 0] 43)).setRow w1.heap.size (bkC x) := ⟨_, rfl⟩
  have hF : ∀ {q : Nat} {t : TypeId} {cs : Array Value}, Bk w1 q t cs → Bk wr q t cs := fun {q t cs} h => by
    rw [hW]
    exact (h.alloc _).farRow (by have := h.lt; omega) _
  have I2 := Lib.hid (hF I1.out)
  have X2 := Lib.hid (hF X1.out)
  have R2 := Lib.hid (hF R1.out)
  have G2 := Lib.hid (hF (GB.out.below B1.out))
  have N2 : Hid (Bk wr w1.heap.size 43 (bkC x)) := Lib.hid (by rw [hW]; exact Bk.setRow N1.out _)
  have BB : Hid (Below w1.heap.size w1 wr) := Lib.hid (by rw [hW]; exact below_row ((Below.refl _ _).alloc (Nat.le_refl _) _) (Nat.le_refl _) _)
  have lb : Hid (∀ X, Below wr.heap.size wr X → (loadVar 43 ⟨w1.heap.size, 0, none⟩).run Try.prog X = .ok (.agg (bkC x)) X) := Lib.hid (fun X hX => load_blk hl (N2.out.below hX))
  have la : Hid (∀ X, Below wr.heap.size wr X → X.cell? ⟨w.heap.size, 1, none⟩ = some (.int .i64 (j : Int)) ∧ X.cell? ⟨w.heap.size, 2, none⟩ = some (.int .i64 b)) := Lib.hid (fun X hX => ⟨(I2.out.below hX).three.2.1, (I2.out.below hX).three.2.2.1⟩)
  rw [← hW]
  clear hW hF
  try simp only [List.append_eq, List.cons_append, List.nil_append]
  refine wp_region_saysK 9 (fun x y => Below x.heap.size x y) (fun _ _ _ h k => bnext h k) wr (below_drew1 wr) (by kernel_rfl) (by kernel_rfl) (by kernel_rfl) (by kernel_rfl) (by rfl) ?_
  simp only [List.take_succ_cons, List.take_zero, List.drop_succ_cons, List.drop_zero]
  refine walkK_is ?_ (by exact gs0 rfl) (fun _ => Below.refl _ _) (fun u X hX hd => ?_) ?_
  rotate_left
  · obtain ⟨e1, e2⟩ := la.out X hX
    try simp at hd
    go_simp
    try rfl
  apply walkK_norm
  · first | (simp only [List.nil_append]; rfl) | simp only [List.nil_append]
  refine walkK_is ?_ (by exact gs0 rfl) (fun _ => Below.refl _ _) (fun u X hX hd => ?_) ?_
  rotate_left
  · obtain ⟨e1, e2⟩ := la.out X hX
    try simp at hd
    go_simp
    try rfl
  apply walkK_norm
  · first | (simp only [List.nil_append, List.cons_append]; rfl) | simp only [List.nil_append, List.cons_append]
  refine walkK_is ?_ (by exact gs0 rfl) (fun _ => Below.refl _ _) (fun u X hX hd => ?_) ?_
  rotate_left
  · obtain ⟨e1, e2⟩ := la.out X hX
    try simp at hd
    go_simp
    try rfl
  apply walkK_norm
  · first | (simp only [List.nil_append, List.cons_append]; rfl) | simp only [List.nil_append, List.cons_append]
  refine walkK_is (.agg (bkC x)) (by exact gs0 rfl) (fun _ => Below.refl _ _) (fun u X hX hd => op_load_blk w1.heap.size (lb.out X hX) _ rfl rfl) ?_
  apply walkK_norm
  · first | (simp only [List.nil_append, List.cons_append]; rfl) | simp only [List.nil_append, List.cons_append]
  refine walkK_is ?_ (by exact gs0 rfl) (fun _ => Below.refl _ _) (fun u X hX hd => ?_) ?_
  rotate_left
  · obtain ⟨e1, e2⟩ := la.out X hX
    try simp at hd
    go_simp
    try rfl
  apply walkK_norm
  · first | (simp only [List.nil_append, List.cons_append]; rfl) | simp only [List.nil_append, List.cons_append]
  refine walkK_is ?_ (by exact gs0 rfl) (fun _ => Below.refl _ _) (fun u X hX hd => ?_) ?_
  rotate_left
  · obtain ⟨e1, e2⟩ := la.out X hX
    try simp at hd
    go_simp
    try rfl
  apply walkK_norm
  · first | (simp only [List.nil_append, List.cons_append]; rfl) | simp only [List.nil_append, List.cons_append]
  refine walkK_is ?_ (by exact gs0 rfl) (fun _ => Below.refl _ _) (fun u X hX hd => ?_) ?_
  rotate_left
  · obtain ⟨e1, e2⟩ := la.out X hX
    try simp at hd
    go_simp
    try rfl
  apply walkK_norm
  · first | (simp only [List.nil_append, List.cons_append]; rfl) | simp only [List.nil_append, List.cons_append]
  refine walkK_call (isV (.agg (bkC y))) 56 ?_ (by exact gs0 rfl) (fun _ _ _ _ h => h) (fun u X hX hd => ?_) (fun X hX => ?_) ?_
  rotate_left
  · obtain ⟨e1, e2⟩ := la.out X hX
    try simp at hd
    go_simp
    try rfl
  · exact (hpu.out X).mono fun e X' ⟨he, hb⟩ => ⟨_, he, hb, rfl⟩
  apply walkK_norm
  · first | (simp only [List.nil_append, List.cons_append]; rfl) | simp only [List.nil_append, List.cons_append]
  refine walkK_is ?_ (by exact gs0 rfl) (fun _ => Below.refl _ _) (fun u X hX hd => ?_) ?_
  rotate_left
  · obtain ⟨e1, e2⟩ := la.out X hX
    try simp at hd
    go_simp
    try rfl
  apply walkK_norm
  · first | (simp only [List.nil_append, List.cons_append]; rfl) | simp only [List.nil_append, List.cons_append]
  intro u X hX hsay
  simp only [sayAll, isV] at hsay
  obtain ⟨v0, v1, v2, v3, v4, v5, v6, v7, v8, -⟩ := hsay
  have C2 := G2.out.below hX
  have X3 := Lib.hid (((X2.out.below hX).setCells (h := gb) (by omega) (j * 8) (bkC y).toList))
  have R3 := Lib.hid (((R2.out.below hX).setCells (h := gb) (by omega) (j * 8) (bkC y).toList))
  have M3 := Lib.hid ((((hR'.out.below B1.out).below BB.out).below hX).putB H8.out hJ.out HY.out)
  have B3 : Hid (Rows3 B (.slice (some ⟨g, 0, none⟩) (k + 1 : Nat) sc) (.slice oA on oc) (.slice (some ⟨gb, 0, none⟩) own.length bc) w (X.setCells gb (j * 8) (bkC y).toList)) := Lib.hid ((Rows3.start hB (bnext (bnext B1.out BB.out) hX)).setCells rfl hgB (j * 8) (bkC y).toList)
  have ht := Lib.hid (C2.there (o := j * 8) (n := (bkC y).size) (by rw [bkC_size, HY.out, hCS.out]; have := hJ.out; omega))
  simp only [putAll, Act.put, v0, v1, v2, v3, v4, v5, v6, v7, v8, List.setIfInBounds_toArray, List.set_cons_succ, List.set_cons_zero]
  clear C2 v0 v1 v2 v3 v4 v5 v6 v7 v8
  go_wp2_with (first
    | (refine wpList_store_mid rfl 43 _ _ rfl gb (j * 8) (bkC y) rfl rfl ht.out i8y (bkC_all y) ?_)
    | (with_reducible refine ld_mach (w.heap.size + 1) X3.out _ rfl rfl rfl ?_)
    | (with_reducible refine st_mach (w.heap.size + 1 + 1) R3.out rfl rfl _ _ rfl rfl rfl rfl ?_))
  exact bodyPost_ret (v := .tuple #[.agg (mC pc fuel (.slice (some ⟨g, 0, none⟩) k sc) r0 r1 r2 r3 (.slice oA on oc) ov e0), .slice (some ⟨gb, 0, none⟩) own.length bc]) (res2_mach rfl _ _ (w.heap.size + 1 + 1) _ rfl rfl (Bk.setRow R3.out _)) rfl
    ⟨_, _, _, _, _, _, _, _, _, rfl, M3.out.setRow (hR'.out.off (by omega)) _, B3.out.setRow hB (by omega) _⟩

end
end Go.Proofs.Ytibmfhmeoohdeaa
