/-
  What machine.Step answers, in whatever memory: of a machine that is over, one without fuel, one that goes on. No conditions but those that stand there.
-/
import Derived.Test.YtoomadafgkcebaaZMchL
import Derived.Test.YtoomadafgkcebaaZMchI
import Derived.Test.YtoomadafgkcebaaZMchJ
import Derived.Test.YtoomadafgkcebaaZMchK
import Derived.Test.YtoomadafgkcebaaQRely
namespace Go.Proofs.Ytoomadafgkcebaa
open Go.RowKit
attribute [local go_sem] look findAt
attribute [local simp] depsOf isV Region.binds

/-- a command and a machine in their boxes, and a result's block. -/
abbrev sB (cm : Array Value) (cs : Array Value) (w : World) : World := ((w.alloc (.cells cm 25)).alloc (.cells cs 32)).alloc (.cells mZ 32)
theorem sB_below (cm cs : Array Value) (w : World) : Below w.heap.size w (sB cm cs w) := bnext (bnext (below_alloc1 _ _) (below_alloc1 _ _)) (below_alloc1 _ _)
theorem sB_cmd (cm cs : Array Value) (w : World) : Bk (sB cm cs w) w.heap.size 25 cm := ((Bk.new w _ _).alloc _).alloc _
theorem sB_box (cm cs : Array Value) (w : World) : Bk (sB cm cs w) (w.heap.size + 1) 32 cs := by
  have := (Bk.new (w.alloc (.cells cm 25)) 32 cs).alloc (.cells mZ 32)
  rwa [World.size_alloc] at this
theorem sB_res (cm cs : Array Value) (w : World) : Bk (sB cm cs w) (w.heap.size + 1 + 1) 32 mZ := by
  have := Bk.new ((w.alloc (.cells cm 25)).alloc (.cells cs 32)) 32 mZ
  rwa [World.size_alloc, World.size_alloc] at this

/-- a row of one's own. -/
def rowV (B : Nat) (e : TypeId) (size n : Nat) (xs : List Value) : Says := fun v w => ∃ A c, v = .slice A n c ∧ w.ownsRow B e size (.slice A n c) n xs
theorem rowV_keep {B : Nat} {e : TypeId} {size n : Nat} {xs : List Value} (v : Value) (w w' : World) (hb : Below w.heap.size w w') (h : rowV B e size n xs v w) : rowV B e size n xs v w' := by
  obtain ⟨A, c, rfl, ho⟩ := h
  exact ⟨A, c, rfl, own_below ho hb⟩
theorem rowV_lies {B : Nat} {e : TypeId} {size n : Nat} {xs : List Value} (v : Value) (w : World) (h : rowV B e size n xs v w) : liesIn v w := by
  obtain ⟨A, c, rfl, ho⟩ := h
  exact own_lies ho
theorem rowV_call {f : FuncId} {args : Array Value} {w : World} {B : Nat} {e : TypeId} {size n : Nat} {xs : List Value} (hB : B ≤ w.heap.size)
    (h : Calls Try.prog f args w fun en w' => ∃ A c, en = .returned (.slice A n c) ∧ w'.ownsRow w.heap.size e size (.slice A n c) n xs ∧ Below w.heap.size w w') :
    Calls Try.prog f args w fun en w' => ∃ v, en = .returned v ∧ Below w.heap.size w w' ∧ rowV B e size n xs v w' ∧ newTo v w :=
  h.mono fun _ _ ⟨A, c, he, ho, hb⟩ => ⟨_, he, hb, ⟨A, c, rfl, own_lower ho hB⟩, newTo_own ho⟩

theorem ints_oneC (l : List Int) : ∀ u ∈ l.map (Value.int .i64), u.oneCell' = true := by
  intro u hu
  obtain ⟨x, _, rfl⟩ := List.mem_map.1 hu
  rfl

/-- a machine's lists in memory, whosever they are. -/
structure MIn (w : World) (st ou : List Int) (own : Blks) (sA : Option Addr) (sn sc : Nat) (oA : Option Addr) (on oc : Nat) (bA : Option Addr) (bn bc : Nat) : Prop where
  st : Sl w 1 sA sn sc (st.map (.int .i64))
  ou : Sl w 1 oA on oc (ou.map (.int .i64))
  bk : Sl w 8 bA bn bc (blksW own)

theorem MIn.below {w w' : World} {st ou : List Int} {own : Blks} {sA : Option Addr} {sn sc : Nat} {oA : Option Addr} {on oc : Nat} {bA : Option Addr} {bn bc : Nat} (h : MIn w st ou own sA sn sc oA on oc bA bn bc) (hb : Below w.heap.size w w') : MIn w' st ou own sA sn sc oA on oc bA bn bc :=
  ⟨h.st.below hb, h.ou.below hb, h.bk.below hb⟩
theorem MRow.min {B : Nat} {w : World} {st ou : List Int} {own : Blks} {sA : Option Addr} {sn sc : Nat} {oA : Option Addr} {on oc : Nat} {bA : Option Addr} {bn bc : Nat} (h : MRow B w st ou own sA sn sc oA on oc bA bn bc) : MIn w st ou own sA sn sc oA on oc bA bn bc := ⟨Sl.own' h.st, Sl.own' h.ou, Sl.own' h.bk⟩

/-- a slice that doesn't lie in block G. -/
def offA (G : Nat) (A : Option Addr) (n : Nat) : Prop := 0 < n → ∀ b off, A = some ⟨b, off, none⟩ → b ≠ G
def off3 (G : Nat) (sA : Option Addr) (sn : Nat) (oA : Option Addr) (on : Nat) (bA : Option Addr) (bn : Nat) : Prop := offA G sA sn ∧ offA G oA on ∧ offA G bA bn
theorem own_offA {w : World} {B n c G : Nat} {e : TypeId} {size : Nat} {A : Option Addr} {xs : List Value} (h : w.ownsRow B e size (.slice A n c) n xs) (hG : G < B) : offA G A n := fun hn b off he => by
  obtain ⟨g, _, rfl, hb, _⟩ := own_pos h hn
  injection he with he
  injection he with he
  omega
theorem MRow.off3 {B G : Nat} {w : World} {st ou : List Int} {own : Blks} {sA : Option Addr} {sn sc : Nat} {oA : Option Addr} {on oc : Nat} {bA : Option Addr} {bn bc : Nat} (h : MRow B w st ou own sA sn sc oA on oc bA bn bc) (hG : G < B) : off3 G sA sn oA on bA bn := ⟨own_offA h.st hG, own_offA h.ou hG, own_offA h.bk hG⟩
theorem Sl.offSet {w w' : World} {size n c G : Nat} {A : Option Addr} {xs : List Value} (h : Sl w size A n c xs) (ho : offA G A n) (hs : w.heap.size ≤ w'.heap.size) (hk : ∀ k, k ≠ G → k < w.heap.size → w'.heap[k]? = w.heap[k]?) : Sl w' size A n c xs :=
  ⟨h.1, h.2.1, h.2.2.1, fun hn => by
    obtain ⟨b, off, e, hb, hc⟩ := h.2.2.2 hn
    exact ⟨b, off, e, by omega, fun j hj => (World.cell?_of_block (hk b (ho hn b off e) hb)).trans (hc j hj)⟩⟩
theorem MIn.offSet {w w' : World} {st ou : List Int} {own : Blks} {sA : Option Addr} {sn sc : Nat} {oA : Option Addr} {on oc : Nat} {bA : Option Addr} {bn bc : Nat} {G : Nat} (h : MIn w st ou own sA sn sc oA on oc bA bn bc) (ho : off3 G sA sn oA on bA bn) (hs : w.heap.size ≤ w'.heap.size) (hk : ∀ k, k ≠ G → k < w.heap.size → w'.heap[k]? = w.heap[k]?) : MIn w' st ou own sA sn sc oA on oc bA bn bc :=
  ⟨h.st.offSet ho.1 hs hk, h.ou.offSet ho.2.1 hs hk, h.bk.offSet ho.2.2 hs hk⟩
theorem MIn.setRow {w : World} {st ou : List Int} {own : Blks} {sA : Option Addr} {sn sc : Nat} {oA : Option Addr} {on oc : Nat} {bA : Option Addr} {bn bc : Nat} {G : Nat} (h : MIn w st ou own sA sn sc oA on oc bA bn bc) (ho : off3 G sA sn oA on bA bn) (cs : Array Value) : MIn (w.setRow G cs) st ou own sA sn sc oA on oc bA bn bc :=
  h.offSet ho (by simp) (fun k hk _ => setRow_other w G k cs hk)

/-- what a step answers. -/
def SPost (pc fuel : Int) (st : List Int) (r0 r1 r2 r3 : Int) (ou : List Int) (ov : Bool) (e0 : Int) (own : Blks) (w : World) (e : Ending) (w' : World) : Prop :=
  ∃ sA sn sc oA on oc bA bn bc, e = .returned (.tuple #[.agg (mC pc fuel (.slice sA sn sc) r0 r1 r2 r3 (.slice oA on oc) ov e0), .slice bA bn bc]) ∧ MIn w' st ou own sA sn sc oA on oc bA bn bc ∧ Below w.heap.size w w' ∧ ∀ G, G < w.heap.size → off3 G sA sn oA on bA bn

section
variable (ra : Option Addr) (nr rc : Nat) (wa : Option Addr) (nw wc : Nat) (aa : Option Addr) (na ac : Nat) (cf : Int) (ca : Option Addr) (nc cc : Nat)
variable (pc fuel : Int) (sA : Option Addr) (sn sc : Nat) (r0 r1 r2 r3 : Int) (oA : Option Addr) (on oc : Nat) (ov : Bool) (e0 : Int) (bA : Option Addr) (bn bc : Nat)

set_option maxHeartbeats 2000000 in
theorem step_ov (st ou : List Int) (own : Blks) (w : World) (hM : MIn w st ou own sA sn sc oA on oc bA bn bc) (hs : sn ≤ 1000) (ho : on ≤ 1000) (hbn : bn ≤ 1000) :
    Calls Try.prog 21 #[cmV ra nr rc wa nw wc aa na ac cf ca nc cc, .agg (mC pc fuel (.slice sA sn sc) r0 r1 r2 r3 (.slice oA on oc) true e0), .slice bA bn bc] w (SPost pc fuel st r0 r1 r2 r3 ou true e0 own w) := by
  have cl1 := Lib.hid (fun (W : World) (hW : Below w.heap.size w W) => rowV_call (B := w.heap.size) hW.size (clone_ints sA sn sc _ W (hM.st.below hW) hs (ints_oneC st)))
  have cl2 := Lib.hid (fun (W : World) (hW : Below w.heap.size w W) => rowV_call (B := w.heap.size) hW.size (clone_ints oA on oc _ W (hM.ou.below hW) ho (ints_oneC ou)))
  have cl3 := Lib.hid (fun (W : World) (hW : Below w.heap.size w W) => rowV_call (B := w.heap.size) hW.size (clone_blks bA bn bc _ W (hM.bk.below hW) hbn (blksW_one own)))
  obtain ⟨wr, hW⟩ : ∃ W, W = ((w.alloc (.cells #[.slice ra nr rc, .slice wa nw wc, .slice aa na ac, .int .i64 cf, .slice ca nc cc] 25)).alloc (.cells (mC pc fuel (.slice sA sn sc) r0 r1 r2 r3 (.slice oA on oc) true e0) 32)).alloc (.cells mZ 32) := ⟨_, rfl⟩
  have B0 : Hid (Below w.heap.size w wr) := Lib.hid (by rw [hW]; exact sB_below _ _ _)
  have C0 : Hid (Bk wr w.heap.size 25 #[.slice ra nr rc, .slice wa nw wc, .slice aa na ac, .int .i64 cf, .slice ca nc cc]) := Lib.hid (by rw [hW]; exact sB_cmd _ _ _)
  have X0 : Hid (Bk wr (w.heap.size + 1) 32 (mC pc fuel (.slice sA sn sc) r0 r1 r2 r3 (.slice oA on oc) true e0)) := Lib.hid (by rw [hW]; exact sB_box _ _ _)
  have R0 : Hid (Bk wr (w.heap.size + 1 + 1) 32 mZ) := Lib.hid (by rw [hW]; exact sB_res _ _ _)
  have la : Hid (∀ X, Below wr.heap.size wr X → X.cell? ⟨w.heap.size + 1, 2, none⟩ = some (.slice sA sn sc) ∧ X.cell? ⟨w.heap.size + 1, 7, none⟩ = some (.slice oA on oc)) := Lib.hid (fun X hX => ⟨(X0.out.below hX).cell 2, (X0.out.below hX).cell 7⟩)
  clear hM
  go_enter Try.func21, Try.ntmps21
  go_wp2
  rw [← hW]
  clear hW
  try simp only [List.append_eq, List.cons_append, List.nil_append]
  refine wp_region_saysA 9 (fun x y => Below x.heap.size x y) (fun _ _ _ h k => bnext h k) (fun i => i == 2 || i == 5 || i == 7) wr (below_drew1 wr) (by kernel_rfl) (by kernel_rfl) (by kernel_rfl) (by kernel_rfl) (by rfl) ?_
  simp only [List.take_succ_cons, List.take_zero, List.drop_succ_cons, List.drop_zero]
  refine walkA_is ?_ rfl (fun _ => Below.refl _ _) (fun u X hX hd => ?_) ?_
  rotate_left
  · obtain ⟨e1, e2⟩ := la.out X hX
    try simp at hd
    go_simp
    try rfl
  apply walkA_norm
  · first | (simp only [List.nil_append]; rfl) | simp only [List.nil_append]
  refine walkA_is ?_ rfl (fun _ => Below.refl _ _) (fun u X hX hd => ?_) ?_
  rotate_left
  · obtain ⟨e1, e2⟩ := la.out X hX
    try simp at hd
    go_simp
    try rfl
  apply walkA_norm
  · first | (simp only [List.nil_append, List.cons_append]; rfl) | simp only [List.nil_append, List.cons_append]
  refine walkA_row (rowV w.heap.size 3 1 sn (st.map (.int .i64))) 24 ?_ (fun v x y hb h => rowV_keep v x y hb h) (fun v x h => rowV_lies v x h) (fun u X hX hd => ?_) (fun X hX => ?_) ?_
  rotate_left
  · obtain ⟨e1, e2⟩ := la.out X hX
    try simp at hd
    go_simp
    try rfl
  · exact cl1.out X (bnext B0.out hX)
  apply walkA_norm
  · first | (simp only [List.nil_append, List.cons_append]; rfl) | simp only [List.nil_append, List.cons_append]
  refine walkA_is ?_ rfl (fun _ => Below.refl _ _) (fun u X hX hd => ?_) ?_
  rotate_left
  · obtain ⟨e1, e2⟩ := la.out X hX
    try simp at hd
    go_simp
    try rfl
  apply walkA_norm
  · first | (simp only [List.nil_append, List.cons_append]; rfl) | simp only [List.nil_append, List.cons_append]
  refine walkA_is ?_ rfl (fun _ => Below.refl _ _) (fun u X hX hd => ?_) ?_
  rotate_left
  · obtain ⟨e1, e2⟩ := la.out X hX
    try simp at hd
    go_simp
    try rfl
  apply walkA_norm
  · first | (simp only [List.nil_append, List.cons_append]; rfl) | simp only [List.nil_append, List.cons_append]
  refine walkA_row (rowV w.heap.size 3 1 on (ou.map (.int .i64))) 24 ?_ (fun v x y hb h => rowV_keep v x y hb h) (fun v x h => rowV_lies v x h) (fun u X hX hd => ?_) (fun X hX => ?_) ?_
  rotate_left
  · obtain ⟨e1, e2⟩ := la.out X hX
    try simp at hd
    go_simp
    try rfl
  · exact cl2.out X (bnext B0.out hX)
  apply walkA_norm
  · first | (simp only [List.nil_append, List.cons_append]; rfl) | simp only [List.nil_append, List.cons_append]
  refine walkA_is ?_ rfl (fun _ => Below.refl _ _) (fun u X hX hd => ?_) ?_
  rotate_left
  · obtain ⟨e1, e2⟩ := la.out X hX
    try simp at hd
    go_simp
    try rfl
  apply walkA_norm
  · first | (simp only [List.nil_append, List.cons_append]; rfl) | simp only [List.nil_append, List.cons_append]
  refine walkA_row (rowV w.heap.size 47 8 bn (blksW own)) 23 ?_ (fun v x y hb h => rowV_keep v x y hb h) (fun v x h => rowV_lies v x h) (fun u X hX hd => ?_) (fun X hX => ?_) ?_
  rotate_left
  · obtain ⟨e1, e2⟩ := la.out X hX
    try simp at hd
    go_simp
    try rfl
  · exact cl3.out X (bnext B0.out hX)
  apply walkA_norm
  · first | (simp only [List.nil_append, List.cons_append]; rfl) | simp only [List.nil_append, List.cons_append]
  refine walkA_is ?_ rfl (fun _ => Below.refl _ _) (fun u X hX hd => ?_) ?_
  rotate_left
  · obtain ⟨e1, e2⟩ := la.out X hX
    try simp at hd
    go_simp
    try rfl
  apply walkA_norm
  · first | (simp only [List.nil_append, List.cons_append]; rfl) | simp only [List.nil_append, List.cons_append]
  intro u X hX hsay htw
  simp only [sayAll, isV] at hsay
  obtain ⟨v0, v1, ⟨sA', sc', v2, hs2⟩, v3, v4, ⟨oA', oc', v5, ho2⟩, v6, ⟨bA', bc', v7, hb2⟩, v8, -⟩ := hsay
  have htw2 := htw 2 5 (by decide) (by decide) (by decide) rfl rfl
  rw [v2, v5] at htw2
  have M1 : Hid (MRow w.heap.size X st ou own sA' sn sc' oA' on oc' bA' bn bc') := Lib.hid ⟨hs2, ho2, hb2, htw2⟩
  have X1 := Lib.hid (X0.out.below hX)
  have hof := Lib.hid (M1.out.offM X1.out)
  have X2 : Hid (Bk ((X.setCell ⟨w.heap.size + 1, 2, none⟩ (.slice sA' sn sc')).setCell ⟨w.heap.size + 1, 7, none⟩ (.slice oA' on oc')) (w.heap.size + 1) 32 (mC pc fuel (.slice sA' sn sc') r0 r1 r2 r3 (.slice oA' on oc') true e0)) := Lib.hid (by simpa using (X1.out.set 2 (.slice sA' sn sc')).set 7 (.slice oA' on oc'))
  have R2 := Lib.hid (((R0.out.below hX).far (p := ⟨w.heap.size + 1, 2, none⟩) (by simp) (.slice sA' sn sc')).far (p := ⟨w.heap.size + 1, 7, none⟩) (by simp) (.slice oA' on oc'))
  have C2 := Lib.hid (((C0.out.below hX).far (p := ⟨w.heap.size + 1, 2, none⟩) (by simp) (.slice sA' sn sc')).far (p := ⟨w.heap.size + 1, 7, none⟩) (by simp) (.slice oA' on oc'))
  have M2 := Lib.hid ((M1.out.set hof.out 2 (.slice sA' sn sc')).set hof.out 7 (.slice oA' on oc'))
  have B2 := Lib.hid (((bnext B0.out hX).setCell (p := ⟨w.heap.size + 1, 2, none⟩) (by simp) (.slice sA' sn sc')).setCell (p := ⟨w.heap.size + 1, 7, none⟩) (by simp) (.slice oA' on oc'))
  have z0 := X1.out.cell 2
  have z1 := X1.out.cell 7
  have z2 := X1.out.cell 8
  have z3 := X1.out.cell 0
  have z4 := X1.out.cell 1
  have zf := X1.out.frozen
  have zl := X1.out.lt
  simp only [List.getElem?_toArray, List.getElem?_cons_zero, List.getElem?_cons_succ] at z0 z1 z2 z3 z4
  simp only [putAll, Act.put, v0, v1, v2, v3, v4, v5, v6, v7, v8, List.setIfInBounds_toArray, List.set_cons_succ, List.set_cons_zero]
  clear hs2 ho2 hb2 htw htw2 v0 v1 v2 v3 v4 v5 v6 v7 v8 cl1 cl2 cl3 la
  go_wp2_with (first
    | (with_reducible refine ld_mach (w.heap.size + 1) X2.out _ rfl rfl rfl ?_)
    | (with_reducible refine st_mach (w.heap.size + 1 + 1) R2.out rfl rfl _ _ rfl rfl rfl rfl ?_))
  exact bodyPost_ret (v := .tuple #[.agg (mC pc fuel (.slice sA' sn sc') r0 r1 r2 r3 (.slice oA' on oc') true e0), .slice bA' bn bc']) (res2_mach rfl _ _ (w.heap.size + 1 + 1) _ rfl rfl (Bk.setRow R2.out _)) rfl
    ⟨_, _, _, _, _, _, _, _, _, rfl, (M2.out.setRow (M2.out.offM R2.out) _).min, below_row B2.out (by omega) _, fun G hG => M2.out.off3 hG⟩

set_option maxHeartbeats 2000000 in
theorem step_nofuel (st ou : List Int) (own : Blks) (w : World) (hM : MIn w st ou own sA sn sc oA on oc bA bn bc) (hs : sn ≤ 1000) (ho : on ≤ 1000) (hbn : bn ≤ 1000) (hf : fuel < 1) :
    Calls Try.prog 21 #[cmV ra nr rc wa nw wc aa na ac cf ca nc cc, .agg (mC pc fuel (.slice sA sn sc) r0 r1 r2 r3 (.slice oA on oc) false e0), .slice bA bn bc] w (SPost pc fuel st r0 r1 r2 r3 [] true 11 own w) := by
  have hov := Lib.hid (fun sA sc oA oc W => over_bad pc fuel sA sn sc r0 r1 r2 r3 oA on oc false e0 11 (by decide) W)
  have cl1 := Lib.hid (fun (W : World) (hW : Below w.heap.size w W) => rowV_call (B := w.heap.size) hW.size (clone_ints sA sn sc _ W (hM.st.below hW) hs (ints_oneC st)))
  have cl2 := Lib.hid (fun (W : World) (hW : Below w.heap.size w W) => rowV_call (B := w.heap.size) hW.size (clone_ints oA on oc _ W (hM.ou.below hW) ho (ints_oneC ou)))
  have cl3 := Lib.hid (fun (W : World) (hW : Below w.heap.size w W) => rowV_call (B := w.heap.size) hW.size (clone_blks bA bn bc _ W (hM.bk.below hW) hbn (blksW_one own)))
  obtain ⟨wr, hW⟩ : ∃ W, W = ((w.alloc (.cells #[.slice ra nr rc, .slice wa nw wc, .slice aa na ac, .int .i64 cf, .slice ca nc cc] 25)).alloc (.cells (mC pc fuel (.slice sA sn sc) r0 r1 r2 r3 (.slice oA on oc) false e0) 32)).alloc (.cells mZ 32) := ⟨_, rfl⟩
  have B0 : Hid (Below w.heap.size w wr) := Lib.hid (by rw [hW]; exact sB_below _ _ _)
  have C0 : Hid (Bk wr w.heap.size 25 #[.slice ra nr rc, .slice wa nw wc, .slice aa na ac, .int .i64 cf, .slice ca nc cc]) := Lib.hid (by rw [hW]; exact sB_cmd _ _ _)
  have X0 : Hid (Bk wr (w.heap.size + 1) 32 (mC pc fuel (.slice sA sn sc) r0 r1 r2 r3 (.slice oA on oc) false e0)) := Lib.hid (by rw [hW]; exact sB_box _ _ _)
  have R0 : Hid (Bk wr (w.heap.size + 1 + 1) 32 mZ) := Lib.hid (by rw [hW]; exact sB_res _ _ _)
  have la : Hid (∀ X, Below wr.heap.size wr X → X.cell? ⟨w.heap.size + 1, 2, none⟩ = some (.slice sA sn sc) ∧ X.cell? ⟨w.heap.size + 1, 7, none⟩ = some (.slice oA on oc)) := Lib.hid (fun X hX => ⟨(X0.out.below hX).cell 2, (X0.out.below hX).cell 7⟩)
  clear hM
  go_enter Try.func21, Try.ntmps21
  go_wp2
  rw [← hW]
  clear hW
  try simp only [List.append_eq, List.cons_append, List.nil_append]
  refine wp_region_saysA 9 (fun x y => Below x.heap.size x y) (fun _ _ _ h k => bnext h k) (fun i => i == 2 || i == 5 || i == 7) wr (below_drew1 wr) (by kernel_rfl) (by kernel_rfl) (by kernel_rfl) (by kernel_rfl) (by rfl) ?_
  simp only [List.take_succ_cons, List.take_zero, List.drop_succ_cons, List.drop_zero]
  refine walkA_is ?_ rfl (fun _ => Below.refl _ _) (fun u X hX hd => ?_) ?_
  rotate_left
  · obtain ⟨e1, e2⟩ := la.out X hX
    try simp at hd
    go_simp
    try rfl
  apply walkA_norm
  · first | (simp only [List.nil_append]; rfl) | simp only [List.nil_append]
  refine walkA_is ?_ rfl (fun _ => Below.refl _ _) (fun u X hX hd => ?_) ?_
  rotate_left
  · obtain ⟨e1, e2⟩ := la.out X hX
    try simp at hd
    go_simp
    try rfl
  apply walkA_norm
  · first | (simp only [List.nil_append, List.cons_append]; rfl) | simp only [List.nil_append, List.cons_append]
  refine walkA_row (rowV w.heap.size 3 1 sn (st.map (.int .i64))) 24 ?_ (fun v x y hb h => rowV_keep v x y hb h) (fun v x h => rowV_lies v x h) (fun u X hX hd => ?_) (fun X hX => ?_) ?_
  rotate_left
  · obtain ⟨e1, e2⟩ := la.out X hX
    try simp at hd
    go_simp
    try rfl
  · exact cl1.out X (bnext B0.out hX)
  apply walkA_norm
  · first | (simp only [List.nil_append, List.cons_append]; rfl) | simp only [List.nil_append, List.cons_append]
  refine walkA_is ?_ rfl (fun _ => Below.refl _ _) (fun u X hX hd => ?_) ?_
  rotate_left
  · obtain ⟨e1, e2⟩ := la.out X hX
    try simp at hd
    go_simp
    try rfl
  apply walkA_norm
  · first | (simp only [List.nil_append, List.cons_append]; rfl) | simp only [List.nil_append, List.cons_append]
  refine walkA_is ?_ rfl (fun _ => Below.refl _ _) (fun u X hX hd => ?_) ?_
  rotate_left
  · obtain ⟨e1, e2⟩ := la.out X hX
    try simp at hd
    go_simp
    try rfl
  apply walkA_norm
  · first | (simp only [List.nil_append, List.cons_append]; rfl) | simp only [List.nil_append, List.cons_append]
  refine walkA_row (rowV w.heap.size 3 1 on (ou.map (.int .i64))) 24 ?_ (fun v x y hb h => rowV_keep v x y hb h) (fun v x h => rowV_lies v x h) (fun u X hX hd => ?_) (fun X hX => ?_) ?_
  rotate_left
  · obtain ⟨e1, e2⟩ := la.out X hX
    try simp at hd
    go_simp
    try rfl
  · exact cl2.out X (bnext B0.out hX)
  apply walkA_norm
  · first | (simp only [List.nil_append, List.cons_append]; rfl) | simp only [List.nil_append, List.cons_append]
  refine walkA_is ?_ rfl (fun _ => Below.refl _ _) (fun u X hX hd => ?_) ?_
  rotate_left
  · obtain ⟨e1, e2⟩ := la.out X hX
    try simp at hd
    go_simp
    try rfl
  apply walkA_norm
  · first | (simp only [List.nil_append, List.cons_append]; rfl) | simp only [List.nil_append, List.cons_append]
  refine walkA_row (rowV w.heap.size 47 8 bn (blksW own)) 23 ?_ (fun v x y hb h => rowV_keep v x y hb h) (fun v x h => rowV_lies v x h) (fun u X hX hd => ?_) (fun X hX => ?_) ?_
  rotate_left
  · obtain ⟨e1, e2⟩ := la.out X hX
    try simp at hd
    go_simp
    try rfl
  · exact cl3.out X (bnext B0.out hX)
  apply walkA_norm
  · first | (simp only [List.nil_append, List.cons_append]; rfl) | simp only [List.nil_append, List.cons_append]
  refine walkA_is ?_ rfl (fun _ => Below.refl _ _) (fun u X hX hd => ?_) ?_
  rotate_left
  · obtain ⟨e1, e2⟩ := la.out X hX
    try simp at hd
    go_simp
    try rfl
  apply walkA_norm
  · first | (simp only [List.nil_append, List.cons_append]; rfl) | simp only [List.nil_append, List.cons_append]
  intro u X hX hsay htw
  simp only [sayAll, isV] at hsay
  obtain ⟨v0, v1, ⟨sA', sc', v2, hs2⟩, v3, v4, ⟨oA', oc', v5, ho2⟩, v6, ⟨bA', bc', v7, hb2⟩, v8, -⟩ := hsay
  have htw2 := htw 2 5 (by decide) (by decide) (by decide) rfl rfl
  rw [v2, v5] at htw2
  have M1 : Hid (MRow w.heap.size X st ou own sA' sn sc' oA' on oc' bA' bn bc') := Lib.hid ⟨hs2, ho2, hb2, htw2⟩
  have X1 := Lib.hid (X0.out.below hX)
  have hof := Lib.hid (M1.out.offM X1.out)
  have X2 : Hid (Bk ((X.setCell ⟨w.heap.size + 1, 2, none⟩ (.slice sA' sn sc')).setCell ⟨w.heap.size + 1, 7, none⟩ (.slice oA' on oc')) (w.heap.size + 1) 32 (mC pc fuel (.slice sA' sn sc') r0 r1 r2 r3 (.slice oA' on oc') false e0)) := Lib.hid (by simpa using (X1.out.set 2 (.slice sA' sn sc')).set 7 (.slice oA' on oc'))
  have R2 := Lib.hid (((R0.out.below hX).far (p := ⟨w.heap.size + 1, 2, none⟩) (by simp) (.slice sA' sn sc')).far (p := ⟨w.heap.size + 1, 7, none⟩) (by simp) (.slice oA' on oc'))
  have C2 := Lib.hid (((C0.out.below hX).far (p := ⟨w.heap.size + 1, 2, none⟩) (by simp) (.slice sA' sn sc')).far (p := ⟨w.heap.size + 1, 7, none⟩) (by simp) (.slice oA' on oc'))
  have M2 := Lib.hid ((M1.out.set hof.out 2 (.slice sA' sn sc')).set hof.out 7 (.slice oA' on oc'))
  have B2 := Lib.hid (((bnext B0.out hX).setCell (p := ⟨w.heap.size + 1, 2, none⟩) (by simp) (.slice sA' sn sc')).setCell (p := ⟨w.heap.size + 1, 7, none⟩) (by simp) (.slice oA' on oc'))
  have z0 := X1.out.cell 2
  have z1 := X1.out.cell 7
  have z2 := X1.out.cell 8
  have z3 := X1.out.cell 0
  have z4 := X1.out.cell 1
  have zf := X1.out.frozen
  have zl := X1.out.lt
  simp only [List.getElem?_toArray, List.getElem?_cons_zero, List.getElem?_cons_succ] at z0 z1 z2 z3 z4
  simp only [putAll, Act.put, v0, v1, v2, v3, v4, v5, v6, v7, v8, List.setIfInBounds_toArray, List.set_cons_succ, List.set_cons_zero]
  clear hs2 ho2 hb2 htw htw2 v0 v1 v2 v3 v4 v5 v6 v7 v8 cl1 cl2 cl3 la
  go_wp2_with (first
    | (with_reducible refine ld_mach (w.heap.size + 1) X2.out _ rfl rfl rfl ?_)
    | (go_at_call 34; go_must ((with_reducible refine (hov.out _ _ _ _ _).mono ?_); rintro e w1 ⟨rfl, hb1⟩; have R3 := Lib.hid (R2.out.below hb1); have M3 := Lib.hid (M2.out.below hb1).mute; have B3 := Lib.hid (bnext B2.out hb1); clear hb1))
    | (with_reducible refine st_mach (w.heap.size + 1 + 1) R3.out rfl rfl _ _ rfl rfl rfl rfl ?_))
  exact bodyPost_ret (v := .tuple #[.agg (mC pc fuel (.slice sA' sn sc') r0 r1 r2 r3 (.slice none 0 0) true 11), .slice bA' bn bc']) (res2_mach rfl _ _ (w.heap.size + 1 + 1) _ rfl rfl (Bk.setRow R3.out _)) rfl
    ⟨_, _, _, _, _, _, _, _, _, rfl, (M3.out.setRow (M3.out.offM R3.out) _).min, below_row B3.out (by omega) _, fun G hG => M3.out.off3 hG⟩

set_option maxHeartbeats 2000000 in
theorem step_go (st ou : List Int) (own : Blks) (w : World) (hM : MIn w st ou own sA sn sc oA on oc bA bn bc) (hs : sn ≤ 1000) (ho : on ≤ 1000) (hbn : bn ≤ 1000) (hf : 1 ≤ fuel ∧ fuel ≤ 1000) (code : List Ins) (hcode : Inss w ca cc code) (hnc : code.length = nc) (i : Nat) (hi : i < nc) (hpc : pc = i) (hnc2 : nc ≤ 1000)
    (pc' fuel' : Int) (st' ou' : List Int) (q0 q1 q2 q3 : Int) (ov' : Bool) (e' : Int) (own' : Blks)
    (hbh : ∀ (W : World) (sA' : Option Addr) (sc' : Nat) (oA' : Option Addr) (oc' : Nat) (bA' : Option Addr) (bc' : Nat), Below w.heap.size w W → MRow w.heap.size W st ou own sA' sn sc' oA' on oc' bA' bn bc' →
      Calls Try.prog 36 #[.agg #[.int .i64 (insAt code i).op, .int .i64 (insAt code i).a, .int .i64 (insAt code i).b], .slice aa na ac, .agg (mC ((i : Int) + 1) (fuel - 1) (.slice sA' sn sc') r0 r1 r2 r3 (.slice oA' on oc') false e0), .slice bA' bn bc'] W
        (StepPost w.heap.size (.slice sA' sn sc') (.slice oA' on oc') (.slice bA' bn bc') pc' fuel' st' q0 q1 q2 q3 ou' ov' e' own' W)) :
    Calls Try.prog 21 #[cmV ra nr rc wa nw wc aa na ac cf ca nc cc, .agg (mC pc fuel (.slice sA sn sc) r0 r1 r2 r3 (.slice oA on oc) false e0), .slice bA bn bc] w (SPost pc' fuel' st' q0 q1 q2 q3 ou' ov' e' own' w) := by
  subst hpc
  subst hnc
  have hat := Lib.hid (fun (W : World) (hW : Below w.heap.size w W) => atIns_in code ca cc i W (hcode.below hW) hi)
  have HB := Lib.hid hbh
  generalize insAt code i = x at *
  generalize code.length = nc at *
  clear hcode hbh
  have cl1 := Lib.hid (fun (W : World) (hW : Below w.heap.size w W) => rowV_call (B := w.heap.size) hW.size (clone_ints sA sn sc _ W (hM.st.below hW) hs (ints_oneC st)))
  have cl2 := Lib.hid (fun (W : World) (hW : Below w.heap.size w W) => rowV_call (B := w.heap.size) hW.size (clone_ints oA on oc _ W (hM.ou.below hW) ho (ints_oneC ou)))
  have cl3 := Lib.hid (fun (W : World) (hW : Below w.heap.size w W) => rowV_call (B := w.heap.size) hW.size (clone_blks bA bn bc _ W (hM.bk.below hW) hbn (blksW_one own)))
  obtain ⟨wr, hW⟩ : ∃ W, W = ((w.alloc (.cells #[.slice ra nr rc, .slice wa nw wc, .slice aa na ac, .int .i64 cf, .slice ca nc cc] 25)).alloc (.cells (mC (i : Int) fuel (.slice sA sn sc) r0 r1 r2 r3 (.slice oA on oc) false e0) 32)).alloc (.cells mZ 32) := ⟨_, rfl⟩
  have B0 : Hid (Below w.heap.size w wr) := Lib.hid (by rw [hW]; exact sB_below _ _ _)
  have C0 : Hid (Bk wr w.heap.size 25 #[.slice ra nr rc, .slice wa nw wc, .slice aa na ac, .int .i64 cf, .slice ca nc cc]) := Lib.hid (by rw [hW]; exact sB_cmd _ _ _)
  have X0 : Hid (Bk wr (w.heap.size + 1) 32 (mC (i : Int) fuel (.slice sA sn sc) r0 r1 r2 r3 (.slice oA on oc) false e0)) := Lib.hid (by rw [hW]; exact sB_box _ _ _)
  have R0 : Hid (Bk wr (w.heap.size + 1 + 1) 32 mZ) := Lib.hid (by rw [hW]; exact sB_res _ _ _)
  have la : Hid (∀ X, Below wr.heap.size wr X → X.cell? ⟨w.heap.size + 1, 2, none⟩ = some (.slice sA sn sc) ∧ X.cell? ⟨w.heap.size + 1, 7, none⟩ = some (.slice oA on oc)) := Lib.hid (fun X hX => ⟨(X0.out.below hX).cell 2, (X0.out.below hX).cell 7⟩)
  clear hM
  go_enter Try.func21, Try.ntmps21
  go_wp2
  rw [← hW]
  clear hW
  try simp only [List.append_eq, List.cons_append, List.nil_append]
  refine wp_region_saysA 9 (fun x y => Below x.heap.size x y) (fun _ _ _ h k => bnext h k) (fun i => i == 2 || i == 5 || i == 7) wr (below_drew1 wr) (by kernel_rfl) (by kernel_rfl) (by kernel_rfl) (by kernel_rfl) (by rfl) ?_
  simp only [List.take_succ_cons, List.take_zero, List.drop_succ_cons, List.drop_zero]
  refine walkA_is ?_ rfl (fun _ => Below.refl _ _) (fun u X hX hd => ?_) ?_
  rotate_left
  · obtain ⟨e1, e2⟩ := la.out X hX
    try simp at hd
    go_simp
    try rfl
  apply walkA_norm
  · first | (simp only [List.nil_append]; rfl) | simp only [List.nil_append]
  refine walkA_is ?_ rfl (fun _ => Below.refl _ _) (fun u X hX hd => ?_) ?_
  rotate_left
  · obtain ⟨e1, e2⟩ := la.out X hX
    try simp at hd
    go_simp
    try rfl
  apply walkA_norm
  · first | (simp only [List.nil_append, List.cons_append]; rfl) | simp only [List.nil_append, List.cons_append]
  refine walkA_row (rowV w.heap.size 3 1 sn (st.map (.int .i64))) 24 ?_ (fun v x y hb h => rowV_keep v x y hb h) (fun v x h => rowV_lies v x h) (fun u X hX hd => ?_) (fun X hX => ?_) ?_
  rotate_left
  · obtain ⟨e1, e2⟩ := la.out X hX
    try simp at hd
    go_simp
    try rfl
  · exact cl1.out X (bnext B0.out hX)
  apply walkA_norm
  · first | (simp only [List.nil_append, List.cons_append]; rfl) | simp only [List.nil_append, List.cons_append]
  refine walkA_is ?_ rfl (fun _ => Below.refl _ _) (fun u X hX hd => ?_) ?_
  rotate_left
  · obtain ⟨e1, e2⟩ := la.out X hX
    try simp at hd
    go_simp
    try rfl
  apply walkA_norm
  · first | (simp only [List.nil_append, List.cons_append]; rfl) | simp only [List.nil_append, List.cons_append]
  refine walkA_is ?_ rfl (fun _ => Below.refl _ _) (fun u X hX hd => ?_) ?_
  rotate_left
  · obtain ⟨e1, e2⟩ := la.out X hX
    try simp at hd
    go_simp
    try rfl
  apply walkA_norm
  · first | (simp only [List.nil_append, List.cons_append]; rfl) | simp only [List.nil_append, List.cons_append]
  refine walkA_row (rowV w.heap.size 3 1 on (ou.map (.int .i64))) 24 ?_ (fun v x y hb h => rowV_keep v x y hb h) (fun v x h => rowV_lies v x h) (fun u X hX hd => ?_) (fun X hX => ?_) ?_
  rotate_left
  · obtain ⟨e1, e2⟩ := la.out X hX
    try simp at hd
    go_simp
    try rfl
  · exact cl2.out X (bnext B0.out hX)
  apply walkA_norm
  · first | (simp only [List.nil_append, List.cons_append]; rfl) | simp only [List.nil_append, List.cons_append]
  refine walkA_is ?_ rfl (fun _ => Below.refl _ _) (fun u X hX hd => ?_) ?_
  rotate_left
  · obtain ⟨e1, e2⟩ := la.out X hX
    try simp at hd
    go_simp
    try rfl
  apply walkA_norm
  · first | (simp only [List.nil_append, List.cons_append]; rfl) | simp only [List.nil_append, List.cons_append]
  refine walkA_row (rowV w.heap.size 47 8 bn (blksW own)) 23 ?_ (fun v x y hb h => rowV_keep v x y hb h) (fun v x h => rowV_lies v x h) (fun u X hX hd => ?_) (fun X hX => ?_) ?_
  rotate_left
  · obtain ⟨e1, e2⟩ := la.out X hX
    try simp at hd
    go_simp
    try rfl
  · exact cl3.out X (bnext B0.out hX)
  apply walkA_norm
  · first | (simp only [List.nil_append, List.cons_append]; rfl) | simp only [List.nil_append, List.cons_append]
  refine walkA_is ?_ rfl (fun _ => Below.refl _ _) (fun u X hX hd => ?_) ?_
  rotate_left
  · obtain ⟨e1, e2⟩ := la.out X hX
    try simp at hd
    go_simp
    try rfl
  apply walkA_norm
  · first | (simp only [List.nil_append, List.cons_append]; rfl) | simp only [List.nil_append, List.cons_append]
  intro u X hX hsay htw
  simp only [sayAll, isV] at hsay
  obtain ⟨v0, v1, ⟨sA', sc', v2, hs2⟩, v3, v4, ⟨oA', oc', v5, ho2⟩, v6, ⟨bA', bc', v7, hb2⟩, v8, -⟩ := hsay
  have htw2 := htw 2 5 (by decide) (by decide) (by decide) rfl rfl
  rw [v2, v5] at htw2
  have M1 : Hid (MRow w.heap.size X st ou own sA' sn sc' oA' on oc' bA' bn bc') := Lib.hid ⟨hs2, ho2, hb2, htw2⟩
  have X1 := Lib.hid (X0.out.below hX)
  have hof := Lib.hid (M1.out.offM X1.out)
  have X2 : Hid (Bk ((X.setCell ⟨w.heap.size + 1, 2, none⟩ (.slice sA' sn sc')).setCell ⟨w.heap.size + 1, 7, none⟩ (.slice oA' on oc')) (w.heap.size + 1) 32 (mC (i : Int) fuel (.slice sA' sn sc') r0 r1 r2 r3 (.slice oA' on oc') false e0)) := Lib.hid (by simpa using (X1.out.set 2 (.slice sA' sn sc')).set 7 (.slice oA' on oc'))
  have R2 := Lib.hid (((R0.out.below hX).far (p := ⟨w.heap.size + 1, 2, none⟩) (by simp) (.slice sA' sn sc')).far (p := ⟨w.heap.size + 1, 7, none⟩) (by simp) (.slice oA' on oc'))
  have C2 := Lib.hid (((C0.out.below hX).far (p := ⟨w.heap.size + 1, 2, none⟩) (by simp) (.slice sA' sn sc')).far (p := ⟨w.heap.size + 1, 7, none⟩) (by simp) (.slice oA' on oc'))
  have M2 := Lib.hid ((M1.out.set hof.out 2 (.slice sA' sn sc')).set hof.out 7 (.slice oA' on oc'))
  have B2 := Lib.hid (((bnext B0.out hX).setCell (p := ⟨w.heap.size + 1, 2, none⟩) (by simp) (.slice sA' sn sc')).setCell (p := ⟨w.heap.size + 1, 7, none⟩) (by simp) (.slice oA' on oc'))
  have z0 := X1.out.cell 2
  have z1 := X1.out.cell 7
  have z2 := X1.out.cell 8
  have z3 := X1.out.cell 0
  have z4 := X1.out.cell 1
  have zf := X1.out.frozen
  have zl := X1.out.lt
  simp only [List.getElem?_toArray, List.getElem?_cons_zero, List.getElem?_cons_succ] at z0 z1 z2 z3 z4
  simp only [putAll, Act.put, v0, v1, v2, v3, v4, v5, v6, v7, v8, List.setIfInBounds_toArray, List.set_cons_succ, List.set_cons_zero]
  clear hs2 ho2 hb2 htw htw2 v0 v1 v2 v3 v4 v5 v6 v7 v8 cl1 cl2 cl3 la
  obtain ⟨y0, y1, y2, y3, y4, yf⟩ := C2.out.cmd
  have yl := C2.out.lt
  have H2 := Lib.hid (hat.out _ B2.out)
  clear hat
  go_wp2_with (first
    | (go_at_call 35; go_must ((with_reducible refine H2.out.mono ?_); rintro e w1 ⟨rfl, hb1⟩; have XX := X2.out.below hb1; have RR := R2.out.below hb1; have MM := M2.out.below hb1; have hof3 := MM.offM XX; have X4 : Hid (Bk (((w1.setCell ⟨w.heap.size + 1, 1, none⟩ (.int .i64 (fuel - 1))).setCell ⟨w.heap.size + 1, 0, none⟩ (.int .i64 ((i : Int) + 1))).alloc (IObj x)) (w.heap.size + 1) 32 (mC ((i : Int) + 1) (fuel - 1) (.slice sA' sn sc') r0 r1 r2 r3 (.slice oA' on oc') false e0)) := Lib.hid (by simpa using (((XX.set 1 (.int .i64 (fuel - 1))).set 0 (.int .i64 ((i : Int) + 1))).alloc (IObj x))); have R4 : Hid (Bk (((w1.setCell ⟨w.heap.size + 1, 1, none⟩ (.int .i64 (fuel - 1))).setCell ⟨w.heap.size + 1, 0, none⟩ (.int .i64 ((i : Int) + 1))).alloc (IObj x)) (w.heap.size + 1 + 1) 32 mZ) := Lib.hid (((RR.far (p := ⟨w.heap.size + 1, 1, none⟩) (by simp) _).far (p := ⟨w.heap.size + 1, 0, none⟩) (by simp) _).alloc _); have M4 : Hid (MRow w.heap.size (((w1.setCell ⟨w.heap.size + 1, 1, none⟩ (.int .i64 (fuel - 1))).setCell ⟨w.heap.size + 1, 0, none⟩ (.int .i64 ((i : Int) + 1))).alloc (IObj x)) st ou own sA' sn sc' oA' on oc' bA' bn bc') := Lib.hid (((MM.set hof3 1 _).set hof3 0 _).below (below_alloc1 _ _)); have B4 : Hid (Below w.heap.size w (((w1.setCell ⟨w.heap.size + 1, 1, none⟩ (.int .i64 (fuel - 1))).setCell ⟨w.heap.size + 1, 0, none⟩ (.int .i64 ((i : Int) + 1))).alloc (IObj x))) := Lib.hid (bnext (((bnext B2.out hb1).setCell (p := ⟨w.heap.size + 1, 1, none⟩) (by simp) _).setCell (p := ⟨w.heap.size + 1, 0, none⟩) (by simp) _) (below_alloc1 _ _)); have HC := Lib.hid (HB.out _ sA' sc' oA' oc' bA' bc' B4.out M4.out); have hof4 := Lib.hid (M4.out.offM R4.out); have l0 := XX.cell 0; have l1 := XX.cell 1; have lf := XX.frozen; have ll := XX.lt; simp only [List.getElem?_toArray, List.getElem?_cons_zero, List.getElem?_cons_succ] at l0 l1; obtain ⟨u0, u1, u2, u3, u4, uf⟩ := (C2.out.below hb1).cmd; have ul := (C2.out.below hb1).lt; clear XX RR MM hof3 hb1 z0 z1 z2 z3 z4 zf zl y0 y1 y2 y3 y4 yf yl))
    | (with_reducible refine ld_mach (w.heap.size + 1) X4.out _ rfl rfl rfl ?_)
    | (go_at_call 36; go_must ((with_reducible refine HC.out.mono ?_); rintro e w5 ⟨sA5, sn5, sc5, oA5, on5, oc5, bA5, bn5, bc5, rfl, M5, B5⟩; have R5 := Lib.hid (B5.bk R4.out hof4.out.1 hof4.out.2.1 hof4.out.2.2); have M6 := Lib.hid M5; have B6 := Lib.hid (B4.out.trans B5.below); clear M5 B5))
    | (with_reducible refine st_mach (w.heap.size + 1 + 1) R5.out rfl rfl _ _ rfl rfl rfl rfl ?_))
  exact bodyPost_ret (v := .tuple #[.agg (mC pc' fuel' (.slice sA5 sn5 sc5) q0 q1 q2 q3 (.slice oA5 on5 oc5) ov' e'), .slice bA5 bn5 bc5]) (res2_mach rfl _ _ (w.heap.size + 1 + 1) _ rfl rfl (Bk.setRow R5.out _)) rfl
    ⟨_, _, _, _, _, _, _, _, _, rfl, (M6.out.setRow (M6.out.offM R5.out) _).min, below_row B6.out (by omega) _, fun G hG => M6.out.off3 hG⟩

end
end Go.Proofs.Ytoomadafgkcebaa
