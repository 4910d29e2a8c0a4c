/-
  What run.Tells answers lies in no block that was there ahead of it; a call whose arguments hang on what other operations left; a drawn call that tells a result. No conditions but those that stand there.
-/
import Derived.Test.YtibmfhmeoohdeaaZRunC
namespace Go.Proofs.Ytibmfhmeoohdeaa
open Go.RowKit
attribute [local go_sem] look findAt
attribute [local simp] depsOf isV Region.binds

/-- A call whose arguments hang on what other operations left. -/
theorem walkK_callU {P : Program} {md : Region.Mode} {R : World → World → Prop} {W : World} {a : Act} {heads : List Oper} {fin : List Says → Prop} {o : Oper} {rest : List Oper} {φs : List Says} (φ : Says) (f : FuncId) (hgs : guardSays φs o) (hst : ∀ v w w', R w w' → φ v w → φ v w')
    (hy : ∀ u w, R W w → depsOf md φs u w o.after.toList → ∃ args, (execOp (look a heads u) o).run P w = .ok (.enter f args) w ∧ Calls P f args w fun e w' => ∃ v, e = .returned v ∧ R w w' ∧ φ v w')
    (h : walkK P md R W a heads fin rest (φs ++ [φ])) : walkK P md R W a heads fin (o :: rest) φs :=
  ⟨φ, hst, .inl ⟨hgs, fun u w hw hd => by
    obtain ⟨args, h1, h2⟩ := hy u w hw hd
    unfold yieldsTo
    rw [h1]
    exact h2⟩, h⟩

/-- a result, its list wherever. -/
def rsV (seq told : Int) (ou : List Int) : Says := fun v w => ∃ A n c, v = .agg (rC seq told (.slice A n c)) ∧ Sl w 1 A n c (ou.map (.int .i64))
theorem rsV_keep {seq told : Int} {ou : List Int} (v : Value) (x y : World) (hb : Below x.heap.size x y) (h : rsV seq told ou v x) : rsV seq told ou v y := by
  obtain ⟨A, n, c, e, hs⟩ := h
  exact ⟨A, n, c, e, hs.below hb⟩

/-- a result in memory, in no block that was there. -/
def TlPost (seq told : Int) (ou : List Int) (w : World) (e : Ending) (w' : World) : Prop :=
  ∃ A n c, e = .returned (.agg (rC seq told (.slice A n c))) ∧ Sl w' 1 A n c (ou.map (.int .i64)) ∧ Below w.heap.size w w' ∧ ∀ G, G < w.heap.size → offA G A n

section
variable (seq pc fuel : Int) (sA : Option Addr) (sn sc : Nat) (r0 r1 r2 r3 : Int) (oA : Option Addr) (on oc : Nat) (ov : Bool) (e0 : Int)

set_option maxHeartbeats 2000000 in
theorem tells_off (ou : List Int) (w : World) (hO : Sl w 1 oA on oc (ou.map (.int .i64))) (hon : on ≤ 1000) :
    Calls Try.prog 24 #[.int .i64 seq, .agg (mC pc fuel (.slice sA sn sc) r0 r1 r2 r3 (.slice oA on oc) ov e0)] w (TlPost seq e0 ou w) := by
  obtain ⟨t1, t2, t3⟩ := tW_is (mC pc fuel (.slice sA sn sc) r0 r1 r2 r3 (.slice oA on oc) ov e0) w
  obtain ⟨wr, hW⟩ : ∃ W, W = (w.alloc (.cells (mC pc fuel (.slice sA sn sc) r0 r1 r2 r3 (.slice oA on oc) ov e0) 54)).alloc (.cells #[.int .i64 0, .int .i64 0, .slice none 0 0] 31) := ⟨_, rfl⟩
  rw [show tW (mC pc fuel (.slice sA sn sc) r0 r1 r2 r3 (.slice oA on oc) ov e0) w = wr from hW.symm] at t1 t2 t3
  have cl := Lib.hid (fun (W : World) (hW : Below wr.heap.size wr W) => rowV_call (B := wr.heap.size) hW.size (clone_ints oA on oc _ W (hO.below (bnext t1 hW)) hon (ints_oneC ou)))
  have B0 := Lib.hid t1
  have X0 := Lib.hid t2
  have R0 := Lib.hid t3
  have la : Hid (∀ X, Below wr.heap.size wr X → X.cell? ⟨w.heap.size, 9, none⟩ = some (.int .i64 e0) ∧ X.cell? ⟨w.heap.size, 7, none⟩ = some (.slice oA on oc)) := Lib.hid (fun X hX => ⟨(X0.out.below hX).cell 9, (X0.out.below hX).cell 7⟩)
  clear t1 t2 t3 hO
  go_enter Try.func24, Try.ntmps24
  go_wp2
  rw [← hW]
  clear hW
  try simp only [List.append_eq, List.cons_append, List.nil_append]
  refine wp_region_saysK 6 (fun x y => Below x.heap.size x y) (fun _ _ _ h k => bnext h k) wr (below_drew1 wr) (by kernel_rfl) (by kernel_rfl) (by kernel_rfl) (by kernel_rfl) (by rfl) ?_
  simp only [List.take_succ_cons, List.take_zero, List.drop_succ_cons, List.drop_zero]
  refine walkK_is ?_ (by first | exact gs0 rfl | exact gs1 rfl rfl rfl) (fun _ => Below.refl _ _) (fun u X hX hd => ?_) ?_
  rotate_left
  · obtain ⟨e1, e2⟩ := la.out X hX
    try simp at hd
    go_simp
    try rfl
  apply walkK_norm
  · first | (simp only [List.nil_append]; rfl) | simp only [List.nil_append]
  refine walkK_is ?_ (by first | exact gs0 rfl | exact gs1 rfl rfl rfl) (fun _ => Below.refl _ _) (fun u X hX hd => ?_) ?_
  rotate_left
  · obtain ⟨e1, e2⟩ := la.out X hX
    try simp at hd
    go_simp
    try rfl
  apply walkK_norm
  · first | (simp only [List.nil_append, List.cons_append]; rfl) | simp only [List.nil_append, List.cons_append]
  refine walkK_is ?_ (by first | exact gs0 rfl | exact gs1 rfl rfl rfl) (fun _ => Below.refl _ _) (fun u X hX hd => ?_) ?_
  rotate_left
  · obtain ⟨e1, e2⟩ := la.out X hX
    try simp at hd
    go_simp
    try rfl
  apply walkK_norm
  · first | (simp only [List.nil_append, List.cons_append]; rfl) | simp only [List.nil_append, List.cons_append]
  refine walkK_is ?_ (by first | exact gs0 rfl | exact gs1 rfl rfl rfl) (fun _ => Below.refl _ _) (fun u X hX hd => ?_) ?_
  rotate_left
  · obtain ⟨e1, e2⟩ := la.out X hX
    try simp at hd
    go_simp
    try rfl
  apply walkK_norm
  · first | (simp only [List.nil_append, List.cons_append]; rfl) | simp only [List.nil_append, List.cons_append]
  refine walkK_is ?_ (by first | exact gs0 rfl | exact gs1 rfl rfl rfl) (fun _ => Below.refl _ _) (fun u X hX hd => ?_) ?_
  rotate_left
  · obtain ⟨e1, e2⟩ := la.out X hX
    try simp at hd
    go_simp
    try rfl
  apply walkK_norm
  · first | (simp only [List.nil_append, List.cons_append]; rfl) | simp only [List.nil_append, List.cons_append]
  refine walkK_call (rowV wr.heap.size 3 1 on (ou.map (.int .i64))) 35 ?_ (by first | exact gs0 rfl | exact gs1 rfl rfl rfl) (fun v x y hb h => rowV_keep v x y hb h) (fun u X hX hd => ?_) (fun X hX => ?_) ?_
  rotate_left
  · obtain ⟨e1, e2⟩ := la.out X hX
    try simp at hd
    go_simp
    try rfl
  · exact (cl.out X hX).mono fun e X' ⟨v, he, hb, ho, _⟩ => ⟨v, he, hb, ho⟩
  apply walkK_norm
  · first | (simp only [List.nil_append, List.cons_append]; rfl) | simp only [List.nil_append, List.cons_append]
  intro u X hX hsay
  simp only [sayAll, isV] at hsay
  obtain ⟨v0, v1, v2, v3, v4, ⟨A', c', v5, hs2⟩, -⟩ := hsay
  have R2 := Lib.hid (R0.out.below hX)
  have S2 := Lib.hid (Sl.own' hs2)
  have O2 := Lib.hid (fun (G : Nat) (hG : G < wr.heap.size) => own_offA hs2 (G := G) hG)
  have Z2 := B0.out.size
  have L2 := R0.out.lt
  have B2 := Lib.hid (bnext B0.out hX)
  simp only [putAll, Act.put, v0, v1, v2, v3, v4, v5, List.setIfInBounds_toArray, List.set_cons_succ, List.set_cons_zero]
  clear hs2 v0 v1 v2 v3 v4 v5 cl la
  go_wp2_with (with_reducible refine st_rs (w.heap.size + 1) R2.out rfl _ _ rfl rfl rfl rfl ?_)
  exact bodyPost_ret (v := .agg (rC seq e0 (.slice A' on c'))) (res_rs rfl _ _ (w.heap.size + 1) rfl (Bk.setRow R2.out _)) rfl ⟨_, _, _, rfl, S2.out.offSet (O2.out _ L2) (by simp) (fun k hk _ => setRow_other X (w.heap.size + 1) k _ hk), below_row B2.out (by omega) _, fun G hG => O2.out G (by omega)⟩

end
end Go.Proofs.Ytibmfhmeoohdeaa
