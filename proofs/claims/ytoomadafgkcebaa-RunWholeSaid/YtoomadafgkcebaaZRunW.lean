/-
  RunWhole, walked: true of any command, any blocks and any number, in whatever memory.
-/
import Derived.Test.YtoomadafgkcebaaZRrgt
import Derived.Test.YtoomadafgkcebaaZRunD
import Derived.Test.YtoomadafgkcebaaZRunE
import Derived.Test.YtoomadafgkcebaaQRely
import Derived.Test.YtoomadafgkcebaaQRowT
namespace Go.Proofs.Ytoomadafgkcebaa
open Go.RowKit
attribute [local go_sem] look findAt
attribute [local simp] depsOf isV Region.binds

/-- A call whose arguments hang on what other operations left. -/
theorem walkK_callU {P : Program} {md : Region.Mode} {R : World → World → Prop} {W : World} {a : Act} {heads : List Oper} {fin : List Says → Prop} {o : Oper} {rest : List Oper} {φs : List Says} (φ : Says) (f : FuncId) (hgs : guardSays φs o) (hst : ∀ v w w', R w w' → φ v w → φ v w')
    (hy : ∀ u w, R W w → depsOf md φs u w o.after.toList → ∃ args, (execOp (look a heads u) o).run P w = .ok (.enter f args) w ∧ Calls P f args w fun e w' => ∃ v, e = .returned v ∧ R w w' ∧ φ v w')
    (h : walkK P md R W a heads fin rest (φs ++ [φ])) : walkK P md R W a heads fin (o :: rest) φs :=
  ⟨φ, hst, .inl ⟨hgs, fun u w hw hd => by
    obtain ⟨args, h1, h2⟩ := hy u w hw hd
    unfold yieldsTo
    rw [h1]
    exact h2⟩, h⟩

/-- a result, its list wherever. -/
def rsV (seq told : Int) (ou : List Int) : Says := fun v w => ∃ A n c, v = .agg (rC seq told (.slice A n c)) ∧ Sl w 1 A n c (ou.map (.int .i64))
theorem rsV_keep {seq told : Int} {ou : List Int} (v : Value) (x y : World) (hb : Below x.heap.size x y) (h : rsV seq told ou v x) : rsV seq told ou v y := by
  obtain ⟨A, n, c, e, hs⟩ := h
  exact ⟨A, n, c, e, hs.below hb⟩

section
variable (c : Cmd) (ra : Option Addr) (nr rc : Nat) (wa : Option Addr) (nw wc : Nat) (aa : Option Addr) (na ac : Nat) (ca : Option Addr) (nc cc : Nat)
variable (own : Blks) (bA : Option Addr) (bn bc : Nat) (most : Int)

set_option maxHeartbeats 16000000 in
set_option maxRecDepth 100000 in
theorem runWhole_no (w : World) (h : CmRaw w c ra nr rc wa nw wc aa na ac ca nc cc) (hno : ¬ (MayBe c ∧ bn = nr + nw)) :
    Calls Try.prog 3 #[cmV ra nr rc wa nw wc aa na ac c.fuel ca nc cc, .slice bA bn bc, .int .i64 most] w fun e w' => e = .returned (.bool true) ∧ Below w.heap.size w w' := by
  have hrt := Lib.hid (fun W (hW : Below w.heap.size w W) => right_any c ra nr rc wa nw wc aa na ac ca nc cc bA bn bc W (h.below hW) false ⟨(fun q => by cases q), fun q => absurd q hno⟩)
  have B0 := Lib.hid (below_alloc1 w (CmObj ra nr rc wa nw wc aa na ac c.fuel ca nc cc))
  have aw := Lib.hid (fun W => awake11 W)
  clear h hno
  generalize c.fuel = fuel at *
  go_enter Try.func3, Try.ntmps3
  go_wp2_with (first
    | (go_at_call 7; go_must ((with_reducible refine (hrt.out _ B0.out).mono ?_); rintro e w1 ⟨rfl, hb1⟩; have B1 := Lib.hid (bnext B0.out hb1); clear hb1))
    | (go_at_call 8; go_must ((with_reducible refine (aw.out _).mono ?_); rintro e w2 ⟨rfl, hb2⟩; have B2 := Lib.hid (bnext B1.out hb2))))
  go_ret
  exact ⟨rfl, B2.out⟩

set_option maxHeartbeats 16000000 in
set_option maxRecDepth 100000 in
theorem runWhole_yes (hm : MayBe c) (hown : own.length = c.reads.length + c.writes.length) (h8 : ∀ b ∈ own, b.length = 8) (hmo : -9223372036854775808 ≤ most ∧ most ≤ 9223372036854775807) (w : World) (h : CmRaw w c ra nr rc wa nw wc aa na ac ca nc cc) (hO : Sl w 8 bA bn bc (blksW own)) (hbn : bn = nr + nw) :
    Calls Try.prog 3 #[cmV ra nr rc wa nw wc aa na ac c.fuel ca nc cc, .slice bA bn bc, .int .i64 most] w fun e w' => e = .returned (.bool true) ∧ Below w.heap.size w w' := by
  have hC := h.maybe hm
  have hrt := Lib.hid (fun W (hW : Below w.heap.size w W) => right_any c ra nr rc wa nw wc aa na ac ca nc cc bA bn bc W (h.below hW) true ⟨fun _ => ⟨hm, hbn⟩, fun _ => rfl⟩)
  obtain ⟨n, pc, f, st, regs, ou, to, bl, hE, hR, n1, n2, n3, -, -⟩ := run_ends hm hown h8
  obtain ⟨pc', f', st', regs', ou', ov', to', bl', hR'⟩ := runs_to hm hown h8 most.toNat
  have hb1000 : bn ≤ 1000 := by
    obtain ⟨f1, f2, -, -, -, -⟩ := hm.few
    have := h.lr
    have := h.lw
    omega
  have hW := Lib.hid (fun W (hW : Below w.heap.size w W) => whole_runs ra nr rc wa nw wc aa na ac ca nc cc hm hown h8 hE n2 hR W (hC.below hW) (hO.below hW))
  have hV := Lib.hid (fun W (hW : Below w.heap.size w W) => rwhole_runs ra nr rc wa nw wc aa na ac ca nc cc hm hown h8 hE n2 hR W (hC.below hW) (hO.below hW))
  have hS := Lib.hid (fun W (hW : Below w.heap.size w W) => some_runs ra nr rc wa nw wc aa na ac ca nc cc hm hown h8 hE n2 hmo hR' W (hC.below hW) (hO.below hW) hb1000)
  have hT := Lib.hid (fun W (hW : Below w.heap.size w W) => rsome_runs ra nr rc wa nw wc aa na ac ca nc cc hm hown h8 hE n2 hmo hR' W (hC.below hW) (hO.below hW))
  have H8 := Lib.hid hR.cells
  have HD := Lib.hid hR.deep
  have HO8 := Lib.hid hR.out
  have P8 := Lib.hid hR'.cells
  have PD := Lib.hid hR'.deep
  have PO8 := Lib.hid hR'.out
  have hfew : own.length ≤ 1000 := by
    rw [hown]
    obtain ⟨f1, f2, -, -, -, -⟩ := hm.few
    omega
  have HM : Hid (bl.length ≤ 1000) := Lib.hid (by rw [hR.many]; exact hfew)
  have PM : Hid (bl'.length ≤ 1000) := Lib.hid (by rw [hR'.many]; exact hfew)
  have B_0 := Lib.hid (below_alloc1 w (CmObj ra nr rc wa nw wc aa na ac c.fuel ca nc cc))
  have C_0 : Hid (Bk (w.alloc (CmObj ra nr rc wa nw wc aa na ac c.fuel ca nc cc)) w.heap.size 25 #[.slice ra nr rc, .slice wa nw wc, .slice aa na ac, .int .i64 c.fuel, .slice ca nc cc]) := Lib.hid (Bk.new w _ _)
  have aw := Lib.hid (fun W => awake11 W)
  clear h hm hown h8 hO hbn hC hE hR hR' hmo n1 n3 hfew
  generalize c.fuel = F at *
  generalize (to : Int) = e0 at *
  generalize (to' : Int) = e0' at *
  generalize rg regs 0 = r0 at *
  generalize rg regs 1 = r1 at *
  generalize rg regs 2 = r2 at *
  generalize rg regs 3 = r3 at *
  generalize rg regs' 0 = q0 at *
  generalize rg regs' 1 = q1 at *
  generalize rg regs' 2 = q2 at *
  generalize rg regs' 3 = q3 at *
  go_enter Try.func3, Try.ntmps3
  go_wp2_with (first
    | (go_at_call 7; go_must ((with_reducible refine (hrt.out _ B_0.out).mono ?_); rintro e w1 ⟨rfl, hb⟩; have C_1 := Lib.hid (C_0.out.below hb); have B_1 := Lib.hid (bnext B_0.out hb); obtain ⟨zc0, zc1, zc2, zc3, zc4, zcf⟩ := C_1.out.cmd; have zcl := C_1.out.lt; clear hb))
    | (go_at_call 9; go_must ((with_reducible refine (hW.out _ B_1.out).mono ?_); rintro e w2 ⟨sA2, sn2, sc2, oA2, on2, oc2, bA2, bn2, bc2, rfl, q, hb0⟩; have hb := bnext hb0 (var_below w2 (mC pc f (.slice sA2 sn2 sc2) r0 r1 r2 r3 (.slice oA2 on2 oc2) true e0)); have C_2 := Lib.hid (C_1.out.below hb); have B_2 := Lib.hid (bnext B_1.out hb); have N2 := Lib.hid (Bk.new w2 32 mZ); have K2_2 := Lib.hid (var_bk w2 (mC pc f (.slice sA2 sn2 sc2) r0 r1 r2 r3 (.slice oA2 on2 oc2) true e0)); have M2_2 := Lib.hid (q.below (var_below w2 (mC pc f (.slice sA2 sn2 sc2) r0 r1 r2 r3 (.slice oA2 on2 oc2) true e0))); clear zc0 zc1 zc2 zc3 zc4 zcf zcl; obtain ⟨zc0, zc1, zc2, zc3, zc4, zcf⟩ := C_2.out.cmd; have zcl := C_2.out.lt; clear hb hb0 q))
    | (with_reducible refine st_mach w2.heap.size N2.out rfl rfl _ _ rfl rfl rfl rfl ?_)
    | (go_at_call 10; go_must ((with_reducible refine (hV.out _ B_2.out).mono ?_); rintro e w3 ⟨sA3, sn3, sc3, oA3, on3, oc3, bA3, bn3, bc3, rfl, q, hb0⟩; have hb := bnext hb0 (var_below w3 (mC pc f (.slice sA3 sn3 sc3) r0 r1 r2 r3 (.slice oA3 on3 oc3) true e0)); have C_3 := Lib.hid (C_2.out.below hb); have K2_3 := Lib.hid (K2_2.out.below hb); have M2_3 := Lib.hid (M2_2.out.below hb); have B_3 := Lib.hid (bnext B_2.out hb); have N3 := Lib.hid (Bk.new w3 32 mZ); have K3_3 := Lib.hid (var_bk w3 (mC pc f (.slice sA3 sn3 sc3) r0 r1 r2 r3 (.slice oA3 on3 oc3) true e0)); have M3_3 := Lib.hid (q.below (var_below w3 (mC pc f (.slice sA3 sn3 sc3) r0 r1 r2 r3 (.slice oA3 on3 oc3) true e0))); clear zc0 zc1 zc2 zc3 zc4 zcf zcl; obtain ⟨zc0, zc1, zc2, zc3, zc4, zcf⟩ := C_3.out.cmd; have zcl := C_3.out.lt; clear hb hb0 q))
    | (with_reducible refine st_mach w3.heap.size N3.out rfl rfl _ _ rfl rfl rfl rfl ?_)
    | (go_at_call 11; go_must ((with_reducible refine (hS.out _ B_3.out).mono ?_); rintro e w4 ⟨sA4, sn4, sc4, oA4, on4, oc4, bA4, bn4, bc4, rfl, q, hb0⟩; have hb := bnext hb0 (var_below w4 (mC pc' f' (.slice sA4 sn4 sc4) q0 q1 q2 q3 (.slice oA4 on4 oc4) ov' e0')); have C_4 := Lib.hid (C_3.out.below hb); have K2_4 := Lib.hid (K2_3.out.below hb); have M2_4 := Lib.hid (M2_3.out.below hb); have K3_4 := Lib.hid (K3_3.out.below hb); have M3_4 := Lib.hid (M3_3.out.below hb); have B_4 := Lib.hid (bnext B_3.out hb); have N4 := Lib.hid (Bk.new w4 32 mZ); have K4_4 := Lib.hid (var_bk w4 (mC pc' f' (.slice sA4 sn4 sc4) q0 q1 q2 q3 (.slice oA4 on4 oc4) ov' e0')); have M4_4 := Lib.hid (q.below (var_below w4 (mC pc' f' (.slice sA4 sn4 sc4) q0 q1 q2 q3 (.slice oA4 on4 oc4) ov' e0'))); clear zc0 zc1 zc2 zc3 zc4 zcf zcl; obtain ⟨zc0, zc1, zc2, zc3, zc4, zcf⟩ := C_4.out.cmd; have zcl := C_4.out.lt; clear hb hb0 q))
    | (with_reducible refine st_mach w4.heap.size N4.out rfl rfl _ _ rfl rfl rfl rfl ?_)
    | (go_at_call 12; go_must ((with_reducible refine (hT.out _ B_4.out).mono ?_); rintro e w5 ⟨sA5, sn5, sc5, oA5, on5, oc5, bA5, bn5, bc5, rfl, q, hb0⟩; have hb := bnext hb0 (var_below w5 (mC pc' f' (.slice sA5 sn5 sc5) q0 q1 q2 q3 (.slice oA5 on5 oc5) ov' e0')); have C_5 := Lib.hid (C_4.out.below hb); have K2_5 := Lib.hid (K2_4.out.below hb); have M2_5 := Lib.hid (M2_4.out.below hb); have K3_5 := Lib.hid (K3_4.out.below hb); have M3_5 := Lib.hid (M3_4.out.below hb); have K4_5 := Lib.hid (K4_4.out.below hb); have M4_5 := Lib.hid (M4_4.out.below hb); have B_5 := Lib.hid (bnext B_4.out hb); have N5 := Lib.hid (Bk.new w5 32 mZ); have K5_5 := Lib.hid (var_bk w5 (mC pc' f' (.slice sA5 sn5 sc5) q0 q1 q2 q3 (.slice oA5 on5 oc5) ov' e0')); have M5_5 := Lib.hid (q.below (var_below w5 (mC pc' f' (.slice sA5 sn5 sc5) q0 q1 q2 q3 (.slice oA5 on5 oc5) ov' e0'))); clear zc0 zc1 zc2 zc3 zc4 zcf zcl; clear hb hb0 q))
    | (with_reducible refine st_mach w5.heap.size N5.out rfl rfl _ _ rfl rfl rfl rfl ?_))
  obtain ⟨wr, hwr⟩ : ∃ W, W = ((w5.alloc (.cells mZ 32)).setRow w5.heap.size (mC pc' f' (.slice sA5 sn5 sc5) q0 q1 q2 q3 (.slice oA5 on5 oc5) ov' e0')) := ⟨_, rfl⟩
  rw [← hwr] at B_5 K2_5 M2_5 K3_5 M3_5 K4_5 M4_5 K5_5 M5_5 C_5 ⊢
  clear hwr hrt hW hV hS hT C_5 N2 N3 N4 N5
  have hL2 := Lib.hid (fun X (hX : Below wr.heap.size wr X) => load_mach (K2_5.out.below hX))
  have hL3 := Lib.hid (fun X (hX : Below wr.heap.size wr X) => load_mach (K3_5.out.below hX))
  have hL4 := Lib.hid (fun X (hX : Below wr.heap.size wr X) => load_mach (K4_5.out.below hX))
  have hL5 := Lib.hid (fun X (hX : Below wr.heap.size wr X) => load_mach (K5_5.out.below hX))
  have sm1 := Lib.hid (fun X (hX : Below wr.heap.size wr X) => same_mins H8.out HD.out HO8.out (M2_5.out.below hX) (M3_5.out.below hX) pc f r0 r1 r2 r3 true e0)
  have sb1 := Lib.hid (fun X (hX : Below wr.heap.size wr X) => same_bks H8.out HM.out (M2_5.out.below hX) (M3_5.out.below hX))
  have sm2 := Lib.hid (fun X (hX : Below wr.heap.size wr X) => same_mins P8.out PD.out PO8.out (M4_5.out.below hX) (M5_5.out.below hX) pc' f' q0 q1 q2 q3 ov' e0')
  have sb2 := Lib.hid (fun X (hX : Below wr.heap.size wr X) => same_bks P8.out PM.out (M4_5.out.below hX) (M5_5.out.below hX))
  obtain ⟨-, hon2, -⟩ := M2_5.out.lens H8.out
  have tl1 := Lib.hid (fun X (hX : Below wr.heap.size wr X) => tells_any most pc f sA2 sn2 sc2 r0 r1 r2 r3 oA2 on2 oc2 true e0 ou X (M2_5.out.below hX).ou (by have := HO8.out; omega))
  have tl2 := Lib.hid (fun X => rtells_any most pc f sA3 sn3 sc3 r0 r1 r2 r3 oA3 on3 oc3 true e0 X)
  have sr1 := Lib.hid (fun X (hX : Below wr.heap.size wr X) A n c (h : Sl X 1 A n c (ou.map (.int .i64))) => show Calls Try.prog 15 #[.agg (rC most e0 (.slice A n c)), .agg (rC most e0 (.slice oA3 on3 oc3))] X (fun e w' => e = .returned (.bool true) ∧ Below X.heap.size X w') from by
    have h' := (M3_5.out.below hX).ou
    have l1 := h.1
    have l2 := h'.1
    obtain rfl : n = on3 := by omega
    exact rsameR_yes most e0 ou A oA3 _ c oc3 X h h' (by simp at l1; have := HO8.out; omega))
  clear hon2 M2_5 M3_5 M4_5 M5_5 K2_5 K3_5 K4_5 K5_5
  try simp only [List.append_eq, List.cons_append, List.nil_append]
  refine wp_region_saysK 35 (fun x y => Below x.heap.size x y) (fun _ _ _ h k => bnext h k) wr (below_drew1 wr) (by kernel_rfl) (by kernel_rfl) (by kernel_rfl) (by kernel_rfl) (by rfl) ?_
  simp only [List.take_succ_cons, List.take_zero, List.drop_succ_cons, List.drop_zero]
  refine walkK_call (isV (.bool true)) 8 ?_ (by first | exact gs0 rfl | exact gs1 rfl rfl rfl) (fun _ _ _ _ h => h) (fun u X hX hd => ?_) (fun X hX => ?_) ?_
  rotate_left
  · skip
    try simp at hd
    go_simp
    try rfl
  · exact (aw.out X).mono fun e X' ⟨he, hb⟩ => ⟨_, he, hb, rfl⟩
  apply walkK_norm
  · first | (simp only [List.nil_append]; rfl) | simp only [List.nil_append]
  refine walkK_is ?_ (by first | exact gs0 rfl | exact gs1 rfl rfl rfl) (fun _ => Below.refl _ _) (fun u X hX hd => ?_) ?_
  rotate_left
  · skip
    try simp at hd
    go_simp
    try rfl
  apply walkK_norm
  · first | (simp only [List.nil_append, List.cons_append]; rfl) | simp only [List.nil_append, List.cons_append]
  refine walkK_is (.agg (mC pc f (.slice sA2 sn2 sc2) r0 r1 r2 r3 (.slice oA2 on2 oc2) true e0)) (by first | exact gs0 rfl | exact gs1 rfl rfl rfl) (fun _ => Below.refl _ _) (fun u X hX hd => ?_) ?_
  · exact exec_load_at _ _ _ _ _ rfl (by go_simp) (hL2.out X hX)
  apply walkK_norm
  · first | (simp only [List.nil_append, List.cons_append]; rfl) | simp only [List.nil_append, List.cons_append]
  refine walkK_is (.agg (mC pc f (.slice sA3 sn3 sc3) r0 r1 r2 r3 (.slice oA3 on3 oc3) true e0)) (by first | exact gs0 rfl | exact gs1 rfl rfl rfl) (fun _ => Below.refl _ _) (fun u X hX hd => ?_) ?_
  · exact exec_load_at _ _ _ _ _ rfl (by go_simp) (hL3.out X hX)
  apply walkK_norm
  · first | (simp only [List.nil_append, List.cons_append]; rfl) | simp only [List.nil_append, List.cons_append]
  refine walkK_call (isV (.bool true)) 13 ?_ (by first | exact gs0 rfl | exact gs1 rfl rfl rfl) (fun _ _ _ _ h => h) (fun u X hX hd => ?_) (fun X hX => ?_) ?_
  rotate_left
  · skip
    try simp at hd
    go_simp
    try rfl
  · exact (sm1.out X hX).mono fun e X' ⟨he, hb⟩ => ⟨_, he, hb, rfl⟩
  apply walkK_norm
  · first | (simp only [List.nil_append, List.cons_append]; rfl) | simp only [List.nil_append, List.cons_append]
  refine walkK_is ?_ (by first | exact gs0 rfl | exact gs1 rfl rfl rfl) (fun _ => Below.refl _ _) (fun u X hX hd => ?_) ?_
  rotate_left
  · skip
    try simp at hd
    go_simp
    try rfl
  apply walkK_norm
  · first | (simp only [List.nil_append, List.cons_append]; rfl) | simp only [List.nil_append, List.cons_append]
  refine walkK_is ?_ (by first | exact gs0 rfl | exact gs1 rfl rfl rfl) (fun _ => Below.refl _ _) (fun u X hX hd => ?_) ?_
  rotate_left
  · skip
    try simp at hd
    go_simp
    try rfl
  apply walkK_norm
  · first | (simp only [List.nil_append, List.cons_append]; rfl) | simp only [List.nil_append, List.cons_append]
  refine walkK_is ?_ (by first | exact gs0 rfl | exact gs1 rfl rfl rfl) (fun _ => Below.refl _ _) (fun u X hX hd => ?_) ?_
  rotate_left
  · skip
    try simp at hd
    go_simp
    try rfl
  apply walkK_norm
  · first | (simp only [List.nil_append, List.cons_append]; rfl) | simp only [List.nil_append, List.cons_append]
  refine walkK_is ?_ (by first | exact gs0 rfl | exact gs1 rfl rfl rfl) (fun _ => Below.refl _ _) (fun u X hX hd => ?_) ?_
  rotate_left
  · skip
    try simp at hd
    go_simp
    try rfl
  apply walkK_norm
  · first | (simp only [List.nil_append, List.cons_append]; rfl) | simp only [List.nil_append, List.cons_append]
  refine walkK_call (isV (.bool true)) 14 ?_ (by first | exact gs0 rfl | exact gs1 rfl rfl rfl) (fun _ _ _ _ h => h) (fun u X hX hd => ?_) (fun X hX => ?_) ?_
  rotate_left
  · skip
    try simp at hd
    go_simp
    try rfl
  · exact (sb1.out X hX).mono fun e X' ⟨he, hb⟩ => ⟨_, he, hb, rfl⟩
  apply walkK_norm
  · first | (simp only [List.nil_append, List.cons_append]; rfl) | simp only [List.nil_append, List.cons_append]
  refine walkK_is ?_ (by first | exact gs0 rfl | exact gs1 rfl rfl rfl) (fun _ => Below.refl _ _) (fun u X hX hd => ?_) ?_
  rotate_left
  · skip
    try simp at hd
    go_simp
    try rfl
  apply walkK_norm
  · first | (simp only [List.nil_append, List.cons_append]; rfl) | simp only [List.nil_append, List.cons_append]
  refine walkK_is ?_ (by first | exact gs0 rfl | exact gs1 rfl rfl rfl) (fun _ => Below.refl _ _) (fun u X hX hd => ?_) ?_
  rotate_left
  · skip
    try simp at hd
    go_simp
    try rfl
  apply walkK_norm
  · first | (simp only [List.nil_append, List.cons_append]; rfl) | simp only [List.nil_append, List.cons_append]
  refine walkK_is ?_ (by first | exact gs0 rfl | exact gs1 rfl rfl rfl) (fun _ => Below.refl _ _) (fun u X hX hd => ?_) ?_
  rotate_left
  · skip
    try simp at hd
    go_simp
    try rfl
  apply walkK_norm
  · first | (simp only [List.nil_append, List.cons_append]; rfl) | simp only [List.nil_append, List.cons_append]
  refine walkK_is ?_ (by first | exact gs0 rfl | exact gs1 rfl rfl rfl) (fun _ => Below.refl _ _) (fun u X hX hd => ?_) ?_
  rotate_left
  · skip
    try simp at hd
    go_simp
    try rfl
  apply walkK_norm
  · first | (simp only [List.nil_append, List.cons_append]; rfl) | simp only [List.nil_append, List.cons_append]
  refine walkK_is (.bool true) (by first | exact gs0 rfl | exact gs1 rfl rfl rfl) (fun _ => Below.refl _ _) (fun u X hX hd => ?_) ?_
  · skip
    try simp at hd
    go_simp
    try rfl
  apply walkK_norm
  · first | (simp only [List.nil_append, List.cons_append]; rfl) | simp only [List.nil_append, List.cons_append]
  refine walkK_is ?_ (by first | exact gs0 rfl | exact gs1 rfl rfl rfl) (fun _ => Below.refl _ _) (fun u X hX hd => ?_) ?_
  rotate_left
  · skip
    try simp at hd
    go_simp
    try rfl
  apply walkK_norm
  · first | (simp only [List.nil_append, List.cons_append]; rfl) | simp only [List.nil_append, List.cons_append]
  refine walkK_is ?_ (by first | exact gs0 rfl | exact gs1 rfl rfl rfl) (fun _ => Below.refl _ _) (fun u X hX hd => ?_) ?_
  rotate_left
  · skip
    try simp at hd
    go_simp
    try rfl
  apply walkK_norm
  · first | (simp only [List.nil_append, List.cons_append]; rfl) | simp only [List.nil_append, List.cons_append]
  refine walkK_is (.agg (mC pc' f' (.slice sA4 sn4 sc4) q0 q1 q2 q3 (.slice oA4 on4 oc4) ov' e0')) (by first | exact gs0 rfl | exact gs1 rfl rfl rfl) (fun _ => Below.refl _ _) (fun u X hX hd => ?_) ?_
  · exact exec_load_at _ _ _ _ _ rfl (by go_simp) (hL4.out X hX)
  apply walkK_norm
  · first | (simp only [List.nil_append, List.cons_append]; rfl) | simp only [List.nil_append, List.cons_append]
  refine walkK_is (.agg (mC pc' f' (.slice sA5 sn5 sc5) q0 q1 q2 q3 (.slice oA5 on5 oc5) ov' e0')) (by first | exact gs0 rfl | exact gs1 rfl rfl rfl) (fun _ => Below.refl _ _) (fun u X hX hd => ?_) ?_
  · exact exec_load_at _ _ _ _ _ rfl (by go_simp) (hL5.out X hX)
  apply walkK_norm
  · first | (simp only [List.nil_append, List.cons_append]; rfl) | simp only [List.nil_append, List.cons_append]
  refine walkK_call (isV (.bool true)) 13 ?_ (by first | exact gs0 rfl | exact gs1 rfl rfl rfl) (fun _ _ _ _ h => h) (fun u X hX hd => ?_) (fun X hX => ?_) ?_
  rotate_left
  · skip
    try simp at hd
    go_simp
    try rfl
  · exact (sm2.out X hX).mono fun e X' ⟨he, hb⟩ => ⟨_, he, hb, rfl⟩
  apply walkK_norm
  · first | (simp only [List.nil_append, List.cons_append]; rfl) | simp only [List.nil_append, List.cons_append]
  refine walkK_is ?_ (by first | exact gs0 rfl | exact gs1 rfl rfl rfl) (fun _ => Below.refl _ _) (fun u X hX hd => ?_) ?_
  rotate_left
  · skip
    try simp at hd
    go_simp
    try rfl
  apply walkK_norm
  · first | (simp only [List.nil_append, List.cons_append]; rfl) | simp only [List.nil_append, List.cons_append]
  refine walkK_is ?_ (by first | exact gs0 rfl | exact gs1 rfl rfl rfl) (fun _ => Below.refl _ _) (fun u X hX hd => ?_) ?_
  rotate_left
  · skip
    try simp at hd
    go_simp
    try rfl
  apply walkK_norm
  · first | (simp only [List.nil_append, List.cons_append]; rfl) | simp only [List.nil_append, List.cons_append]
  refine walkK_is ?_ (by first | exact gs0 rfl | exact gs1 rfl rfl rfl) (fun _ => Below.refl _ _) (fun u X hX hd => ?_) ?_
  rotate_left
  · skip
    try simp at hd
    go_simp
    try rfl
  apply walkK_norm
  · first | (simp only [List.nil_append, List.cons_append]; rfl) | simp only [List.nil_append, List.cons_append]
  refine walkK_is ?_ (by first | exact gs0 rfl | exact gs1 rfl rfl rfl) (fun _ => Below.refl _ _) (fun u X hX hd => ?_) ?_
  rotate_left
  · skip
    try simp at hd
    go_simp
    try rfl
  apply walkK_norm
  · first | (simp only [List.nil_append, List.cons_append]; rfl) | simp only [List.nil_append, List.cons_append]
  refine walkK_call (isV (.bool true)) 14 ?_ (by first | exact gs0 rfl | exact gs1 rfl rfl rfl) (fun _ _ _ _ h => h) (fun u X hX hd => ?_) (fun X hX => ?_) ?_
  rotate_left
  · skip
    try simp at hd
    go_simp
    try rfl
  · exact (sb2.out X hX).mono fun e X' ⟨he, hb⟩ => ⟨_, he, hb, rfl⟩
  apply walkK_norm
  · first | (simp only [List.nil_append, List.cons_append]; rfl) | simp only [List.nil_append, List.cons_append]
  refine walkK_is ?_ (by first | exact gs0 rfl | exact gs1 rfl rfl rfl) (fun _ => Below.refl _ _) (fun u X hX hd => ?_) ?_
  rotate_left
  · skip
    try simp at hd
    go_simp
    try rfl
  apply walkK_norm
  · first | (simp only [List.nil_append, List.cons_append]; rfl) | simp only [List.nil_append, List.cons_append]
  refine walkK_is ?_ (by first | exact gs0 rfl | exact gs1 rfl rfl rfl) (fun _ => Below.refl _ _) (fun u X hX hd => ?_) ?_
  rotate_left
  · skip
    try simp at hd
    go_simp
    try rfl
  apply walkK_norm
  · first | (simp only [List.nil_append, List.cons_append]; rfl) | simp only [List.nil_append, List.cons_append]
  refine walkK_is ?_ (by first | exact gs0 rfl | exact gs1 rfl rfl rfl) (fun _ => Below.refl _ _) (fun u X hX hd => ?_) ?_
  rotate_left
  · skip
    try simp at hd
    go_simp
    try rfl
  apply walkK_norm
  · first | (simp only [List.nil_append, List.cons_append]; rfl) | simp only [List.nil_append, List.cons_append]
  refine walkK_is (.agg (mC pc f (.slice sA2 sn2 sc2) r0 r1 r2 r3 (.slice oA2 on2 oc2) true e0)) (by first | exact gs0 rfl | exact gs1 rfl rfl rfl) (fun _ => Below.refl _ _) (fun u X hX hd => ?_) ?_
  · exact exec_load_at _ _ _ _ _ rfl (by go_simp) (hL2.out X hX)
  apply walkK_norm
  · first | (simp only [List.nil_append, List.cons_append]; rfl) | simp only [List.nil_append, List.cons_append]
  refine walkK_call (rsV most e0 ou) 16 ?_ (by first | exact gs0 rfl | exact gs1 rfl rfl rfl) (fun v x y hb h => rsV_keep v x y hb h) (fun u X hX hd => ?_) (fun X hX => ?_) ?_
  rotate_left
  · skip
    try simp at hd
    go_simp
    try rfl
  · exact (tl1.out X hX).mono fun e X' ⟨A, n, c, he, hs, hb⟩ => ⟨_, he, hb, A, n, c, rfl, hs⟩
  apply walkK_norm
  · first | (simp only [List.nil_append, List.cons_append]; rfl) | simp only [List.nil_append, List.cons_append]
  refine walkK_is ?_ (by first | exact gs0 rfl | exact gs1 rfl rfl rfl) (fun _ => Below.refl _ _) (fun u X hX hd => ?_) ?_
  rotate_left
  · skip
    try simp at hd
    go_simp
    try rfl
  apply walkK_norm
  · first | (simp only [List.nil_append, List.cons_append]; rfl) | simp only [List.nil_append, List.cons_append]
  refine walkK_is (.agg (mC pc f (.slice sA3 sn3 sc3) r0 r1 r2 r3 (.slice oA3 on3 oc3) true e0)) (by first | exact gs0 rfl | exact gs1 rfl rfl rfl) (fun _ => Below.refl _ _) (fun u X hX hd => ?_) ?_
  · exact exec_load_at _ _ _ _ _ rfl (by go_simp) (hL3.out X hX)
  apply walkK_norm
  · first | (simp only [List.nil_append, List.cons_append]; rfl) | simp only [List.nil_append, List.cons_append]
  refine walkK_call (isV (.agg (rC most e0 (.slice oA3 on3 oc3)))) 17 ?_ (by first | exact gs0 rfl | exact gs1 rfl rfl rfl) (fun _ _ _ _ h => h) (fun u X hX hd => ?_) (fun X hX => ?_) ?_
  rotate_left
  · skip
    try simp at hd
    go_simp
    try rfl
  · exact (tl2.out X).mono fun e X' ⟨he, hb⟩ => ⟨_, he, hb, rfl⟩
  apply walkK_norm
  · first | (simp only [List.nil_append, List.cons_append]; rfl) | simp only [List.nil_append, List.cons_append]
  refine walkK_callU (isV (.bool true)) 15 (by first | exact gs0 rfl | exact gs1 rfl rfl rfl) (fun _ _ _ _ h => h) (fun u X hX hd => ?_) ?_
  · simp at hd
    obtain ⟨⟨A, n', c', hv, hs⟩, hv2, -⟩ := hd
    refine ⟨#[.agg (rC most e0 (.slice A n' c')), .agg (rC most e0 (.slice oA3 on3 oc3))], ?_, (sr1.out X hX A n' c' hs).mono fun e X' ⟨he, hb⟩ => ⟨_, he, hb, rfl⟩⟩
    go_simp
  apply walkK_norm
  · first | (simp only [List.nil_append, List.cons_append]; rfl) | simp only [List.nil_append, List.cons_append]
  refine walkK_is (.bool true) (by first | exact gs0 rfl | exact gs1 rfl rfl rfl) (fun _ => Below.refl _ _) (fun u X hX hd => ?_) ?_
  · skip
    try simp at hd
    go_simp
    try rfl
  apply walkK_norm
  · first | (simp only [List.nil_append, List.cons_append]; rfl) | simp only [List.nil_append, List.cons_append]
  intro u X hX hsay
  simp only [sayAll, isV] at hsay
  obtain ⟨-, -, -, -, -, -, -, -, -, -, -, -, -, -, -, -, -, -, -, -, -, -, -, -, -, -, -, -, -, -, -, -, -, -, v34, -⟩ := hsay
  have B_6 := Lib.hid (bnext B_5.out hX)
  simp only [putAll, Act.put]
  go_wp2
  go_ret
  exact ⟨rfl, B_6.out⟩

theorem runWhole_walk (h8 : ∀ b ∈ own, b.length = 8) (hmo : -9223372036854775808 ≤ most ∧ most ≤ 9223372036854775807) (w : World) (h : CmRaw w c ra nr rc wa nw wc aa na ac ca nc cc) (hO : Sl w 8 bA bn bc (blksW own)) (hbn : own.length = bn) :
    Calls Try.prog 3 #[cmV ra nr rc wa nw wc aa na ac c.fuel ca nc cc, .slice bA bn bc, .int .i64 most] w fun e w' => e = .returned (.bool true) ∧ Below w.heap.size w w' := by
  by_cases hm : MayBe c ∧ bn = nr + nw
  · exact runWhole_yes c ra nr rc wa nw wc aa na ac ca nc cc own bA bn bc most hm.1 (by rw [h.lr, h.lw, hbn]; exact hm.2) h8 hmo w h hO hm.2
  · exact runWhole_no c ra nr rc wa nw wc aa na ac ca nc cc bA bn bc most w h hm
end
end Go.Proofs.Ytoomadafgkcebaa
