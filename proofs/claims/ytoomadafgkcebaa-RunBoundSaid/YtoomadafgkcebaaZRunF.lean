/-
  RunBound, walked: true of any command and any blocks, in whatever memory.
-/
import Derived.Test.YtoomadafgkcebaaZRrgt
import Derived.Test.YtoomadafgkcebaaZRunD
import Derived.Test.YtoomadafgkcebaaZRunE
namespace Go.Proofs.Ytoomadafgkcebaa
open Go.RowKit

section
variable (c : Cmd) (ra : Option Addr) (nr rc : Nat) (wa : Option Addr) (nw wc : Nat) (aa : Option Addr) (na ac : Nat) (ca : Option Addr) (nc cc : Nat)
variable (own : Blks) (bA : Option Addr) (bn bc : Nat)

set_option maxHeartbeats 16000000 in
set_option maxRecDepth 100000 in
theorem runBound_no (w : World) (h : CmRaw w c ra nr rc wa nw wc aa na ac ca nc cc) (hno : ¬ (MayBe c ∧ bn = nr + nw)) :
    Calls Try.prog 4 #[cmV ra nr rc wa nw wc aa na ac c.fuel ca nc cc, .slice bA bn bc] w fun e w' => e = .returned (.bool true) ∧ Below w.heap.size w w' := by
  have hrt := Lib.hid (fun W (hW : Below w.heap.size w W) => right_any c ra nr rc wa nw wc aa na ac ca nc cc bA bn bc W (h.below hW) false ⟨(fun q => by cases q), fun q => absurd q hno⟩)
  have B0 := Lib.hid (below_alloc1 w (CmObj ra nr rc wa nw wc aa na ac c.fuel ca nc cc))
  have aw := Lib.hid (fun W => awake11 W)
  clear h hno
  generalize c.fuel = fuel at *
  go_enter Try.func4, Try.ntmps4
  go_wp2_with (first
    | (go_at_call 7; go_must ((with_reducible refine (hrt.out _ B0.out).mono ?_); rintro e w1 ⟨rfl, hb1⟩; have B1 := Lib.hid (bnext B0.out hb1); clear hb1))
    | (go_at_call 8; go_must ((with_reducible refine (aw.out _).mono ?_); rintro e w2 ⟨rfl, hb2⟩; have B2 := Lib.hid (bnext B1.out hb2))))
  go_ret
  exact ⟨rfl, B2.out⟩

set_option maxHeartbeats 16000000 in
set_option maxRecDepth 100000 in
theorem runBound_yes (hm : MayBe c) (hown : own.length = c.reads.length + c.writes.length) (h8 : ∀ b ∈ own, b.length = 8) (w : World) (h : CmRaw w c ra nr rc wa nw wc aa na ac ca nc cc) (hO : Sl w 8 bA bn bc (blksW own)) (hbn : bn = nr + nw) :
    Calls Try.prog 4 #[cmV ra nr rc wa nw wc aa na ac c.fuel ca nc cc, .slice bA bn bc] w fun e w' => e = .returned (.bool true) ∧ Below w.heap.size w w' := by
  obtain ⟨-, -, -, -, f5, f6⟩ := hm.few
  have hC := h.maybe hm
  have hrt := Lib.hid (fun W (hW : Below w.heap.size w W) => right_any c ra nr rc wa nw wc aa na ac ca nc cc bA bn bc W (h.below hW) true ⟨fun _ => ⟨hm, hbn⟩, fun _ => rfl⟩)
  obtain ⟨n, pc, f, st, regs, ou, to, bl, hE, hR, n1, n2, n3, ht, hz⟩ := run_ends hm hown h8
  obtain ⟨pc', f', st', regs', ou', ov', to', bl', hR'⟩ := runs_to hm hown h8 (n - 1)
  have hov := hE.first (n - 1) (by omega)
  rw [hR'.is] at hov
  simp only at hov
  subst hov
  have hb1000 : bn ≤ 1000 := by
    obtain ⟨f1, f2, -, -, -, -⟩ := hm.few
    have := h.lr
    have := h.lw
    omega
  have hW := Lib.hid (fun W (hW : Below w.heap.size w W) => whole_runs ra nr rc wa nw wc aa na ac ca nc cc hm hown h8 hE n2 hR W (hC.below hW) (hO.below hW))
  have hS := Lib.hid (fun W (hW : Below w.heap.size w W) => some_runs ra nr rc wa nw wc aa na ac ca nc cc hm hown h8 hE n2 (most := (n : Int)) (by omega) (by rw [show (n : Int).toNat = n by omega]; exact hR) W (hC.below hW) (hO.below hW) hb1000)
  have hP := Lib.hid (fun W (hW : Below w.heap.size w W) => some_runs ra nr rc wa nw wc aa na ac ca nc cc hm hown h8 hE n2 (most := (n : Int) - 1) (by omega) (by rw [show ((n : Int) - 1).toNat = n - 1 by omega]; exact hR') W (hC.below hW) (hO.below hW) hb1000)
  have H8 := Lib.hid hR.cells
  have HD := Lib.hid hR.deep
  have HO8 := Lib.hid hR.out
  have HM : Hid (bl.length ≤ 1000) := Lib.hid (by
    rw [hR.many, hown]
    obtain ⟨f1, f2, -, -, -, -⟩ := hm.few
    omega)
  have B_0 := Lib.hid (below_alloc1 w (CmObj ra nr rc wa nw wc aa na ac c.fuel ca nc cc))
  have C_0 : Hid (Bk (w.alloc (CmObj ra nr rc wa nw wc aa na ac c.fuel ca nc cc)) w.heap.size 25 #[.slice ra nr rc, .slice wa nw wc, .slice aa na ac, .int .i64 c.fuel, .slice ca nc cc]) := Lib.hid (Bk.new w _ _)
  have aw := Lib.hid (fun W => awake11 W)
  have ht' : ((to : Int) = 0 ∧ (n : Int) ≠ c.fuel + 1) ∨ ((to : Int) = 11 ∧ (n : Int) = c.fuel + 1) ∨ ((to : Int) = 12 ∧ (n : Int) ≠ c.fuel + 1) ∨ ((to : Int) = 13 ∧ (n : Int) ≠ c.fuel + 1) := by
    rcases ht with e | e | e | e
    · exact .inl ⟨by omega, fun q => by have := hz.1 q; omega⟩
    · exact .inr (.inl ⟨by omega, hz.2 e⟩)
    · exact .inr (.inr (.inl ⟨by omega, fun q => by have := hz.1 q; omega⟩))
    · exact .inr (.inr (.inr ⟨by omega, fun q => by have := hz.1 q; omega⟩))
  clear h hm hown h8 hO hbn hC hE hR hR' ht hz
  generalize c.fuel = F at *
  generalize (to : Int) = e0 at *
  generalize (to' : Int) = e0' at *
  generalize rg regs 0 = r0 at *
  generalize rg regs 1 = r1 at *
  generalize rg regs 2 = r2 at *
  generalize rg regs 3 = r3 at *
  generalize rg regs' 0 = q0 at *
  generalize rg regs' 1 = q1 at *
  generalize rg regs' 2 = q2 at *
  generalize rg regs' 3 = q3 at *
  have d1 : (1 : Int) ≤ (n : Int) := by omega
  have d3 : (n : Int) ≤ 201 := by omega
  rcases ht' with ⟨t0, te⟩ | ⟨t0, te⟩ | ⟨t0, te⟩ | ⟨t0, te⟩
  · have t00 : (e0 == 0) = true := by simp; omega
    have t11 : (e0 == 11) = false := by simp; omega
    have te' : ((n : Int) == F + 1) = false := by simp; omega
    clear t0 te
    have n_Some1 : True := trivial
    have n_Some2 : True := trivial
    go_enter Try.func4, Try.ntmps4
    go_wp2_with (first
      | (go_at_call 7; go_must ((with_reducible refine (hrt.out _ B_0.out).mono ?_); rintro e w1 ⟨rfl, hb⟩; have C_1 := Lib.hid (C_0.out.below hb); have B_1 := Lib.hid (bnext B_0.out hb); obtain ⟨zc0, zc1, zc2, zc3, zc4, zcf⟩ := C_1.out.cmd; have zcl := C_1.out.lt; clear hb))
      | (go_at_call 9; go_must ((with_reducible refine (hW.out _ B_1.out).mono ?_); rintro e w2 ⟨sA2, sn2, sc2, oA2, on2, oc2, bA2, bn2, bc2, rfl, q, hb0⟩; have hb := bnext hb0 (var_below w2 (mC pc f (.slice sA2 sn2 sc2) r0 r1 r2 r3 (.slice oA2 on2 oc2) true e0)); have C_2 := Lib.hid (C_1.out.below hb); have B_2 := Lib.hid (bnext B_1.out hb); have N2 := Lib.hid (Bk.new w2 32 mZ); have K2_2 := Lib.hid (var_bk w2 (mC pc f (.slice sA2 sn2 sc2) r0 r1 r2 r3 (.slice oA2 on2 oc2) true e0)); have M2_2 := Lib.hid (q.below (var_below w2 (mC pc f (.slice sA2 sn2 sc2) r0 r1 r2 r3 (.slice oA2 on2 oc2) true e0))); clear zc0 zc1 zc2 zc3 zc4 zcf zcl; obtain ⟨zc0, zc1, zc2, zc3, zc4, zcf⟩ := C_2.out.cmd; have zcl := C_2.out.lt; clear hb hb0 q))
      | (with_reducible refine st_mach w2.heap.size N2.out rfl rfl _ _ rfl rfl rfl rfl ?_)
      | (go_at_call 11; clear n_Some1; go_must ((with_reducible refine (hS.out _ B_2.out).mono ?_); rintro e w3 ⟨sA3, sn3, sc3, oA3, on3, oc3, bA3, bn3, bc3, rfl, q, hb0⟩; have hb := bnext hb0 (var_below w3 (mC pc f (.slice sA3 sn3 sc3) r0 r1 r2 r3 (.slice oA3 on3 oc3) true e0)); have C_3 := Lib.hid (C_2.out.below hb); have K2_3 := Lib.hid (K2_2.out.below hb); have M2_3 := Lib.hid (M2_2.out.below hb); have B_3 := Lib.hid (bnext B_2.out hb); have N3 := Lib.hid (Bk.new w3 32 mZ); have K3_3 := Lib.hid (var_bk w3 (mC pc f (.slice sA3 sn3 sc3) r0 r1 r2 r3 (.slice oA3 on3 oc3) true e0)); have M3_3 := Lib.hid (q.below (var_below w3 (mC pc f (.slice sA3 sn3 sc3) r0 r1 r2 r3 (.slice oA3 on3 oc3) true e0))); clear zc0 zc1 zc2 zc3 zc4 zcf zcl; obtain ⟨zc0, zc1, zc2, zc3, zc4, zcf⟩ := C_3.out.cmd; have zcl := C_3.out.lt; clear hb hb0 q))
      | (with_reducible refine st_mach w3.heap.size N3.out rfl rfl _ _ rfl rfl rfl rfl ?_)
      | (go_at_call 11; clear n_Some2; go_must ((with_reducible refine (hP.out _ B_3.out).mono ?_); rintro e w4 ⟨sA4, sn4, sc4, oA4, on4, oc4, bA4, bn4, bc4, rfl, q, hb0⟩; have hb := bnext hb0 (var_below w4 (mC pc' f' (.slice sA4 sn4 sc4) q0 q1 q2 q3 (.slice oA4 on4 oc4) false e0')); have C_4 := Lib.hid (C_3.out.below hb); have K2_4 := Lib.hid (K2_3.out.below hb); have M2_4 := Lib.hid (M2_3.out.below hb); have K3_4 := Lib.hid (K3_3.out.below hb); have M3_4 := Lib.hid (M3_3.out.below hb); have B_4 := Lib.hid (bnext B_3.out hb); have N4 := Lib.hid (Bk.new w4 32 mZ); have K4_4 := Lib.hid (var_bk w4 (mC pc' f' (.slice sA4 sn4 sc4) q0 q1 q2 q3 (.slice oA4 on4 oc4) false e0')); have M4_4 := Lib.hid (q.below (var_below w4 (mC pc' f' (.slice sA4 sn4 sc4) q0 q1 q2 q3 (.slice oA4 on4 oc4) false e0'))); clear zc0 zc1 zc2 zc3 zc4 zcf zcl; obtain ⟨zc0, zc1, zc2, zc3, zc4, zcf⟩ := C_4.out.cmd; have zcl := C_4.out.lt; have zK29 := K2_4.out.cell 9; simp only [List.getElem?_toArray, List.getElem?_cons_zero, List.getElem?_cons_succ] at zK29; have zlK2 := K2_4.out.lt; clear hb hb0 q))
      | (with_reducible refine st_mach w4.heap.size N4.out rfl rfl _ _ rfl rfl rfl rfl ?_)
      | (go_at_call 8; go_must ((with_reducible refine (aw.out _).mono ?_); rintro e w5 ⟨rfl, hb⟩; have C_5 := Lib.hid (C_4.out.below hb); have K2_5 := Lib.hid (K2_4.out.below hb); have M2_5 := Lib.hid (M2_4.out.below hb); have K3_5 := Lib.hid (K3_4.out.below hb); have M3_5 := Lib.hid (M3_4.out.below hb); have K4_5 := Lib.hid (K4_4.out.below hb); have M4_5 := Lib.hid (M4_4.out.below hb); have B_5 := Lib.hid (bnext B_4.out hb); clear zc0 zc1 zc2 zc3 zc4 zcf zcl zK29 zlK2; obtain ⟨zc0, zc1, zc2, zc3, zc4, zcf⟩ := C_5.out.cmd; have zcl := C_5.out.lt; have zK28 := K2_5.out.cell 8; simp only [List.getElem?_toArray, List.getElem?_cons_zero, List.getElem?_cons_succ] at zK28; have zK29 := K2_5.out.cell 9; simp only [List.getElem?_toArray, List.getElem?_cons_zero, List.getElem?_cons_succ] at zK29; have zlK2 := K2_5.out.lt; clear hb))
      | (refine wpList_load_at _ w3.heap.size 0 (load_mach K3_5.out) _ rfl rfl rfl ?_)
      | (refine wpList_load_at _ w2.heap.size 0 (load_mach K2_5.out) _ rfl rfl rfl ?_)
      | (go_at_call 13; go_must ((with_reducible refine (same_mins H8.out HD.out HO8.out M3_5.out M2_5.out pc f r0 r1 r2 r3 true e0).mono ?_); rintro e w6 ⟨rfl, hb⟩; have C_6 := Lib.hid (C_5.out.below hb); have K2_6 := Lib.hid (K2_5.out.below hb); have M2_6 := Lib.hid (M2_5.out.below hb); have K3_6 := Lib.hid (K3_5.out.below hb); have M3_6 := Lib.hid (M3_5.out.below hb); have K4_6 := Lib.hid (K4_5.out.below hb); have M4_6 := Lib.hid (M4_5.out.below hb); have B_6 := Lib.hid (bnext B_5.out hb); clear zc0 zc1 zc2 zc3 zc4 zcf zcl zK28 zK29 zlK2; clear hb))
      | (go_at_call 14; go_must ((with_reducible refine (same_bks H8.out HM.out M2_6.out M3_6.out).mono ?_); rintro e w7 ⟨rfl, hb⟩; have C_7 := Lib.hid (C_6.out.below hb); have K2_7 := Lib.hid (K2_6.out.below hb); have M2_7 := Lib.hid (M2_6.out.below hb); have K3_7 := Lib.hid (K3_6.out.below hb); have M3_7 := Lib.hid (M3_6.out.below hb); have K4_7 := Lib.hid (K4_6.out.below hb); have M4_7 := Lib.hid (M4_6.out.below hb); have B_7 := Lib.hid (bnext B_6.out hb); obtain ⟨zc0, zc1, zc2, zc3, zc4, zcf⟩ := C_7.out.cmd; have zcl := C_7.out.lt; have zK48 := K4_7.out.cell 8; simp only [List.getElem?_toArray, List.getElem?_cons_zero, List.getElem?_cons_succ] at zK48; have zlK4 := K4_7.out.lt; have zK29 := K2_7.out.cell 9; simp only [List.getElem?_toArray, List.getElem?_cons_zero, List.getElem?_cons_succ] at zK29; have zlK2 := K2_7.out.lt; clear hb)))
    go_ret
    exact ⟨rfl, B_7.out⟩
  · have t00 : (e0 == 0) = false := by simp; omega
    have t11 : (e0 == 11) = true := by simp; omega
    have te' : ((n : Int) == F + 1) = true := by simp; omega
    clear t0 te
    have n_Some1 : True := trivial
    have n_Some2 : True := trivial
    go_enter Try.func4, Try.ntmps4
    go_wp2_with (first
      | (go_at_call 7; go_must ((with_reducible refine (hrt.out _ B_0.out).mono ?_); rintro e w1 ⟨rfl, hb⟩; have C_1 := Lib.hid (C_0.out.below hb); have B_1 := Lib.hid (bnext B_0.out hb); obtain ⟨zc0, zc1, zc2, zc3, zc4, zcf⟩ := C_1.out.cmd; have zcl := C_1.out.lt; clear hb))
      | (go_at_call 9; go_must ((with_reducible refine (hW.out _ B_1.out).mono ?_); rintro e w2 ⟨sA2, sn2, sc2, oA2, on2, oc2, bA2, bn2, bc2, rfl, q, hb0⟩; have hb := bnext hb0 (var_below w2 (mC pc f (.slice sA2 sn2 sc2) r0 r1 r2 r3 (.slice oA2 on2 oc2) true e0)); have C_2 := Lib.hid (C_1.out.below hb); have B_2 := Lib.hid (bnext B_1.out hb); have N2 := Lib.hid (Bk.new w2 32 mZ); have K2_2 := Lib.hid (var_bk w2 (mC pc f (.slice sA2 sn2 sc2) r0 r1 r2 r3 (.slice oA2 on2 oc2) true e0)); have M2_2 := Lib.hid (q.below (var_below w2 (mC pc f (.slice sA2 sn2 sc2) r0 r1 r2 r3 (.slice oA2 on2 oc2) true e0))); clear zc0 zc1 zc2 zc3 zc4 zcf zcl; obtain ⟨zc0, zc1, zc2, zc3, zc4, zcf⟩ := C_2.out.cmd; have zcl := C_2.out.lt; clear hb hb0 q))
      | (with_reducible refine st_mach w2.heap.size N2.out rfl rfl _ _ rfl rfl rfl rfl ?_)
      | (go_at_call 11; clear n_Some1; go_must ((with_reducible refine (hS.out _ B_2.out).mono ?_); rintro e w3 ⟨sA3, sn3, sc3, oA3, on3, oc3, bA3, bn3, bc3, rfl, q, hb0⟩; have hb := bnext hb0 (var_below w3 (mC pc f (.slice sA3 sn3 sc3) r0 r1 r2 r3 (.slice oA3 on3 oc3) true e0)); have C_3 := Lib.hid (C_2.out.below hb); have K2_3 := Lib.hid (K2_2.out.below hb); have M2_3 := Lib.hid (M2_2.out.below hb); have B_3 := Lib.hid (bnext B_2.out hb); have N3 := Lib.hid (Bk.new w3 32 mZ); have K3_3 := Lib.hid (var_bk w3 (mC pc f (.slice sA3 sn3 sc3) r0 r1 r2 r3 (.slice oA3 on3 oc3) true e0)); have M3_3 := Lib.hid (q.below (var_below w3 (mC pc f (.slice sA3 sn3 sc3) r0 r1 r2 r3 (.slice oA3 on3 oc3) true e0))); clear zc0 zc1 zc2 zc3 zc4 zcf zcl; obtain ⟨zc0, zc1, zc2, zc3, zc4, zcf⟩ := C_3.out.cmd; have zcl := C_3.out.lt; clear hb hb0 q))
      | (with_reducible refine st_mach w3.heap.size N3.out rfl rfl _ _ rfl rfl rfl rfl ?_)
      | (go_at_call 11; clear n_Some2; go_must ((with_reducible refine (hP.out _ B_3.out).mono ?_); rintro e w4 ⟨sA4, sn4, sc4, oA4, on4, oc4, bA4, bn4, bc4, rfl, q, hb0⟩; have hb := bnext hb0 (var_below w4 (mC pc' f' (.slice sA4 sn4 sc4) q0 q1 q2 q3 (.slice oA4 on4 oc4) false e0')); have C_4 := Lib.hid (C_3.out.below hb); have K2_4 := Lib.hid (K2_3.out.below hb); have M2_4 := Lib.hid (M2_3.out.below hb); have K3_4 := Lib.hid (K3_3.out.below hb); have M3_4 := Lib.hid (M3_3.out.below hb); have B_4 := Lib.hid (bnext B_3.out hb); have N4 := Lib.hid (Bk.new w4 32 mZ); have K4_4 := Lib.hid (var_bk w4 (mC pc' f' (.slice sA4 sn4 sc4) q0 q1 q2 q3 (.slice oA4 on4 oc4) false e0')); have M4_4 := Lib.hid (q.below (var_below w4 (mC pc' f' (.slice sA4 sn4 sc4) q0 q1 q2 q3 (.slice oA4 on4 oc4) false e0'))); clear zc0 zc1 zc2 zc3 zc4 zcf zcl; obtain ⟨zc0, zc1, zc2, zc3, zc4, zcf⟩ := C_4.out.cmd; have zcl := C_4.out.lt; have zK29 := K2_4.out.cell 9; simp only [List.getElem?_toArray, List.getElem?_cons_zero, List.getElem?_cons_succ] at zK29; have zlK2 := K2_4.out.lt; clear hb hb0 q))
      | (with_reducible refine st_mach w4.heap.size N4.out rfl rfl _ _ rfl rfl rfl rfl ?_)
      | (go_at_call 8; go_must ((with_reducible refine (aw.out _).mono ?_); rintro e w5 ⟨rfl, hb⟩; have C_5 := Lib.hid (C_4.out.below hb); have K2_5 := Lib.hid (K2_4.out.below hb); have M2_5 := Lib.hid (M2_4.out.below hb); have K3_5 := Lib.hid (K3_4.out.below hb); have M3_5 := Lib.hid (M3_4.out.below hb); have K4_5 := Lib.hid (K4_4.out.below hb); have M4_5 := Lib.hid (M4_4.out.below hb); have B_5 := Lib.hid (bnext B_4.out hb); clear zc0 zc1 zc2 zc3 zc4 zcf zcl zK29 zlK2; obtain ⟨zc0, zc1, zc2, zc3, zc4, zcf⟩ := C_5.out.cmd; have zcl := C_5.out.lt; have zK28 := K2_5.out.cell 8; simp only [List.getElem?_toArray, List.getElem?_cons_zero, List.getElem?_cons_succ] at zK28; have zK29 := K2_5.out.cell 9; simp only [List.getElem?_toArray, List.getElem?_cons_zero, List.getElem?_cons_succ] at zK29; have zlK2 := K2_5.out.lt; clear hb))
      | (refine wpList_load_at _ w3.heap.size 0 (load_mach K3_5.out) _ rfl rfl rfl ?_)
      | (refine wpList_load_at _ w2.heap.size 0 (load_mach K2_5.out) _ rfl rfl rfl ?_)
      | (go_at_call 13; go_must ((with_reducible refine (same_mins H8.out HD.out HO8.out M3_5.out M2_5.out pc f r0 r1 r2 r3 true e0).mono ?_); rintro e w6 ⟨rfl, hb⟩; have C_6 := Lib.hid (C_5.out.below hb); have K2_6 := Lib.hid (K2_5.out.below hb); have M2_6 := Lib.hid (M2_5.out.below hb); have K3_6 := Lib.hid (K3_5.out.below hb); have M3_6 := Lib.hid (M3_5.out.below hb); have K4_6 := Lib.hid (K4_5.out.below hb); have M4_6 := Lib.hid (M4_5.out.below hb); have B_6 := Lib.hid (bnext B_5.out hb); clear zc0 zc1 zc2 zc3 zc4 zcf zcl zK28 zK29 zlK2; clear hb))
      | (go_at_call 14; go_must ((with_reducible refine (same_bks H8.out HM.out M2_6.out M3_6.out).mono ?_); rintro e w7 ⟨rfl, hb⟩; have C_7 := Lib.hid (C_6.out.below hb); have K2_7 := Lib.hid (K2_6.out.below hb); have M2_7 := Lib.hid (M2_6.out.below hb); have K3_7 := Lib.hid (K3_6.out.below hb); have M3_7 := Lib.hid (M3_6.out.below hb); have K4_7 := Lib.hid (K4_6.out.below hb); have M4_7 := Lib.hid (M4_6.out.below hb); have B_7 := Lib.hid (bnext B_6.out hb); obtain ⟨zc0, zc1, zc2, zc3, zc4, zcf⟩ := C_7.out.cmd; have zcl := C_7.out.lt; have zK48 := K4_7.out.cell 8; simp only [List.getElem?_toArray, List.getElem?_cons_zero, List.getElem?_cons_succ] at zK48; have zlK4 := K4_7.out.lt; have zK29 := K2_7.out.cell 9; simp only [List.getElem?_toArray, List.getElem?_cons_zero, List.getElem?_cons_succ] at zK29; have zlK2 := K2_7.out.lt; clear hb)))
    go_ret
    exact ⟨rfl, B_7.out⟩
  · have t00 : (e0 == 0) = false := by simp; omega
    have t11 : (e0 == 11) = false := by simp; omega
    have t12 : (e0 == 12) = true := by simp; omega
    have te' : ((n : Int) == F + 1) = false := by simp; omega
    clear t0 te
    have n_Some1 : True := trivial
    have n_Some2 : True := trivial
    go_enter Try.func4, Try.ntmps4
    go_wp2_with (first
      | (go_at_call 7; go_must ((with_reducible refine (hrt.out _ B_0.out).mono ?_); rintro e w1 ⟨rfl, hb⟩; have C_1 := Lib.hid (C_0.out.below hb); have B_1 := Lib.hid (bnext B_0.out hb); obtain ⟨zc0, zc1, zc2, zc3, zc4, zcf⟩ := C_1.out.cmd; have zcl := C_1.out.lt; clear hb))
      | (go_at_call 9; go_must ((with_reducible refine (hW.out _ B_1.out).mono ?_); rintro e w2 ⟨sA2, sn2, sc2, oA2, on2, oc2, bA2, bn2, bc2, rfl, q, hb0⟩; have hb := bnext hb0 (var_below w2 (mC pc f (.slice sA2 sn2 sc2) r0 r1 r2 r3 (.slice oA2 on2 oc2) true e0)); have C_2 := Lib.hid (C_1.out.below hb); have B_2 := Lib.hid (bnext B_1.out hb); have N2 := Lib.hid (Bk.new w2 32 mZ); have K2_2 := Lib.hid (var_bk w2 (mC pc f (.slice sA2 sn2 sc2) r0 r1 r2 r3 (.slice oA2 on2 oc2) true e0)); have M2_2 := Lib.hid (q.below (var_below w2 (mC pc f (.slice sA2 sn2 sc2) r0 r1 r2 r3 (.slice oA2 on2 oc2) true e0))); clear zc0 zc1 zc2 zc3 zc4 zcf zcl; obtain ⟨zc0, zc1, zc2, zc3, zc4, zcf⟩ := C_2.out.cmd; have zcl := C_2.out.lt; clear hb hb0 q))
      | (with_reducible refine st_mach w2.heap.size N2.out rfl rfl _ _ rfl rfl rfl rfl ?_)
      | (go_at_call 11; clear n_Some1; go_must ((with_reducible refine (hS.out _ B_2.out).mono ?_); rintro e w3 ⟨sA3, sn3, sc3, oA3, on3, oc3, bA3, bn3, bc3, rfl, q, hb0⟩; have hb := bnext hb0 (var_below w3 (mC pc f (.slice sA3 sn3 sc3) r0 r1 r2 r3 (.slice oA3 on3 oc3) true e0)); have C_3 := Lib.hid (C_2.out.below hb); have K2_3 := Lib.hid (K2_2.out.below hb); have M2_3 := Lib.hid (M2_2.out.below hb); have B_3 := Lib.hid (bnext B_2.out hb); have N3 := Lib.hid (Bk.new w3 32 mZ); have K3_3 := Lib.hid (var_bk w3 (mC pc f (.slice sA3 sn3 sc3) r0 r1 r2 r3 (.slice oA3 on3 oc3) true e0)); have M3_3 := Lib.hid (q.below (var_below w3 (mC pc f (.slice sA3 sn3 sc3) r0 r1 r2 r3 (.slice oA3 on3 oc3) true e0))); clear zc0 zc1 zc2 zc3 zc4 zcf zcl; obtain ⟨zc0, zc1, zc2, zc3, zc4, zcf⟩ := C_3.out.cmd; have zcl := C_3.out.lt; clear hb hb0 q))
      | (with_reducible refine st_mach w3.heap.size N3.out rfl rfl _ _ rfl rfl rfl rfl ?_)
      | (go_at_call 11; clear n_Some2; go_must ((with_reducible refine (hP.out _ B_3.out).mono ?_); rintro e w4 ⟨sA4, sn4, sc4, oA4, on4, oc4, bA4, bn4, bc4, rfl, q, hb0⟩; have hb := bnext hb0 (var_below w4 (mC pc' f' (.slice sA4 sn4 sc4) q0 q1 q2 q3 (.slice oA4 on4 oc4) false e0')); have C_4 := Lib.hid (C_3.out.below hb); have K2_4 := Lib.hid (K2_3.out.below hb); have M2_4 := Lib.hid (M2_3.out.below hb); have K3_4 := Lib.hid (K3_3.out.below hb); have M3_4 := Lib.hid (M3_3.out.below hb); have B_4 := Lib.hid (bnext B_3.out hb); have N4 := Lib.hid (Bk.new w4 32 mZ); have K4_4 := Lib.hid (var_bk w4 (mC pc' f' (.slice sA4 sn4 sc4) q0 q1 q2 q3 (.slice oA4 on4 oc4) false e0')); have M4_4 := Lib.hid (q.below (var_below w4 (mC pc' f' (.slice sA4 sn4 sc4) q0 q1 q2 q3 (.slice oA4 on4 oc4) false e0'))); clear zc0 zc1 zc2 zc3 zc4 zcf zcl; obtain ⟨zc0, zc1, zc2, zc3, zc4, zcf⟩ := C_4.out.cmd; have zcl := C_4.out.lt; have zK29 := K2_4.out.cell 9; simp only [List.getElem?_toArray, List.getElem?_cons_zero, List.getElem?_cons_succ] at zK29; have zlK2 := K2_4.out.lt; clear hb hb0 q))
      | (with_reducible refine st_mach w4.heap.size N4.out rfl rfl _ _ rfl rfl rfl rfl ?_)
      | (go_at_call 8; go_must ((with_reducible refine (aw.out _).mono ?_); rintro e w5 ⟨rfl, hb⟩; have C_5 := Lib.hid (C_4.out.below hb); have K2_5 := Lib.hid (K2_4.out.below hb); have M2_5 := Lib.hid (M2_4.out.below hb); have K3_5 := Lib.hid (K3_4.out.below hb); have M3_5 := Lib.hid (M3_4.out.below hb); have K4_5 := Lib.hid (K4_4.out.below hb); have M4_5 := Lib.hid (M4_4.out.below hb); have B_5 := Lib.hid (bnext B_4.out hb); clear zc0 zc1 zc2 zc3 zc4 zcf zcl zK29 zlK2; obtain ⟨zc0, zc1, zc2, zc3, zc4, zcf⟩ := C_5.out.cmd; have zcl := C_5.out.lt; have zK28 := K2_5.out.cell 8; simp only [List.getElem?_toArray, List.getElem?_cons_zero, List.getElem?_cons_succ] at zK28; have zK29 := K2_5.out.cell 9; simp only [List.getElem?_toArray, List.getElem?_cons_zero, List.getElem?_cons_succ] at zK29; have zlK2 := K2_5.out.lt; clear hb))
      | (refine wpList_load_at _ w3.heap.size 0 (load_mach K3_5.out) _ rfl rfl rfl ?_)
      | (refine wpList_load_at _ w2.heap.size 0 (load_mach K2_5.out) _ rfl rfl rfl ?_)
      | (go_at_call 13; go_must ((with_reducible refine (same_mins H8.out HD.out HO8.out M3_5.out M2_5.out pc f r0 r1 r2 r3 true e0).mono ?_); rintro e w6 ⟨rfl, hb⟩; have C_6 := Lib.hid (C_5.out.below hb); have K2_6 := Lib.hid (K2_5.out.below hb); have M2_6 := Lib.hid (M2_5.out.below hb); have K3_6 := Lib.hid (K3_5.out.below hb); have M3_6 := Lib.hid (M3_5.out.below hb); have K4_6 := Lib.hid (K4_5.out.below hb); have M4_6 := Lib.hid (M4_5.out.below hb); have B_6 := Lib.hid (bnext B_5.out hb); clear zc0 zc1 zc2 zc3 zc4 zcf zcl zK28 zK29 zlK2; clear hb))
      | (go_at_call 14; go_must ((with_reducible refine (same_bks H8.out HM.out M2_6.out M3_6.out).mono ?_); rintro e w7 ⟨rfl, hb⟩; have C_7 := Lib.hid (C_6.out.below hb); have K2_7 := Lib.hid (K2_6.out.below hb); have M2_7 := Lib.hid (M2_6.out.below hb); have K3_7 := Lib.hid (K3_6.out.below hb); have M3_7 := Lib.hid (M3_6.out.below hb); have K4_7 := Lib.hid (K4_6.out.below hb); have M4_7 := Lib.hid (M4_6.out.below hb); have B_7 := Lib.hid (bnext B_6.out hb); obtain ⟨zc0, zc1, zc2, zc3, zc4, zcf⟩ := C_7.out.cmd; have zcl := C_7.out.lt; have zK48 := K4_7.out.cell 8; simp only [List.getElem?_toArray, List.getElem?_cons_zero, List.getElem?_cons_succ] at zK48; have zlK4 := K4_7.out.lt; have zK29 := K2_7.out.cell 9; simp only [List.getElem?_toArray, List.getElem?_cons_zero, List.getElem?_cons_succ] at zK29; have zlK2 := K2_7.out.lt; clear hb)))
    go_ret
    exact ⟨rfl, B_7.out⟩
  · have t00 : (e0 == 0) = false := by simp; omega
    have t11 : (e0 == 11) = false := by simp; omega
    have t12 : (e0 == 12) = false := by simp; omega
    have t13 : (e0 == 13) = true := by simp; omega
    have te' : ((n : Int) == F + 1) = false := by simp; omega
    clear t0 te
    have n_Some1 : True := trivial
    have n_Some2 : True := trivial
    go_enter Try.func4, Try.ntmps4
    go_wp2_with (first
      | (go_at_call 7; go_must ((with_reducible refine (hrt.out _ B_0.out).mono ?_); rintro e w1 ⟨rfl, hb⟩; have C_1 := Lib.hid (C_0.out.below hb); have B_1 := Lib.hid (bnext B_0.out hb); obtain ⟨zc0, zc1, zc2, zc3, zc4, zcf⟩ := C_1.out.cmd; have zcl := C_1.out.lt; clear hb))
      | (go_at_call 9; go_must ((with_reducible refine (hW.out _ B_1.out).mono ?_); rintro e w2 ⟨sA2, sn2, sc2, oA2, on2, oc2, bA2, bn2, bc2, rfl, q, hb0⟩; have hb := bnext hb0 (var_below w2 (mC pc f (.slice sA2 sn2 sc2) r0 r1 r2 r3 (.slice oA2 on2 oc2) true e0)); have C_2 := Lib.hid (C_1.out.below hb); have B_2 := Lib.hid (bnext B_1.out hb); have N2 := Lib.hid (Bk.new w2 32 mZ); have K2_2 := Lib.hid (var_bk w2 (mC pc f (.slice sA2 sn2 sc2) r0 r1 r2 r3 (.slice oA2 on2 oc2) true e0)); have M2_2 := Lib.hid (q.below (var_below w2 (mC pc f (.slice sA2 sn2 sc2) r0 r1 r2 r3 (.slice oA2 on2 oc2) true e0))); clear zc0 zc1 zc2 zc3 zc4 zcf zcl; obtain ⟨zc0, zc1, zc2, zc3, zc4, zcf⟩ := C_2.out.cmd; have zcl := C_2.out.lt; clear hb hb0 q))
      | (with_reducible refine st_mach w2.heap.size N2.out rfl rfl _ _ rfl rfl rfl rfl ?_)
      | (go_at_call 11; clear n_Some1; go_must ((with_reducible refine (hS.out _ B_2.out).mono ?_); rintro e w3 ⟨sA3, sn3, sc3, oA3, on3, oc3, bA3, bn3, bc3, rfl, q, hb0⟩; have hb := bnext hb0 (var_below w3 (mC pc f (.slice sA3 sn3 sc3) r0 r1 r2 r3 (.slice oA3 on3 oc3) true e0)); have C_3 := Lib.hid (C_2.out.below hb); have K2_3 := Lib.hid (K2_2.out.below hb); have M2_3 := Lib.hid (M2_2.out.below hb); have B_3 := Lib.hid (bnext B_2.out hb); have N3 := Lib.hid (Bk.new w3 32 mZ); have K3_3 := Lib.hid (var_bk w3 (mC pc f (.slice sA3 sn3 sc3) r0 r1 r2 r3 (.slice oA3 on3 oc3) true e0)); have M3_3 := Lib.hid (q.below (var_below w3 (mC pc f (.slice sA3 sn3 sc3) r0 r1 r2 r3 (.slice oA3 on3 oc3) true e0))); clear zc0 zc1 zc2 zc3 zc4 zcf zcl; obtain ⟨zc0, zc1, zc2, zc3, zc4, zcf⟩ := C_3.out.cmd; have zcl := C_3.out.lt; clear hb hb0 q))
      | (with_reducible refine st_mach w3.heap.size N3.out rfl rfl _ _ rfl rfl rfl rfl ?_)
      | (go_at_call 11; clear n_Some2; go_must ((with_reducible refine (hP.out _ B_3.out).mono ?_); rintro e w4 ⟨sA4, sn4, sc4, oA4, on4, oc4, bA4, bn4, bc4, rfl, q, hb0⟩; have hb := bnext hb0 (var_below w4 (mC pc' f' (.slice sA4 sn4 sc4) q0 q1 q2 q3 (.slice oA4 on4 oc4) false e0')); have C_4 := Lib.hid (C_3.out.below hb); have K2_4 := Lib.hid (K2_3.out.below hb); have M2_4 := Lib.hid (M2_3.out.below hb); have K3_4 := Lib.hid (K3_3.out.below hb); have M3_4 := Lib.hid (M3_3.out.below hb); have B_4 := Lib.hid (bnext B_3.out hb); have N4 := Lib.hid (Bk.new w4 32 mZ); have K4_4 := Lib.hid (var_bk w4 (mC pc' f' (.slice sA4 sn4 sc4) q0 q1 q2 q3 (.slice oA4 on4 oc4) false e0')); have M4_4 := Lib.hid (q.below (var_below w4 (mC pc' f' (.slice sA4 sn4 sc4) q0 q1 q2 q3 (.slice oA4 on4 oc4) false e0'))); clear zc0 zc1 zc2 zc3 zc4 zcf zcl; obtain ⟨zc0, zc1, zc2, zc3, zc4, zcf⟩ := C_4.out.cmd; have zcl := C_4.out.lt; have zK29 := K2_4.out.cell 9; simp only [List.getElem?_toArray, List.getElem?_cons_zero, List.getElem?_cons_succ] at zK29; have zlK2 := K2_4.out.lt; clear hb hb0 q))
      | (with_reducible refine st_mach w4.heap.size N4.out rfl rfl _ _ rfl rfl rfl rfl ?_)
      | (go_at_call 8; go_must ((with_reducible refine (aw.out _).mono ?_); rintro e w5 ⟨rfl, hb⟩; have C_5 := Lib.hid (C_4.out.below hb); have K2_5 := Lib.hid (K2_4.out.below hb); have M2_5 := Lib.hid (M2_4.out.below hb); have K3_5 := Lib.hid (K3_4.out.below hb); have M3_5 := Lib.hid (M3_4.out.below hb); have K4_5 := Lib.hid (K4_4.out.below hb); have M4_5 := Lib.hid (M4_4.out.below hb); have B_5 := Lib.hid (bnext B_4.out hb); clear zc0 zc1 zc2 zc3 zc4 zcf zcl zK29 zlK2; obtain ⟨zc0, zc1, zc2, zc3, zc4, zcf⟩ := C_5.out.cmd; have zcl := C_5.out.lt; have zK28 := K2_5.out.cell 8; simp only [List.getElem?_toArray, List.getElem?_cons_zero, List.getElem?_cons_succ] at zK28; have zK29 := K2_5.out.cell 9; simp only [List.getElem?_toArray, List.getElem?_cons_zero, List.getElem?_cons_succ] at zK29; have zlK2 := K2_5.out.lt; clear hb))
      | (refine wpList_load_at _ w3.heap.size 0 (load_mach K3_5.out) _ rfl rfl rfl ?_)
      | (refine wpList_load_at _ w2.heap.size 0 (load_mach K2_5.out) _ rfl rfl rfl ?_)
      | (go_at_call 13; go_must ((with_reducible refine (same_mins H8.out HD.out HO8.out M3_5.out M2_5.out pc f r0 r1 r2 r3 true e0).mono ?_); rintro e w6 ⟨rfl, hb⟩; have C_6 := Lib.hid (C_5.out.below hb); have K2_6 := Lib.hid (K2_5.out.below hb); have M2_6 := Lib.hid (M2_5.out.below hb); have K3_6 := Lib.hid (K3_5.out.below hb); have M3_6 := Lib.hid (M3_5.out.below hb); have K4_6 := Lib.hid (K4_5.out.below hb); have M4_6 := Lib.hid (M4_5.out.below hb); have B_6 := Lib.hid (bnext B_5.out hb); clear zc0 zc1 zc2 zc3 zc4 zcf zcl zK28 zK29 zlK2; clear hb))
      | (go_at_call 14; go_must ((with_reducible refine (same_bks H8.out HM.out M2_6.out M3_6.out).mono ?_); rintro e w7 ⟨rfl, hb⟩; have C_7 := Lib.hid (C_6.out.below hb); have K2_7 := Lib.hid (K2_6.out.below hb); have M2_7 := Lib.hid (M2_6.out.below hb); have K3_7 := Lib.hid (K3_6.out.below hb); have M3_7 := Lib.hid (M3_6.out.below hb); have K4_7 := Lib.hid (K4_6.out.below hb); have M4_7 := Lib.hid (M4_6.out.below hb); have B_7 := Lib.hid (bnext B_6.out hb); obtain ⟨zc0, zc1, zc2, zc3, zc4, zcf⟩ := C_7.out.cmd; have zcl := C_7.out.lt; have zK48 := K4_7.out.cell 8; simp only [List.getElem?_toArray, List.getElem?_cons_zero, List.getElem?_cons_succ] at zK48; have zlK4 := K4_7.out.lt; have zK29 := K2_7.out.cell 9; simp only [List.getElem?_toArray, List.getElem?_cons_zero, List.getElem?_cons_succ] at zK29; have zlK2 := K2_7.out.lt; clear hb)))
    go_ret
    exact ⟨rfl, B_7.out⟩

theorem runBound_walk (h8 : ∀ b ∈ own, b.length = 8) (w : World) (h : CmRaw w c ra nr rc wa nw wc aa na ac ca nc cc) (hO : Sl w 8 bA bn bc (blksW own)) (hbn : own.length = bn) :
    Calls Try.prog 4 #[cmV ra nr rc wa nw wc aa na ac c.fuel ca nc cc, .slice bA bn bc] w fun e w' => e = .returned (.bool true) ∧ Below w.heap.size w w' := by
  by_cases hm : MayBe c ∧ bn = nr + nw
  · exact runBound_yes c ra nr rc wa nw wc aa na ac ca nc cc own bA bn bc hm.1 (by rw [h.lr, h.lw, hbn]; exact hm.2) h8 w h hO hm.2
  · exact runBound_no c ra nr rc wa nw wc aa na ac ca nc cc bA bn bc w h hm
end
end Go.Proofs.Ytoomadafgkcebaa
