/-
  RunGoes, walked: true of any command, any blocks and any byte, in whatever memory.
-/
import Derived.Test.YtoomadafgkcebaaZRrgt
import Derived.Test.YtoomadafgkcebaaZRunD
import Derived.Test.YtoomadafgkcebaaZRunE
namespace Go.Proofs.Ytoomadafgkcebaa
open Go.RowKit

section
variable (c : Cmd) (ra : Option Addr) (nr rc : Nat) (wa : Option Addr) (nw wc : Nat) (aa : Option Addr) (na ac : Nat) (ca : Option Addr) (nc cc : Nat)
variable (own : Blks) (bA : Option Addr) (bn bc : Nat) (many : Int)

set_option maxHeartbeats 16000000 in
set_option maxRecDepth 100000 in
theorem runGoes_no (w : World) (h : CmRaw w c ra nr rc wa nw wc aa na ac ca nc cc) (hno : ¬ (MayBe c ∧ bn = nr + nw)) :
    Calls Try.prog 6 #[cmV ra nr rc wa nw wc aa na ac c.fuel ca nc cc, .slice bA bn bc, .int .u8 many] w fun e w' => e = .returned (.bool true) ∧ Below w.heap.size w w' := by
  have hrt := Lib.hid (fun W (hW : Below w.heap.size w W) => right_any c ra nr rc wa nw wc aa na ac ca nc cc bA bn bc W (h.below hW) false ⟨(fun q => by cases q), fun q => absurd q hno⟩)
  have B0 := Lib.hid (below_alloc1 w (CmObj ra nr rc wa nw wc aa na ac c.fuel ca nc cc))
  have aw := Lib.hid (fun W => awake11 W)
  clear h hno
  generalize c.fuel = fuel at *
  go_enter Try.func6, Try.ntmps6
  go_wp2_with (first
    | (go_at_call 7; go_must ((with_reducible refine (hrt.out _ B0.out).mono ?_); rintro e w1 ⟨rfl, hb1⟩; have B1 := Lib.hid (bnext B0.out hb1); clear hb1))
    | (go_at_call 8; go_must ((with_reducible refine (aw.out _).mono ?_); rintro e w2 ⟨rfl, hb2⟩; have B2 := Lib.hid (bnext B1.out hb2))))
  go_ret
  exact ⟨rfl, B2.out⟩

set_option maxHeartbeats 16000000 in
set_option maxRecDepth 100000 in
theorem runGoes_yes (hm : MayBe c) (hown : own.length = c.reads.length + c.writes.length) (h8 : ∀ b ∈ own, b.length = 8) (hmo : 0 ≤ many ∧ many ≤ 255) (w : World) (h : CmRaw w c ra nr rc wa nw wc aa na ac ca nc cc) (hO : Sl w 8 bA bn bc (blksW own)) (hbn : bn = nr + nw) :
    Calls Try.prog 6 #[cmV ra nr rc wa nw wc aa na ac c.fuel ca nc cc, .slice bA bn bc, .int .u8 many] w fun e w' => e = .returned (.bool true) ∧ Below w.heap.size w w' := by
  obtain ⟨d, hd⟩ := hm.depths
  obtain ⟨-, -, -, -, f5, f6⟩ := hm.few
  have hC := h.maybe hm
  have hrt := Lib.hid (fun W (hW : Below w.heap.size w W) => right_any c ra nr rc wa nw wc aa na ac ca nc cc bA bn bc W (h.below hW) true ⟨fun _ => ⟨hm, hbn⟩, fun _ => rfl⟩)
  obtain ⟨n, pc, f, st, regs, ou, to, bl, hE, hR, n1, n2, n3, -, -⟩ := run_ends hm hown h8
  obtain ⟨K, hK⟩ := Int.eq_ofNat_of_zero_le (show (0 : Int) ≤ many % 20 by omega)
  have hK2 : K < 20 := by omega
  obtain ⟨pc0, f0, st0, regs0, ou0, ov0, to0, bl0, hR0⟩ := runs_to hm hown h8 K
  have hb1000 : bn ≤ 1000 := by
    obtain ⟨f1, f2, -, -, -, -⟩ := hm.few
    have := h.lr
    have := h.lw
    omega
  have hW := Lib.hid (fun W (hW : Below w.heap.size w W) => whole_runs ra nr rc wa nw wc aa na ac ca nc cc hm hown h8 hE n2 hR W (hC.below hW) (hO.below hW))
  have hS := Lib.hid (fun W (hW : Below w.heap.size w W) => some_runs ra nr rc wa nw wc aa na ac ca nc cc hm hown h8 hE n2 (most := (K : Int)) (by omega) (by rw [show (K : Int).toNat = K by omega]; exact hR0) W (hC.below hW) (hO.below hW) hb1000)
  have hst := Lib.hid (fun (r : Mac × Blks) (hf : Fit c r.1 r.2) (W : World) (hW : Below w.heap.size w W) (sA : Option Addr) (sn sc : Nat) (oA : Option Addr) (on oc : Nat) (bA : Option Addr) (bn bc : Nat) hM => rstep_any ra nr rc wa nw wc aa na ac ca nc cc sA sn sc oA on oc bA bn bc c r.1 r.2 W hf (hC.below hW) hM)
  have HF := Lib.hid (fun k => steps_fit hm hd hown h8 k)
  have HE := Lib.hid hE
  have HI := Lib.hid hR.is
  have HI0 := Lib.hid hR0.is
  have hsu := Lib.hid (fun k => steps_succ c k (newM c, own))
  have H8 := Lib.hid hR.cells
  have HD := Lib.hid hR.deep
  have HO8 := Lib.hid hR.out
  have HM : Hid (bl.length ≤ 1000) := Lib.hid (by
    rw [hR.many, hown]
    obtain ⟨f1, f2, -, -, -, -⟩ := hm.few
    omega)
  have B_0 := Lib.hid (below_alloc1 w (CmObj ra nr rc wa nw wc aa na ac c.fuel ca nc cc))
  have C_0 : Hid (Bk (w.alloc (CmObj ra nr rc wa nw wc aa na ac c.fuel ca nc cc)) w.heap.size 25 #[.slice ra nr rc, .slice wa nw wc, .slice aa na ac, .int .i64 c.fuel, .slice ca nc cc]) := Lib.hid (Bk.new w _ _)
  have aw := Lib.hid (fun W => awake11 W)
  have hm1 := hmo.1
  have hm2 := hmo.2
  clear h hm hd hown h8 hO hbn hC hE hR hR0 hmo
  generalize c.fuel = F at *
  obtain ⟨N, rfl⟩ := Int.eq_ofNat_of_zero_le (show (0 : Int) ≤ F by omega)
  have hN : N ≤ 200 := by omega
  have hnN : n ≤ N + 1 := by omega
  go_enter Try.func6, Try.ntmps6
  go_wp2_with (first
    | (go_at_call 7; go_must ((with_reducible refine (hrt.out _ B_0.out).mono ?_); rintro e w1 ⟨rfl, hb⟩; have C_1 := Lib.hid (C_0.out.below hb); have B_1 := Lib.hid (bnext B_0.out hb); obtain ⟨zc0, zc1, zc2, zc3, zc4, zcf⟩ := C_1.out.cmd; have zcl := C_1.out.lt; clear hb))
    | (go_at_call 11; go_must ((with_reducible refine (hS.out _ B_1.out).mono ?_); rintro e w2 ⟨sA2, sn2, sc2, oA2, on2, oc2, bA2, bn2, bc2, rfl, q, hb0⟩; have hb := bnext hb0 (var_below w2 (mC pc0 f0 (.slice sA2 sn2 sc2) (rg regs0 0) (rg regs0 1) (rg regs0 2) (rg regs0 3) (.slice oA2 on2 oc2) ov0 to0)); have C_2 := Lib.hid (C_1.out.below hb); have B_2 := Lib.hid (bnext B_1.out hb); have N2 := Lib.hid (Bk.new w2 32 mZ); have K2_2 := Lib.hid (var_bk w2 (mC pc0 f0 (.slice sA2 sn2 sc2) (rg regs0 0) (rg regs0 1) (rg regs0 2) (rg regs0 3) (.slice oA2 on2 oc2) ov0 to0)); have oq := Lib.hid (q.offNew (G := w2.heap.size) (Nat.le_refl _)); have hbq := Lib.hid hb0.size; have M2_2 := Lib.hid (q.below (var_below w2 (mC pc0 f0 (.slice sA2 sn2 sc2) (rg regs0 0) (rg regs0 1) (rg regs0 2) (rg regs0 3) (.slice oA2 on2 oc2) ov0 to0))); clear zc0 zc1 zc2 zc3 zc4 zcf zcl; clear hb hb0 q))
    | (with_reducible refine st_mach w2.heap.size N2.out rfl rfl _ _ rfl rfl rfl rfl ?_))
  obtain ⟨G, hG⟩ : ∃ G, G = w2.heap.size := ⟨_, rfl⟩
  have hwG : w.heap.size < G := by
    rw [hG]
    have := K2_2.out.lt
    have := C_2.out.lt
    exact Nat.lt_of_lt_of_le C_1.out.lt (Nat.le_trans hbq.out (Nat.le_refl _))
  have AT : Hid (MAt G G (stepsM c (K + 0) (newM c, own)) bA2 bn2 bc2 ((w2.alloc (.cells mZ 32)).setRow w2.heap.size (mC pc0 f0 (.slice sA2 sn2 sc2) (rg regs0 0) (rg regs0 1) (rg regs0 2) (rg regs0 3) (.slice oA2 on2 oc2) ov0 to0))) := Lib.hid (by
    rw [Nat.add_zero, HI0.out, hG]
    have ho := oq.out
    exact ⟨sA2, sn2, sc2, oA2, on2, oc2, K2_2.out, M2_2.out, ho, ho⟩)
  have CT := C_2
  have BT := B_2
  rw [← hG] at AT CT BT ⊢
  clear hG C_2 B_2 C_1 B_1 C_0 B_0 K2_2 M2_2 N2 oq hbq hrt hS HI0
  go_loopw [9, 8] (fun ii ss wr => ∃ (j : Nat) (A1 : Option Addr) (k1 c1 : Nat), K + j ≤ K + n ∧ ii = .int .i64 (j : Int) ∧ ss = .slice A1 k1 c1 ∧ Hid (Below w.heap.size w wr) ∧ Hid (MAt G G (stepsM c (K + j) (newM c, own)) A1 k1 c1 wr) ∧ Hid (Bk wr w.heap.size 25 #[.slice ra nr rc, .slice wa nw wc, .slice aa na ac, .int .i64 (N : Int), .slice ca nc cc])) (fun ii _ _ => n - (intOf ii).toNat)
  case atStart => exact ⟨0, _, _, _, by omega, rfl, rfl, BT, AT, CT⟩
  case round =>
    clear AT BT CT
    obtain ⟨j, A1, k1, c1, hj, rfl, rfl, HB, HA, HC⟩ := hrel
    obtain ⟨sA, sn, sc, oA, on, oc, ax, am, ag, -⟩ := HA.out
    have AX := Lib.hid ax
    have AM := Lib.hid am
    have AG := Lib.hid ag
    clear ax am ag HA
    obtain ⟨e0, e1, e2, e3, e4, ef⟩ := HC.out.cmd
    have el := HC.out.lt
    have al := AX.out.lt
    by_cases hlt : K + j < n
    · have d1 : (j : Int) ≤ (N : Int) := by omega
      have hs1 := hst.out _ (HF.out (K + j)) wr HB.out sA sn sc oA on oc A1 k1 c1 AM.out
      have hk1 := Lib.hid (hsu.out (K + j))
      have ho := HE.out.first _ hlt
      clear HE HF hst hsu HI
      generalize stepsM c (K + j) (newM c, own) = r at *
      have a8 : wr.cell? ⟨G, 8, none⟩ = some (.bool false) := by rw [AX.out.cell 8, ← ho]; rfl
      clear ho
      obtain ⟨r', hr'⟩ : ∃ r', r' = stepM c r.1 r.2 := ⟨_, rfl⟩
      rw [← hr'] at hs1
      have hr2 : Hid (stepsM c (K + j + 1) (newM c, own) = r') := Lib.hid (by rw [hk1.out, hr'])
      have HS := Lib.hid hs1
      clear hs1 hr' hk1
      go_wp2_with (first
        | (with_reducible refine ld_mach G AX.out _ rfl rfl rfl ?_)
        | (go_at_call 18; go_must ((with_reducible refine HS.out.mono ?_); rintro e w3 ⟨sA3, sn3, sc3, oA3, on3, oc3, bA3, bn3, bc3, rfl, m3, b3, o3⟩; have M3 := Lib.hid m3; have B3 := Lib.hid b3; have O3 := Lib.hid (o3 G AX.out.lt AG.out); have X3 := Lib.hid (AX.out.below b3); have C3 := Lib.hid (HC.out.below b3); clear m3 b3 o3))
        | (with_reducible refine st_mach G X3.out rfl rfl _ _ rfl rfl rfl rfl ?_))
      go_roundw
      case rel =>
        refine ⟨j + 1, bA3, bn3, bc3, by omega, by go_num, rfl, Lib.hid (below_row (bnext HB.out B3.out) (by omega) _), Lib.hid ?_, Lib.hid (C3.out.farRow (by omega) _)⟩
        rw [show K + (j + 1) = K + j + 1 from rfl, hr2.out]
        exact ⟨sA3, sn3, sc3, oA3, on3, oc3, Bk.setRow X3.out _, M3.out.setRow O3.out _, O3.out, O3.out⟩
      case measure => simp [intOf]; omega
    · have he : stepsM c (K + j) (newM c, own) = (⟨pc, f, st, regs, ou, true, to⟩, bl) := by
        obtain ⟨i, hi⟩ := Nat.exists_eq_add_of_le (show n ≤ K + j by omega)
        rw [hi, steps_add, steps_over HE.out.over, HI.out]
      rw [he] at AX AM
      clear he HE HF hst hsu HI
      have AX : Hid (Bk wr G 32 (mC pc f (.slice sA sn sc) (rg regs 0) (rg regs 1) (rg regs 2) (rg regs 3) (.slice oA on oc) true to)) := AX
      have AM : Hid (MIn wr st ou bl sA sn sc oA on oc A1 k1 c1) := AM
      have a8 : wr.cell? ⟨G, 8, none⟩ = some (.bool true) := AX.out.cell 8
      have ato : Hid (G < wr.heap.size) := Lib.hid al
      generalize (to : Int) = e0' at *
      generalize rg regs 0 = r0 at *
      generalize rg regs 1 = r1 at *
      generalize rg regs 2 = r2 at *
      generalize rg regs 3 = r3 at *
      by_cases hjN : j ≤ N
      · have d1 : (j : Int) ≤ (N : Int) := by omega
        have C_10 := HC
        have X_10 := AX
        have Y_10 := AM
        have B_10 := HB
        clear HC AX AM HB
        go_wp2_with (first
          | (go_at_call 9; go_must ((with_reducible refine (hW.out _ B_10.out).mono ?_); rintro e w11 ⟨sA11, sn11, sc11, oA11, on11, oc11, bA11, bn11, bc11, rfl, q, hb0⟩; have hb := bnext hb0 (var_below w11 (mC pc f (.slice sA11 sn11 sc11) r0 r1 r2 r3 (.slice oA11 on11 oc11) true e0')); have C_11 := Lib.hid (C_10.out.below hb); have X_11 := Lib.hid (X_10.out.below hb); have Y_11 := Lib.hid (Y_10.out.below hb); have B_11 := Lib.hid (bnext B_10.out hb); have N11 := Lib.hid (Bk.new w11 32 mZ); have K11_11 := Lib.hid (var_bk w11 (mC pc f (.slice sA11 sn11 sc11) r0 r1 r2 r3 (.slice oA11 on11 oc11) true e0')); have M11_11 := Lib.hid (q.below (var_below w11 (mC pc f (.slice sA11 sn11 sc11) r0 r1 r2 r3 (.slice oA11 on11 oc11) true e0'))); clear hb hb0 q))
          | (with_reducible refine st_mach w11.heap.size N11.out rfl rfl _ _ rfl rfl rfl rfl ?_)
          | (go_at_call 8; go_must ((with_reducible refine (aw.out _).mono ?_); rintro e w12 ⟨rfl, hb⟩; have C_12 := Lib.hid (C_11.out.below hb); have X_12 := Lib.hid (X_11.out.below hb); have Y_12 := Lib.hid (Y_11.out.below hb); have K11_12 := Lib.hid (K11_11.out.below hb); have M11_12 := Lib.hid (M11_11.out.below hb); have B_12 := Lib.hid (bnext B_11.out hb); have zK118 := K11_12.out.cell 8; simp only [List.getElem?_toArray, List.getElem?_cons_zero, List.getElem?_cons_succ] at zK118; have zlK11 := K11_12.out.lt; have zX8 := X_12.out.cell 8; simp only [List.getElem?_toArray, List.getElem?_cons_zero, List.getElem?_cons_succ] at zX8; have zlX := X_12.out.lt; clear hb))
          | (refine wpList_load_at _ w11.heap.size 0 (load_mach K11_12.out) _ rfl rfl rfl ?_)
          | (refine wpList_load_at _ G 0 (load_mach X_12.out) _ rfl rfl rfl ?_)
          | (go_at_call 13; go_must ((with_reducible refine (same_mins H8.out HD.out HO8.out M11_12.out Y_12.out pc f r0 r1 r2 r3 true e0').mono ?_); rintro e w13 ⟨rfl, hb⟩; have C_13 := Lib.hid (C_12.out.below hb); have X_13 := Lib.hid (X_12.out.below hb); have Y_13 := Lib.hid (Y_12.out.below hb); have K11_13 := Lib.hid (K11_12.out.below hb); have M11_13 := Lib.hid (M11_12.out.below hb); have B_13 := Lib.hid (bnext B_12.out hb); clear zK118 zlK11 zX8 zlX; clear hb))
          | (go_at_call 14; go_must ((with_reducible refine (same_bks H8.out HM.out Y_13.out M11_13.out).mono ?_); rintro e w14 ⟨rfl, hb⟩; have C_14 := Lib.hid (C_13.out.below hb); have X_14 := Lib.hid (X_13.out.below hb); have Y_14 := Lib.hid (Y_13.out.below hb); have K11_14 := Lib.hid (K11_13.out.below hb); have M11_14 := Lib.hid (M11_13.out.below hb); have B_14 := Lib.hid (bnext B_13.out hb); clear hb)))
        go_ret
        exact ⟨rfl, B_14.out⟩
      · have d1 : decide ((j : Int) ≤ (N : Int)) = false := decide_eq_false (by omega)
        have C_10 := HC
        have X_10 := AX
        have Y_10 := AM
        have B_10 := HB
        clear HC AX AM HB
        go_wp2_with (first
          | (go_at_call 9; go_must ((with_reducible refine (hW.out _ B_10.out).mono ?_); rintro e w11 ⟨sA11, sn11, sc11, oA11, on11, oc11, bA11, bn11, bc11, rfl, q, hb0⟩; have hb := bnext hb0 (var_below w11 (mC pc f (.slice sA11 sn11 sc11) r0 r1 r2 r3 (.slice oA11 on11 oc11) true e0')); have C_11 := Lib.hid (C_10.out.below hb); have X_11 := Lib.hid (X_10.out.below hb); have Y_11 := Lib.hid (Y_10.out.below hb); have B_11 := Lib.hid (bnext B_10.out hb); have N11 := Lib.hid (Bk.new w11 32 mZ); have K11_11 := Lib.hid (var_bk w11 (mC pc f (.slice sA11 sn11 sc11) r0 r1 r2 r3 (.slice oA11 on11 oc11) true e0')); have M11_11 := Lib.hid (q.below (var_below w11 (mC pc f (.slice sA11 sn11 sc11) r0 r1 r2 r3 (.slice oA11 on11 oc11) true e0'))); clear hb hb0 q))
          | (with_reducible refine st_mach w11.heap.size N11.out rfl rfl _ _ rfl rfl rfl rfl ?_)
          | (go_at_call 8; go_must ((with_reducible refine (aw.out _).mono ?_); rintro e w12 ⟨rfl, hb⟩; have C_12 := Lib.hid (C_11.out.below hb); have X_12 := Lib.hid (X_11.out.below hb); have Y_12 := Lib.hid (Y_11.out.below hb); have K11_12 := Lib.hid (K11_11.out.below hb); have M11_12 := Lib.hid (M11_11.out.below hb); have B_12 := Lib.hid (bnext B_11.out hb); have zK118 := K11_12.out.cell 8; simp only [List.getElem?_toArray, List.getElem?_cons_zero, List.getElem?_cons_succ] at zK118; have zlK11 := K11_12.out.lt; have zX8 := X_12.out.cell 8; simp only [List.getElem?_toArray, List.getElem?_cons_zero, List.getElem?_cons_succ] at zX8; have zlX := X_12.out.lt; clear hb))
          | (refine wpList_load_at _ w11.heap.size 0 (load_mach K11_12.out) _ rfl rfl rfl ?_)
          | (refine wpList_load_at _ G 0 (load_mach X_12.out) _ rfl rfl rfl ?_)
          | (go_at_call 13; go_must ((with_reducible refine (same_mins H8.out HD.out HO8.out M11_12.out Y_12.out pc f r0 r1 r2 r3 true e0').mono ?_); rintro e w13 ⟨rfl, hb⟩; have C_13 := Lib.hid (C_12.out.below hb); have X_13 := Lib.hid (X_12.out.below hb); have Y_13 := Lib.hid (Y_12.out.below hb); have K11_13 := Lib.hid (K11_12.out.below hb); have M11_13 := Lib.hid (M11_12.out.below hb); have B_13 := Lib.hid (bnext B_12.out hb); clear zK118 zlK11 zX8 zlX; clear hb))
          | (go_at_call 14; go_must ((with_reducible refine (same_bks H8.out HM.out Y_13.out M11_13.out).mono ?_); rintro e w14 ⟨rfl, hb⟩; have C_14 := Lib.hid (C_13.out.below hb); have X_14 := Lib.hid (X_13.out.below hb); have Y_14 := Lib.hid (Y_13.out.below hb); have K11_14 := Lib.hid (K11_13.out.below hb); have M11_14 := Lib.hid (M11_13.out.below hb); have B_14 := Lib.hid (bnext B_13.out hb); clear hb)))
        go_ret
        exact ⟨rfl, B_14.out⟩

theorem runGoes_walk (h8 : ∀ b ∈ own, b.length = 8) (hmo : 0 ≤ many ∧ many ≤ 255) (w : World) (h : CmRaw w c ra nr rc wa nw wc aa na ac ca nc cc) (hO : Sl w 8 bA bn bc (blksW own)) (hbn : own.length = bn) :
    Calls Try.prog 6 #[cmV ra nr rc wa nw wc aa na ac c.fuel ca nc cc, .slice bA bn bc, .int .u8 many] w fun e w' => e = .returned (.bool true) ∧ Below w.heap.size w w' := by
  by_cases hm : MayBe c ∧ bn = nr + nw
  · exact runGoes_yes c ra nr rc wa nw wc aa na ac ca nc cc own bA bn bc many hm.1 (by rw [h.lr, h.lw, hbn]; exact hm.2) h8 hmo w h hO hm.2
  · exact runGoes_no c ra nr rc wa nw wc aa na ac ca nc cc bA bn bc many w h hm
end
end Go.Proofs.Ytoomadafgkcebaa
