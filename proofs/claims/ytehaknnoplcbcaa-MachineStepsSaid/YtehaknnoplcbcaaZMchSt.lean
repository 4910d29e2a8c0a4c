/-
  MachineSteps, walked: true of any command, any blocks and any byte, in whatever memory.
-/
import Derived.Test.YtehaknnoplcbcaaZMrgt
import Derived.Test.YtehaknnoplcbcaaZRunQ
import Derived.Test.YtehaknnoplcbcaaZMchY
import Derived.Test.YtehaknnoplcbcaaQRowT
import Derived.Test.YtehaknnoplcbcaaQRely
namespace Go.Proofs.Ytehaknnoplcbcaa
open Go.RowKit
attribute [local go_sem] look findAt
attribute [local simp] depsOf isV Region.binds

/-- a pointer to a new machine. -/
def freshM (B : Nat) : Says := fun v w => ∃ g, v = .pointer (some ⟨g, 0, none⟩) ∧ B ≤ g ∧ Bk w g 32 mZ
theorem freshM_keep {B : Nat} (v : Value) (x y : World) (hb : Below x.heap.size x y) (h : freshM B v x) : freshM B v y := by
  obtain ⟨g, e, hg, hk⟩ := h
  exact ⟨g, e, hg, hk.below hb⟩
theorem freshM_lies {B : Nat} (v : Value) (w : World) (h : freshM B v w) : liesOf v w := by
  obtain ⟨g, rfl, _, hk⟩ := h
  intro q hq
  simp [blkOf] at hq
  subst hq
  exact hk.lt
theorem run_alloc_mach (ρ : Operand → Value) (w : World) (o : Oper) (ho : o.op = .alloc 32) : (execOp ρ o).run Try.prog w = .ok (.value (.pointer (some ⟨w.heap.size, 0, none⟩))) (w.alloc (.cells mZ 32)) := by
  unfold execOp
  simp only [ho]
  go_simp
theorem freshM_new {B : Nat} (w : World) (h : B ≤ w.heap.size) : freshM B (.pointer (some ⟨w.heap.size, 0, none⟩)) (w.alloc (.cells mZ 32)) ∧ newOf (.pointer (some ⟨w.heap.size, 0, none⟩)) w :=
  ⟨⟨_, rfl, h, Bk.new _ _ _⟩, fun q hq => by simp [blkOf] at hq; omega⟩

section
variable (c : Cmd) (ra : Option Addr) (nr rc : Nat) (wa : Option Addr) (nw wc : Nat) (aa : Option Addr) (na ac : Nat) (ca : Option Addr) (nc cc : Nat)
variable (own : Blks) (bA : Option Addr) (bn bc : Nat) (many : Int)

set_option maxHeartbeats 16000000 in
set_option maxRecDepth 100000 in
theorem machineSteps_no (w : World) (h : CmRaw w c ra nr rc wa nw wc aa na ac ca nc cc) (hno : ¬ (MayBe c ∧ bn = nr + nw)) :
    Calls Try.prog 3 #[cmV ra nr rc wa nw wc aa na ac c.fuel ca nc cc, .slice bA bn bc, .int .u8 many] w fun e w' => e = .returned (.bool true) ∧ Below w.heap.size w w' := by
  have hrt := Lib.hid (fun W (hW : Below w.heap.size w W) => right_any c ra nr rc wa nw wc aa na ac ca nc cc bA bn bc W (h.below hW) false ⟨(fun q => by cases q), fun q => absurd q hno⟩)
  have B0 := Lib.hid (below_alloc1 w (CmObj ra nr rc wa nw wc aa na ac c.fuel ca nc cc))
  have aw := Lib.hid (fun W => awake10 W)
  clear h hno
  generalize c.fuel = fuel at *
  go_enter Try.func3, Try.ntmps3
  go_wp2_with (first
    | (go_at_call 9; go_must ((with_reducible refine (hrt.out _ B0.out).mono ?_); rintro e w1 ⟨rfl, hb1⟩; have B1 := Lib.hid (bnext B0.out hb1); clear hb1))
    | (go_at_call 10; go_must ((with_reducible refine (aw.out _).mono ?_); rintro e w2 ⟨rfl, hb2⟩; have B2 := Lib.hid (bnext B1.out hb2))))
  go_ret
  exact ⟨rfl, B2.out⟩

set_option maxHeartbeats 16000000 in
set_option maxRecDepth 100000 in
theorem machineSteps_yes (hm : MayBe c) (hown : own.length = c.reads.length + c.writes.length) (h8 : ∀ b ∈ own, b.length = 8) (hmo : 0 ≤ many ∧ many ≤ 255) (w : World) (h : CmRaw w c ra nr rc wa nw wc aa na ac ca nc cc) (hO : Sl w 8 bA bn bc (blksW own)) (hbn : bn = nr + nw) :
    Calls Try.prog 3 #[cmV ra nr rc wa nw wc aa na ac c.fuel ca nc cc, .slice bA bn bc, .int .u8 many] w fun e w' => e = .returned (.bool true) ∧ Below w.heap.size w w' := by
  obtain ⟨d, hd⟩ := hm.depths
  obtain ⟨-, -, -, -, f5, f6⟩ := hm.few
  have hC := h.maybe hm
  have hrt := Lib.hid (fun W (hW : Below w.heap.size w W) => right_any c ra nr rc wa nw wc aa na ac ca nc cc bA bn bc W (h.below hW) true ⟨fun _ => ⟨hm, hbn⟩, fun _ => rfl⟩)
  have HF1 := Lib.hid (fun k => steps_fit hm hd hown h8 k)
  have st1 := Lib.hid (fun (k : Nat) (W : World) (hW : Below w.heap.size w W) (sA : Option Addr) (sn sc : Nat) (oA : Option Addr) (on oc : Nat) (bA : Option Addr) (bn bc : Nat) hM => step_any ra nr rc wa nw wc aa na ac ca nc cc sA sn sc oA on oc bA bn bc c (stepsM c k (newM c, own)).1 (stepsM c k (newM c, own)).2 W (HF1.out k) (hC.below hW) hM)
  have st2 := Lib.hid (fun (k : Nat) (W : World) (hW : Below w.heap.size w W) (sA : Option Addr) (sn sc : Nat) (oA : Option Addr) (on oc : Nat) (bA : Option Addr) (bn bc : Nat) hM => rstep_any ra nr rc wa nw wc aa na ac ca nc cc sA sn sc oA on oc bA bn bc c (stepsM c k (newM c, own)).1 (stepsM c k (newM c, own)).2 W (HF1.out k) (hC.below hW) hM)
  have su1 := Lib.hid (fun k => steps_succ c k (newM c, own))
  have z1 := Lib.hid (show stepsM c 0 (newM c, own) = (newM c, own) from rfl)
  have B0 := Lib.hid (below_alloc1 w (CmObj ra nr rc wa nw wc aa na ac c.fuel ca nc cc))
  have C0 : Hid (Bk (w.alloc (CmObj ra nr rc wa nw wc aa na ac c.fuel ca nc cc)) w.heap.size 25 #[.slice ra nr rc, .slice wa nw wc, .slice aa na ac, .int .i64 c.fuel, .slice ca nc cc]) := Lib.hid (Bk.new w _ _)
  have aw := Lib.hid (fun W => awake10 W)
  have hn1 := Lib.hid (fun W => mnew_any ra nr rc wa nw wc aa na ac c.fuel ca nc cc W)
  have hn2 := Lib.hid (fun W => rmnew_any ra nr rc wa nw wc aa na ac c.fuel ca nc cc W)
  have HO := Lib.hid hO
  have hyes := Lib.hid (fun (own : Blks) (h8 : ∀ b ∈ own, b.length = 8) (A A' : Option Addr) (n c c' : Nat) (w : World) (h : Blocks w A c own) (h' : Blocks w A' c' own) (hn : own.length = n) (hz : n ≤ 1000000) => rsameB_yes own h8 A A' n c c' w h h' hn hz)
  obtain ⟨N, hN⟩ := Int.eq_ofNat_of_zero_le (show (0 : Int) ≤ c.fuel by omega)
  obtain ⟨K, hK⟩ := Int.eq_ofNat_of_zero_le hmo.1
  have hK2 : K ≤ 255 := by omega
  subst hK
  have y1 := Lib.hid (show newM c = ⟨0, N, [], [0, 0, 0, 0], [], false, 0⟩ from by rw [newM, hN])
  clear h hm hd hown h8 hC hO hbn hmo
  generalize hfu : c.fuel = fuel at *
  subst hN
  clear hfu
  go_enter Try.func3, Try.ntmps3
  go_wp2_with (go_at_call 9; go_must ((with_reducible refine (hrt.out _ B0.out).mono ?_); rintro e w1 ⟨rfl, hb1⟩; have B1 := Lib.hid (bnext B0.out hb1); have C1 := Lib.hid (C0.out.below hb1); clear hb1))
  have la : Hid (∀ X, Below w1.heap.size w1 X → X.cell? ⟨w.heap.size, 0, none⟩ = some (.slice ra nr rc) ∧ X.cell? ⟨w.heap.size, 1, none⟩ = some (.slice wa nw wc) ∧ X.cell? ⟨w.heap.size, 2, none⟩ = some (.slice aa na ac) ∧ X.cell? ⟨w.heap.size, 3, none⟩ = some (.int .i64 (N : Int)) ∧ X.cell? ⟨w.heap.size, 4, none⟩ = some (.slice ca nc cc)) := Lib.hid (fun X hX => by
    obtain ⟨q0, q1, q2, q3, q4, -⟩ := (C1.out.below hX).cmd
    exact ⟨q0, q1, q2, q3, q4⟩)
  try simp only [List.append_eq, List.cons_append, List.nil_append]
  refine wp_region_saysB 6 (fun x y => Below x.heap.size x y) (fun _ _ _ h k => bnext h k) (fun i => i == 4 || i == 5) w1 (below_drew1 w1) (by kernel_rfl) (by kernel_rfl) (by kernel_rfl) (by kernel_rfl) (by rfl) ?_
  simp only [List.take_succ_cons, List.take_zero, List.drop_succ_cons, List.drop_zero]

  refine walkB_is ?_ rfl (fun _ => Below.refl _ _) (fun u X hX hd => ?_) ?_
  rotate_left
  · obtain ⟨q0, q1, q2, q3, q4⟩ := la.out X hX
    try simp at hd
    go_simp
    try rfl
  apply walkB_norm
  · first | (simp only [List.nil_append]; rfl) | (simp only [List.nil_append, List.cons_append]; rfl) | simp only [List.nil_append, List.cons_append]
  refine walkB_call (.agg (mC 0 (N : Int) (.slice none 0 0) 0 0 0 0 (.slice none 0 0) false 0)) 11 ?_ rfl (fun u X hX hd => ?_) (fun X hX => ?_) ?_
  rotate_left
  · obtain ⟨q0, q1, q2, q3, q4⟩ := la.out X hX
    try simp at hd
    go_simp
    try rfl
  · exact hn1.out X
  apply walkB_norm
  · first | (simp only [List.nil_append]; rfl) | (simp only [List.nil_append, List.cons_append]; rfl) | simp only [List.nil_append, List.cons_append]
  refine walkB_is ?_ rfl (fun _ => Below.refl _ _) (fun u X hX hd => ?_) ?_
  rotate_left
  · obtain ⟨q0, q1, q2, q3, q4⟩ := la.out X hX
    try simp at hd
    go_simp
    try rfl
  apply walkB_norm
  · first | (simp only [List.nil_append]; rfl) | (simp only [List.nil_append, List.cons_append]; rfl) | simp only [List.nil_append, List.cons_append]
  refine walkB_call (.agg (mC 0 (N : Int) (.slice none 0 0) 0 0 0 0 (.slice none 0 0) false 0)) 12 ?_ rfl (fun u X hX hd => ?_) (fun X hX => ?_) ?_
  rotate_left
  · obtain ⟨q0, q1, q2, q3, q4⟩ := la.out X hX
    try simp at hd
    go_simp
    try rfl
  · exact hn2.out X
  apply walkB_norm
  · first | (simp only [List.nil_append]; rfl) | (simp only [List.nil_append, List.cons_append]; rfl) | simp only [List.nil_append, List.cons_append]
  refine walkB_new (freshM w1.heap.size) (fun v x y hb h => freshM_keep v x y hb h) (fun _ v x h => freshM_lies v x h) (fun u X hX hd => ⟨_, _, run_alloc_mach _ X _ rfl, below_alloc1 _ _, (freshM_new X hX.size).1, fun _ => (freshM_new X hX.size).2⟩) ?_
  apply walkB_norm
  · first | (simp only [List.nil_append]; rfl) | (simp only [List.nil_append, List.cons_append]; rfl) | simp only [List.nil_append, List.cons_append]
  refine walkB_new (freshM w1.heap.size) (fun v x y hb h => freshM_keep v x y hb h) (fun _ v x h => freshM_lies v x h) (fun u X hX hd => ⟨_, _, run_alloc_mach _ X _ rfl, below_alloc1 _ _, (freshM_new X hX.size).1, fun _ => (freshM_new X hX.size).2⟩) ?_
  apply walkB_norm
  · first | (simp only [List.nil_append]; rfl) | (simp only [List.nil_append, List.cons_append]; rfl) | simp only [List.nil_append, List.cons_append]

  intro u X hX hsay htw
  simp only [sayAll, isV] at hsay
  obtain ⟨v0, v1, v2, v3, ⟨Ga, v4, hGa, ka⟩, ⟨Gb, v5, hGb, kb⟩, -⟩ := hsay
  have htw2 := htw 4 5 (by decide) (by decide) (by decide) rfl rfl
  rw [v4, v5] at htw2
  have hne : Ga ≠ Gb := fun e => htw2 Ga rfl (by rw [e]; rfl)
  have hne' : Gb ≠ Ga := Ne.symm hne
  have hla := ka.lt
  have hlb := kb.lt
  have hwl : w.heap.size < w1.heap.size := C1.out.lt
  have KA := Lib.hid ka
  have KB := Lib.hid (kb.farRow hne' (mC 0 (N : Int) (.slice none 0 0) 0 0 0 0 (.slice none 0 0) false 0))
  have BX := Lib.hid (bnext B1.out hX)
  have CX := Lib.hid (C1.out.below hX)
  simp only [putAll, Act.put, v0, v1, v2, v3, v4, v5, List.setIfInBounds_toArray, List.set_cons_succ, List.set_cons_zero]
  clear v0 v1 v2 v3 v4 v5 htw htw2 hX ka kb la
  go_wp2_with (first
    | (with_reducible refine st_mach Ga KA.out rfl rfl _ _ rfl rfl rfl rfl ?_)
    | (with_reducible refine st_mach Gb KB.out rfl rfl _ _ rfl rfl rfl rfl ?_))
  have hoff : Hid (∀ G, w.heap.size ≤ G → offA G bA bn) := Lib.hid (fun G hG hn b off he => by
    obtain ⟨b', off', e, hb, _⟩ := HO.out.2.2.2 hn
    rw [he] at e
    injection e with e
    injection e with e
    omega)
  have hNil : Hid (∀ W : World, Sl W 1 none 0 0 (([] : List Int).map (.int .i64))) := Lib.hid (fun W => ⟨rfl, Nat.le_refl _, fun _ => ⟨rfl, rfl⟩, fun h => absurd h (by omega)⟩)
  have BT : Hid (Below w.heap.size w ((X.setRow Ga (mC 0 (N : Int) (.slice none 0 0) 0 0 0 0 (.slice none 0 0) false 0)).setRow Gb (mC 0 (N : Int) (.slice none 0 0) 0 0 0 0 (.slice none 0 0) false 0))) := Lib.hid (below_row (below_row BX.out (by omega) _) (by omega) _)
  have CT : Hid (Bk ((X.setRow Ga (mC 0 (N : Int) (.slice none 0 0) 0 0 0 0 (.slice none 0 0) false 0)).setRow Gb (mC 0 (N : Int) (.slice none 0 0) 0 0 0 0 (.slice none 0 0) false 0)) w.heap.size 25 #[.slice ra nr rc, .slice wa nw wc, .slice aa na ac, .int .i64 (N : Int), .slice ca nc cc]) := Lib.hid ((CX.out.farRow (by omega) _).farRow (by omega) _)
  have AT1 : Hid (MAt Ga Gb (stepsM c 0 (newM c, own)) bA bn bc ((X.setRow Ga (mC 0 (N : Int) (.slice none 0 0) 0 0 0 0 (.slice none 0 0) false 0)).setRow Gb (mC 0 (N : Int) (.slice none 0 0) 0 0 0 0 (.slice none 0 0) false 0))) := Lib.hid (by
    rw [z1.out]
    refine ⟨none, 0, 0, none, 0, 0, ?_, ⟨hNil.out _, hNil.out _, HO.out.below BT.out⟩, ⟨fun h => absurd h (by omega), fun h => absurd h (by omega), hoff.out _ (by omega)⟩, ⟨fun h => absurd h (by omega), fun h => absurd h (by omega), hoff.out _ (by omega)⟩⟩
    have := (Bk.setRow KA.out (mC 0 (N : Int) (.slice none 0 0) 0 0 0 0 (.slice none 0 0) false 0)).farRow hne (mC 0 (N : Int) (.slice none 0 0) 0 0 0 0 (.slice none 0 0) false 0)
    rw [y1.out]
    exact this)
  have AT2 : Hid (MAt Gb Ga (stepsM c 0 (newM c, own)) bA bn bc ((X.setRow Ga (mC 0 (N : Int) (.slice none 0 0) 0 0 0 0 (.slice none 0 0) false 0)).setRow Gb (mC 0 (N : Int) (.slice none 0 0) 0 0 0 0 (.slice none 0 0) false 0))) := Lib.hid (by
    rw [z1.out]
    refine ⟨none, 0, 0, none, 0, 0, ?_, ⟨hNil.out _, hNil.out _, HO.out.below BT.out⟩, ⟨fun h => absurd h (by omega), fun h => absurd h (by omega), hoff.out _ (by omega)⟩, ⟨fun h => absurd h (by omega), fun h => absurd h (by omega), hoff.out _ (by omega)⟩⟩
    have := Bk.setRow KB.out (mC 0 (N : Int) (.slice none 0 0) 0 0 0 0 (.slice none 0 0) false 0)
    rw [y1.out]
    exact this)
  have hwa : w.heap.size < Ga := by omega
  have hwb : w.heap.size < Gb := by omega
  clear hrt hn1 hn2 B0 C0 B1 C1 KA KB BX CX z1 y1 hNil hoff hla hlb hGa hGb
  go_loopw [11, 9, 10] (fun ii xs ys wr => ∃ (k : Nat) (A1 : Option Addr) (n1 c1 : Nat) (A2 : Option Addr) (n2 c2' : Nat), k ≤ K ∧ ii = .int .i64 k ∧ xs = .slice A1 n1 c1 ∧ ys = .slice A2 n2 c2' ∧ Hid (Below w.heap.size w wr) ∧ Hid (MAt Ga Gb (stepsM c k (newM c, own)) A1 n1 c1 wr) ∧ Hid (MAt Gb Ga (stepsM c k (newM c, own)) A2 n2 c2' wr) ∧ Hid (Bk wr w.heap.size 25 #[.slice ra nr rc, .slice wa nw wc, .slice aa na ac, .int .i64 (N : Int), .slice ca nc cc])) (fun ii _ _ _ => K - (intOf ii).toNat)
  case atStart => exact ⟨0, _, _, _, _, _, _, Nat.zero_le _, rfl, rfl, rfl, BT, AT1, AT2, CT⟩
  case round =>
    clear AT1 AT2 CT BT
    obtain ⟨k, A1, n1, c1, A2, n2, c2', hk, rfl, rfl, rfl, HB, HA1, HA2, HC⟩ := hrel
    obtain ⟨sA, sn, sc, oA, on, oc, ax, am, ao, ap⟩ := HA1.out
    obtain ⟨sA', sn', sc', oA', on', oc', bx, bm, bo, bp⟩ := HA2.out
    have AX := Lib.hid ax
    have BX := Lib.hid bx
    have BM := Lib.hid bm
    have BO := Lib.hid bo
    have BP := Lib.hid bp
    obtain ⟨f0, f1, f2, f3, f4, ff⟩ := HC.out.cmd
    have fl := HC.out.lt
    by_cases hlt : k < K
    · have dk : (k : Int) < (K : Int) := by omega
      have hs1 := st1.out k wr HB.out sA sn sc oA on oc A1 n1 c1 am
      have hs2 := Lib.hid (fun (W : World) (hW : Below w.heap.size w W) hM => st2.out k W hW sA' sn' sc' oA' on' oc' A2 n2 c2' hM)
      have e1 : stepM c (stepsM c k (newM c, own)).1 (stepsM c k (newM c, own)).2 = stepsM c (k + 1) (newM c, own) := (su1.out k).symm
      have hfit := HF1.out (k + 1)
      rw [e1] at hs1 hs2
      obtain ⟨ra', hra⟩ : ∃ r, r = stepsM c (k + 1) (newM c, own) := ⟨_, rfl⟩
      have HRA := Lib.hid hra
      rw [← hra] at hs1 hs2 hfit
      clear hra e1
      obtain ⟨⟨pc, f, st, regs, ou, ov, to⟩, bl⟩ := ra'
      have hb8 := Lib.hid hfit.cells
      have hbm := hfit.many
      have hdm := hfit.deep
      have hom := hfit.outs
      simp only at hdm hom
      have HS1 : Hid (Calls Try.prog 13 #[cmV ra nr rc wa nw wc aa na ac (N : Int) ca nc cc, mM (stepsM c k (newM c, own)).1 sA sn sc oA on oc, .slice A1 n1 c1] wr (SPost pc f st (rg regs 0) (rg regs 1) (rg regs 2) (rg regs 3) ou ov to bl wr)) := Lib.hid hs1
      have HS2 : Hid (∀ W, Below w.heap.size w W → MIn W (stepsM c k (newM c, own)).1.stack (stepsM c k (newM c, own)).1.out (stepsM c k (newM c, own)).2 sA' sn' sc' oA' on' oc' A2 n2 c2' → Calls Try.prog 14 #[cmV ra nr rc wa nw wc aa na ac (N : Int) ca nc cc, mM (stepsM c k (newM c, own)).1 sA' sn' sc' oA' on' oc', .slice A2 n2 c2'] W (RSPost pc f st (rg regs 0) (rg regs 1) (rg regs 2) (rg regs 3) ou ov to bl sA' sn' oA' on' A2 n2 W)) := Lib.hid hs2.out
      clear hs1 hs2 hfit ax bx am bm ao ap bo bp HA1 HA2
      generalize stepsM c k (newM c, own) = r1 at *
      have hax := AX.out.lt
      have hbx := BX.out.lt
      go_wp2_with (first
        | (with_reducible refine ld_mach Ga AX.out _ rfl rfl rfl ?_)
        | (go_at_call 13; go_must ((with_reducible refine HS1.out.mono ?_); rintro e w5 ⟨sA5, sn5, sc5, oA5, on5, oc5, bA5, bn5, bc5, rfl, q3, b3, o3⟩; have X5 := Lib.hid (AX.out.below b3); have B5 : Hid (Below w.heap.size w (w5.setRow Ga (mC pc f (.slice sA5 sn5 sc5) (rg regs 0) (rg regs 1) (rg regs 2) (rg regs 3) (.slice oA5 on5 oc5) ov to))) := Lib.hid (below_row (bnext HB.out b3) (by omega) _); have C5 : Hid (Bk (w5.setRow Ga (mC pc f (.slice sA5 sn5 sc5) (rg regs 0) (rg regs 1) (rg regs 2) (rg regs 3) (.slice oA5 on5 oc5) ov to)) w.heap.size 25 #[.slice ra nr rc, .slice wa nw wc, .slice aa na ac, .int .i64 (N : Int), .slice ca nc cc]) := Lib.hid ((HC.out.below b3).farRow (by omega) _); have BX5 : Hid (Bk (w5.setRow Ga (mC pc f (.slice sA5 sn5 sc5) (rg regs 0) (rg regs 1) (rg regs 2) (rg regs 3) (.slice oA5 on5 oc5) ov to)) Gb 32 (mA r1.1 sA' sn' sc' oA' on' oc')) := Lib.hid ((BX.out.below b3).farRow hne' _); have AX5 : Hid (Bk (w5.setRow Ga (mC pc f (.slice sA5 sn5 sc5) (rg regs 0) (rg regs 1) (rg regs 2) (rg regs 3) (.slice oA5 on5 oc5) ov to)) Ga 32 (mC pc f (.slice sA5 sn5 sc5) (rg regs 0) (rg regs 1) (rg regs 2) (rg regs 3) (.slice oA5 on5 oc5) ov to)) := Lib.hid (Bk.setRow X5.out _); have M5 : Hid (MIn (w5.setRow Ga (mC pc f (.slice sA5 sn5 sc5) (rg regs 0) (rg regs 1) (rg regs 2) (rg regs 3) (.slice oA5 on5 oc5) ov to)) st ou bl sA5 sn5 sc5 oA5 on5 oc5 bA5 bn5 bc5) := Lib.hid (q3.setRow (o3 Ga hax) _); have O5a := Lib.hid (o3 Ga hax); have O5b := Lib.hid (o3 Gb hbx); have K2 := Lib.hid (HS2.out (w5.setRow Ga (mC pc f (.slice sA5 sn5 sc5) (rg regs 0) (rg regs 1) (rg regs 2) (rg regs 3) (.slice oA5 on5 oc5) ov to)) B5.out ((BM.out.below b3).setRow BP.out _)); obtain ⟨g0, g1, g2, g3, g4, gf⟩ := C5.out.cmd; have gl := C5.out.lt; clear q3 b3 o3))
        | (with_reducible refine st_mach Ga X5.out rfl rfl _ _ rfl rfl rfl rfl ?_)
        | (with_reducible refine ld_mach Gb BX5.out _ rfl rfl rfl ?_)
        | (go_at_call 14; go_must ((with_reducible refine K2.out.mono ?_); rintro e w6 ⟨sA6, sn6, sc6, oA6, on6, oc6, bA6, bn6, bc6, rfl, q3, b3, o3⟩; have X6 := Lib.hid (BX5.out.below b3); have B6 : Hid (Below w.heap.size w (w6.setRow Gb (mC pc f (.slice sA6 sn6 sc6) (rg regs 0) (rg regs 1) (rg regs 2) (rg regs 3) (.slice oA6 on6 oc6) ov to))) := Lib.hid (below_row (bnext B5.out b3) (by omega) _); have C6 : Hid (Bk (w6.setRow Gb (mC pc f (.slice sA6 sn6 sc6) (rg regs 0) (rg regs 1) (rg regs 2) (rg regs 3) (.slice oA6 on6 oc6) ov to)) w.heap.size 25 #[.slice ra nr rc, .slice wa nw wc, .slice aa na ac, .int .i64 (N : Int), .slice ca nc cc]) := Lib.hid ((C5.out.below b3).farRow (by omega) _); have AX6 : Hid (Bk (w6.setRow Gb (mC pc f (.slice sA6 sn6 sc6) (rg regs 0) (rg regs 1) (rg regs 2) (rg regs 3) (.slice oA6 on6 oc6) ov to)) Ga 32 (mC pc f (.slice sA5 sn5 sc5) (rg regs 0) (rg regs 1) (rg regs 2) (rg regs 3) (.slice oA5 on5 oc5) ov to)) := Lib.hid ((AX5.out.below b3).farRow hne _); have BX6 : Hid (Bk (w6.setRow Gb (mC pc f (.slice sA6 sn6 sc6) (rg regs 0) (rg regs 1) (rg regs 2) (rg regs 3) (.slice oA6 on6 oc6) ov to)) Gb 32 (mC pc f (.slice sA6 sn6 sc6) (rg regs 0) (rg regs 1) (rg regs 2) (rg regs 3) (.slice oA6 on6 oc6) ov to)) := Lib.hid (Bk.setRow X6.out _); have O6a := Lib.hid (o3 Ga (AX5.out.lt) BP.out); have O6b := Lib.hid (o3 Gb (BX5.out.lt) BO.out); have M5' : Hid (MIn (w6.setRow Gb (mC pc f (.slice sA6 sn6 sc6) (rg regs 0) (rg regs 1) (rg regs 2) (rg regs 3) (.slice oA6 on6 oc6) ov to)) st ou bl sA5 sn5 sc5 oA5 on5 oc5 bA5 bn5 bc5) := Lib.hid ((M5.out.below b3).setRow O5b.out _); have M6 : Hid (MIn (w6.setRow Gb (mC pc f (.slice sA6 sn6 sc6) (rg regs 0) (rg regs 1) (rg regs 2) (rg regs 3) (.slice oA6 on6 oc6) ov to)) st ou bl sA6 sn6 sc6 oA6 on6 oc6 bA6 bn6 bc6) := Lib.hid (q3.setRow O6b.out _); have SM : Hid (Calls Try.prog 15 #[.agg (mC pc f (.slice sA5 sn5 sc5) (rg regs 0) (rg regs 1) (rg regs 2) (rg regs 3) (.slice oA5 on5 oc5) ov to), .agg (mC pc f (.slice sA6 sn6 sc6) (rg regs 0) (rg regs 1) (rg regs 2) (rg regs 3) (.slice oA6 on6 oc6) ov to)] (w6.setRow Gb (mC pc f (.slice sA6 sn6 sc6) (rg regs 0) (rg regs 1) (rg regs 2) (rg regs 3) (.slice oA6 on6 oc6) ov to)) fun e w' => e = .returned (.bool true) ∧ Below (w6.setRow Gb (mC pc f (.slice sA6 sn6 sc6) (rg regs 0) (rg regs 1) (rg regs 2) (rg regs 3) (.slice oA6 on6 oc6) ov to)).heap.size (w6.setRow Gb (mC pc f (.slice sA6 sn6 sc6) (rg regs 0) (rg regs 1) (rg regs 2) (rg regs 3) (.slice oA6 on6 oc6) ov to)) w') := Lib.hid (by obtain ⟨p1, p2, -⟩ := M5'.out.lens hb8.out; obtain ⟨p4, p5, -⟩ := M6.out.lens hb8.out; have ks := M5'.out.st; have ko := M5'.out.ou; have ks' := M6.out.st; have ko' := M6.out.ou; obtain rfl : sn5 = sn6 := (by omega); obtain rfl : on5 = on6 := (by omega); exact rsame_yes pc f st ou (rg regs 0) (rg regs 1) (rg regs 2) (rg regs 3) ov to sA5 sA6 _ sc5 sc6 oA5 oA6 _ oc5 oc6 _ ks ks' ko ko' (by omega) (by omega)); clear q3 b3 o3))
        | (with_reducible refine st_mach Gb X6.out rfl rfl _ _ rfl rfl rfl rfl ?_)
        | (refine wpList_load_at _ Ga 0 (load_mach AX6.out) _ rfl rfl rfl ?_)
        | (refine wpList_load_at _ Gb 0 (load_mach BX6.out) _ rfl rfl rfl ?_)
        | (go_at_call 15; go_must ((with_reducible refine SM.out.mono ?_); rintro e w7 ⟨rfl, hb7⟩; have B7 := Lib.hid (bnext B6.out hb7); have C7 := Lib.hid (C6.out.below hb7); have AX7 := Lib.hid (AX6.out.below hb7); have BX7 := Lib.hid (BX6.out.below hb7); have M57 := Lib.hid (M5'.out.below hb7); have M67 := Lib.hid (M6.out.below hb7); have SB : Hid (Calls Try.prog 16 #[.slice bA5 bn5 bc5, .slice bA6 bn6 bc6] w7 fun e w' => e = .returned (.bool true) ∧ Below w7.heap.size w7 w') := Lib.hid (by obtain ⟨-, -, l3⟩ := M57.out.lens hb8.out; obtain ⟨-, -, l6⟩ := M67.out.lens hb8.out; have k5 := M57.out.bk; have k6 := M67.out.bk; rw [l3] at k5 ⊢; rw [l6] at k6 ⊢; exact hyes.out bl hb8.out _ _ _ _ _ _ k5 k6 rfl (by omega)); clear hb7))
        | (go_at_call 16; go_must ((with_reducible refine SB.out.mono ?_); rintro e w8 ⟨rfl, hb8'⟩; have B8 := Lib.hid (bnext B7.out hb8'); have C8 := Lib.hid (C7.out.below hb8'); have AX8 := Lib.hid (AX7.out.below hb8'); have BX8 := Lib.hid (BX7.out.below hb8'); have M58 := Lib.hid (M57.out.below hb8'); have M68 := Lib.hid (M67.out.below hb8'); clear hb8')))
      go_roundw
      case rel =>
        refine ⟨k + 1, _, _, _, _, _, _, by omega, by go_num, rfl, rfl, B8, Lib.hid ?_, Lib.hid ?_, C8⟩
        · rw [← HRA.out]
          exact ⟨sA5, sn5, sc5, oA5, on5, oc5, AX8.out, M58.out, O5a.out, O5b.out⟩
        · rw [← HRA.out]
          exact ⟨sA6, sn6, sc6, oA6, on6, oc6, BX8.out, M68.out, O6b.out, O6a.out⟩
      case measure => simp [intOf]; omega
    · obtain rfl : k = K := by omega
      clear hlt AX BX BM BO BP ax bx am bm ao ap bo bp HA1 HA2
      go_wp2_with (go_at_call 10; go_must ((with_reducible refine (aw.out _).mono ?_); rintro e w9 ⟨rfl, hb9⟩; have B9 := Lib.hid (bnext HB.out hb9)))
      go_ret
      exact ⟨rfl, B9.out⟩

theorem machineSteps_walk (h8 : ∀ b ∈ own, b.length = 8) (hmo : 0 ≤ many ∧ many ≤ 255) (w : World) (h : CmRaw w c ra nr rc wa nw wc aa na ac ca nc cc) (hO : Sl w 8 bA bn bc (blksW own)) (hbn : own.length = bn) :
    Calls Try.prog 3 #[cmV ra nr rc wa nw wc aa na ac c.fuel ca nc cc, .slice bA bn bc, .int .u8 many] w fun e w' => e = .returned (.bool true) ∧ Below w.heap.size w w' := by
  by_cases hm : MayBe c ∧ bn = nr + nw
  · exact machineSteps_yes c ra nr rc wa nw wc aa na ac ca nc cc own bA bn bc many hm.1 (by rw [h.lr, h.lw, hbn]; exact hm.2) h8 hmo w h hO hm.2
  · exact machineSteps_no c ra nr rc wa nw wc aa na ac ca nc cc bA bn bc many w h hm
end
end Go.Proofs.Ytehaknnoplcbcaa
