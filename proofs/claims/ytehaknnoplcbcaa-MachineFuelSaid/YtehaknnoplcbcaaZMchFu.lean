/-
  MachineFuel, walked: true of any command, any blocks and any byte, in whatever memory.
-/
import Derived.Test.YtehaknnoplcbcaaZMrgt
import Derived.Test.YtehaknnoplcbcaaZRunQ
import Derived.Test.YtehaknnoplcbcaaZMchY
namespace Go.Proofs.Ytehaknnoplcbcaa
open Go.RowKit

section
variable (c : Cmd) (ra : Option Addr) (nr rc : Nat) (wa : Option Addr) (nw wc : Nat) (aa : Option Addr) (na ac : Nat) (ca : Option Addr) (nc cc : Nat)
variable (own : Blks) (bA : Option Addr) (bn bc : Nat) (more : Int)

set_option maxHeartbeats 16000000 in
set_option maxRecDepth 100000 in
theorem machineFuel_no (w : World) (h : CmRaw w c ra nr rc wa nw wc aa na ac ca nc cc) (hno : ¬ (MayBe c ∧ bn = nr + nw)) :
    Calls Try.prog 5 #[cmV ra nr rc wa nw wc aa na ac c.fuel ca nc cc, .slice bA bn bc, .int .u8 more] w fun e w' => e = .returned (.bool true) ∧ Below w.heap.size w w' := by
  have hrt := Lib.hid (fun W (hW : Below w.heap.size w W) => right_any c ra nr rc wa nw wc aa na ac ca nc cc bA bn bc W (h.below hW) false ⟨(fun q => by cases q), fun q => absurd q hno⟩)
  have B0 := Lib.hid (below_alloc1 w (CmObj ra nr rc wa nw wc aa na ac c.fuel ca nc cc))
  have aw := Lib.hid (fun W => awake10 W)
  clear h hno
  generalize c.fuel = fuel at *
  go_enter Try.func5, Try.ntmps5
  go_wp2_with (first
    | (go_at_call 9; go_must ((with_reducible refine (hrt.out _ B0.out).mono ?_); rintro e w1 ⟨rfl, hb1⟩; have B1 := Lib.hid (bnext B0.out hb1); clear hb1))
    | (go_at_call 10; go_must ((with_reducible refine (aw.out _).mono ?_); rintro e w2 ⟨rfl, hb2⟩; have B2 := Lib.hid (bnext B1.out hb2))))
  go_ret
  exact ⟨rfl, B2.out⟩

set_option maxHeartbeats 16000000 in
set_option maxRecDepth 100000 in
theorem machineFuel_yes (hm : MayBe c) (hown : own.length = c.reads.length + c.writes.length) (h8 : ∀ b ∈ own, b.length = 8) (hmo : 0 ≤ more ∧ more ≤ 255) (w : World) (h : CmRaw w c ra nr rc wa nw wc aa na ac ca nc cc) (hO : Sl w 8 bA bn bc (blksW own)) (hbn : bn = nr + nw) :
    Calls Try.prog 5 #[cmV ra nr rc wa nw wc aa na ac c.fuel ca nc cc, .slice bA bn bc, .int .u8 more] w fun e w' => e = .returned (.bool true) ∧ Below w.heap.size w w' := by
  obtain ⟨d, hd⟩ := hm.depths
  obtain ⟨-, -, -, -, f5, f6⟩ := hm.few
  have hC := h.maybe hm
  obtain ⟨x, hx, hx0, hx2⟩ : ∃ x : Int, (if c.fuel + more < 200 then c.fuel + more else 200) = c.fuel + x ∧ 0 ≤ x ∧ c.fuel + x ≤ 200 := by
    by_cases q : c.fuel + more < 200
    · rw [if_pos q]; exact ⟨more, rfl, by omega, by omega⟩
    · rw [if_neg q]; exact ⟨200 - c.fuel, by omega, by omega, by omega⟩
  have hm2 : MayBe { c with fuel := c.fuel + x } := hm.fuel (by omega) hx2
  have hrt := Lib.hid (fun W (hW : Below w.heap.size w W) => right_any c ra nr rc wa nw wc aa na ac ca nc cc bA bn bc W (h.below hW) true ⟨fun _ => ⟨hm, hbn⟩, fun _ => rfl⟩)
  have HF1 := Lib.hid (fun k => steps_fit hm hd hown h8 k)
  have HF2 := Lib.hid (fun k => steps_fit (c := { c with fuel := c.fuel + x }) hm2 hd hown h8 k)
  have HM := Lib.hid (fun (n : Nat) (hn : (n : Int) ≤ c.fuel) => steps_more hm hd (own := own) (new_ok hm hd hown h8) hx0 n hn)
  have st1 := Lib.hid (fun (k : Nat) (W : World) (hW : Below w.heap.size w W) (sA : Option Addr) (sn sc : Nat) (oA : Option Addr) (on oc : Nat) (bA : Option Addr) (bn bc : Nat) hM => step_any ra nr rc wa nw wc aa na ac ca nc cc sA sn sc oA on oc bA bn bc c (stepsM c k (newM c, own)).1 (stepsM c k (newM c, own)).2 W (HF1.out k) (hC.below hW) hM)
  have st2 := Lib.hid (fun (k : Nat) (W : World) (hW : Below w.heap.size w W) (sA : Option Addr) (sn sc : Nat) (oA : Option Addr) (on oc : Nat) (bA : Option Addr) (bn bc : Nat) hM => step_any ra nr rc wa nw wc aa na ac ca nc cc sA sn sc oA on oc bA bn bc { c with fuel := c.fuel + x } (stepsM { c with fuel := c.fuel + x } k (newM { c with fuel := c.fuel + x }, own)).1 (stepsM { c with fuel := c.fuel + x } k (newM { c with fuel := c.fuel + x }, own)).2 W (HF2.out k) ((hC.fuel _).below hW) hM)
  have su1 := Lib.hid (fun k => steps_succ c k (newM c, own))
  have su2 := Lib.hid (fun k => steps_succ { c with fuel := c.fuel + x } k (newM { c with fuel := c.fuel + x }, own))
  have z1 := Lib.hid (show stepsM c 0 (newM c, own) = (newM c, own) from rfl)
  have z2 := Lib.hid (show stepsM { c with fuel := c.fuel + x } 0 (newM { c with fuel := c.fuel + x }, own) = (newM { c with fuel := c.fuel + x }, own) from rfl)
  have y1 := Lib.hid (show (newM c).fuel = c.fuel from rfl)
  have y2 := Lib.hid (show (newM { c with fuel := c.fuel + x }).fuel = c.fuel + x from rfl)
  have hle := Lib.hid (fun k => steps_fuel_le (c := c) (newM c, own) k)
  have hge : Hid (∀ k, 0 ≤ (stepsM c k (newM c, own)).1.fuel) := Lib.hid (fun k => (HF1.out k).fuel.1)
  have B0 := Lib.hid (below_alloc1 w (CmObj ra nr rc wa nw wc aa na ac c.fuel ca nc cc))
  have C0 : Hid (Bk (w.alloc (CmObj ra nr rc wa nw wc aa na ac c.fuel ca nc cc)) w.heap.size 25 #[.slice ra nr rc, .slice wa nw wc, .slice aa na ac, .int .i64 c.fuel, .slice ca nc cc]) := Lib.hid (Bk.new w _ _)
  have aw := Lib.hid (fun W => awake10 W)
  have hn1 := Lib.hid (fun W => mnew_any ra nr rc wa nw wc aa na ac c.fuel ca nc cc W)
  have hn2 := Lib.hid (fun W => mnew_any ra nr rc wa nw wc aa na ac (c.fuel + x) ca nc cc W)
  have HO := Lib.hid hO
  have hyes := Lib.hid (fun (own : Blks) (h8 : ∀ b ∈ own, b.length = 8) (A A' : Option Addr) (n c c' : Nat) (w : World) (h : Blocks w A c own) (h' : Blocks w A' c' own) (hn : own.length = n) (hz : n ≤ 1000000) => rsameB_yes own h8 A A' n c c' w h h' hn hz)
  obtain ⟨N, hN⟩ := Int.eq_ofNat_of_zero_le (show (0 : Int) ≤ c.fuel by omega)
  clear h hm hm2 hd hown h8 hC hO hbn
  obtain ⟨c2, hc2⟩ : ∃ c2 : Cmd, c2 = { c with fuel := c.fuel + x } := ⟨_, rfl⟩
  rw [← hc2] at HF2 st2 su2 z2 y2 HM
  have st2' : Hid (∀ (k : Nat) (W : World), Below w.heap.size w W → ∀ (sA : Option Addr) (sn sc : Nat) (oA : Option Addr) (on oc : Nat) (bA : Option Addr) (bn bc : Nat), MIn W (stepsM c2 k (newM c2, own)).1.stack (stepsM c2 k (newM c2, own)).1.out (stepsM c2 k (newM c2, own)).2 sA sn sc oA on oc bA bn bc →
      Calls Try.prog 13 #[cmV ra nr rc wa nw wc aa na ac (c.fuel + x) ca nc cc, mM (stepsM c2 k (newM c2, own)).1 sA sn sc oA on oc, .slice bA bn bc] W (MacPost (stepM c2 (stepsM c2 k (newM c2, own)).1 (stepsM c2 k (newM c2, own)).2) W)) := Lib.hid (by
    have := st2.out
    rw [hc2] at this ⊢
    exact this)
  clear st2 hc2
  generalize hfu : c.fuel = fuel at *
  subst hN

  have m1 : True := trivial
  go_enter Try.func5, Try.ntmps5
  go_wp2_with (first
    | (go_at_call 9; go_must ((with_reducible refine (hrt.out _ B0.out).mono ?_); rintro e w1 ⟨rfl, hb1⟩; have B1 := Lib.hid (bnext B0.out hb1); have C1 := Lib.hid (C0.out.below hb1); obtain ⟨c0, c1, c2', c3, c4, cf⟩ := C1.out.cmd; have cl := C1.out.lt; have E1 := Lib.hid (below_alloc1 w1 (.cells #[.slice ra nr rc, .slice wa nw wc, .slice aa na ac, .int .i64 ((N : Int) + x), .slice ca nc cc] 25)); have D1 : Hid (Bk (w1.alloc (.cells #[.slice ra nr rc, .slice wa nw wc, .slice aa na ac, .int .i64 ((N : Int) + x), .slice ca nc cc] 25)) w1.heap.size 25 #[.slice ra nr rc, .slice wa nw wc, .slice aa na ac, .int .i64 ((N : Int) + x), .slice ca nc cc]) := Lib.hid (Bk.new _ _ _); clear hb1))
    | (go_at_call 11; clear m1; go_must ((with_reducible refine (hn1.out _).mono ?_); rintro e w2 ⟨rfl, hb2⟩; have B2 := Lib.hid (bnext (bnext B1.out E1.out) hb2); have C2 := Lib.hid ((C1.out.below E1.out).below hb2); have D2 := Lib.hid (D1.out.below hb2); have N2 := Lib.hid (Bk.new w2 32 mZ); have V2 := Lib.hid (var_below w2 (mC 0 (N : Int) (.slice none 0 0) 0 0 0 0 (.slice none 0 0) false 0)); have K2 := Lib.hid (var_bk w2 (mC 0 (N : Int) (.slice none 0 0) 0 0 0 0 (.slice none 0 0) false 0)); have C2' := Lib.hid (C2.out.below V2.out); have D2' := Lib.hid (D2.out.below V2.out); obtain ⟨d0, d1, d2, d3, d4, df⟩ := D2'.out.cmd; have dl := D2'.out.lt; clear hb2))
    | (with_reducible refine st_mach w2.heap.size N2.out rfl rfl _ _ rfl rfl rfl rfl ?_)
    | (go_at_call 11; go_must ((with_reducible refine (hn2.out _).mono ?_); rintro e w3 ⟨rfl, hb3⟩; have B3 := Lib.hid (bnext (bnext B2.out V2.out) hb3); have C3 := Lib.hid (C2'.out.below hb3); have D3 := Lib.hid (D2'.out.below hb3); have K3 := Lib.hid (K2.out.below hb3); have N3 := Lib.hid (Bk.new w3 32 mZ); have V3 := Lib.hid (var_below w3 (mC 0 ((N : Int) + x) (.slice none 0 0) 0 0 0 0 (.slice none 0 0) false 0)); clear hb3))
    | (with_reducible refine st_mach w3.heap.size N3.out rfl rfl _ _ rfl rfl rfl rfl ?_))
  obtain ⟨Ga, hGa⟩ : ∃ G, G = w2.heap.size := ⟨_, rfl⟩
  obtain ⟨Gb, hGb⟩ : ∃ G, G = w3.heap.size := ⟨_, rfl⟩
  obtain ⟨Gd, hGd⟩ : ∃ G, G = w1.heap.size := ⟨_, rfl⟩
  have hwd : w.heap.size < Gd := by rw [hGd]; exact C1.out.lt
  have hda : Gd < Ga := by rw [hGa, hGd]; exact D2.out.lt
  have hab : Ga < Gb := by rw [hGa, hGb]; exact K3.out.lt
  have hoff : Hid (∀ G, w.heap.size ≤ G → offA G bA bn) := Lib.hid (fun G hG hn b off he => by
    obtain ⟨b', off', e, hb, _⟩ := HO.out.2.2.2 hn
    rw [he] at e
    injection e with e
    injection e with e
    omega)
  have hNil : Hid (∀ W : World, Sl W 1 none 0 0 (([] : List Int).map (.int .i64))) := Lib.hid (fun W => ⟨rfl, Nat.le_refl _, fun _ => ⟨rfl, rfl⟩, fun h => absurd h (by omega)⟩)
  have BT := Lib.hid (bnext B3.out V3.out)
  have CT := Lib.hid (C3.out.below V3.out)
  have DT := Lib.hid (D3.out.below V3.out)
  have AT1 : Hid (MAt Ga Gb (stepsM c 0 (newM c, own)) bA bn bc ((w3.alloc (.cells mZ 32)).setRow w3.heap.size (mC 0 ((N : Int) + x) (.slice none 0 0) 0 0 0 0 (.slice none 0 0) false 0))) := Lib.hid (by
    rw [z1.out, hGa]
    refine ⟨none, 0, 0, none, 0, 0, ?_, ⟨hNil.out _, hNil.out _, HO.out.below BT.out⟩, ⟨fun h => absurd h (by omega), fun h => absurd h (by omega), hoff.out _ (by omega)⟩, ⟨fun h => absurd h (by omega), fun h => absurd h (by omega), hoff.out _ (by omega)⟩⟩
    have := K3.out.below V3.out
    rw [show mA (newM c, own).1 none 0 0 none 0 0 = (mC 0 (N : Int) (.slice none 0 0) 0 0 0 0 (.slice none 0 0) false 0) from by unfold mA; rw [y1.out]; rfl]
    exact this)
  have AT2 : Hid (MAt Gb Ga (stepsM c2 0 (newM c2, own)) bA bn bc ((w3.alloc (.cells mZ 32)).setRow w3.heap.size (mC 0 ((N : Int) + x) (.slice none 0 0) 0 0 0 0 (.slice none 0 0) false 0))) := Lib.hid (by
    rw [z2.out, hGb]
    refine ⟨none, 0, 0, none, 0, 0, ?_, ⟨hNil.out _, hNil.out _, HO.out.below BT.out⟩, ⟨fun h => absurd h (by omega), fun h => absurd h (by omega), hoff.out _ (by omega)⟩, ⟨fun h => absurd h (by omega), fun h => absurd h (by omega), hoff.out _ (by omega)⟩⟩
    have := var_bk w3 (mC 0 ((N : Int) + x) (.slice none 0 0) 0 0 0 0 (.slice none 0 0) false 0)
    rw [show mA (newM c2, own).1 none 0 0 none 0 0 = (mC 0 ((N : Int) + x) (.slice none 0 0) 0 0 0 0 (.slice none 0 0) false 0) from by unfold mA; rw [y2.out]; rfl]
    exact this)
  rw [← hGa, ← hGb, ← hGd] at *
  clear hGa hGb hGd hrt hn1 hn2 B0 C0 B1 C1 c0 c1 c2' c3 c4 cf cl E1 D1 B2 C2 D2 N2 V2 K2 C2' D2' d0 d1 d2 d3 d4 df dl B3 C3 D3 K3 N3 V3 z1 z2 y1 y2 hNil hoff

  go_loopw [12, 9, 11] (fun ii xs ys wr => ∃ (k : Nat) (A1 : Option Addr) (n1 c1 : Nat) (A2 : Option Addr) (n2 c2' : Nat), k ≤ N ∧ ii = .int .i64 k ∧ xs = .slice A1 n1 c1 ∧ ys = .slice A2 n2 c2' ∧ Hid (Below w.heap.size w wr) ∧ Hid (MAt Ga Gb (stepsM c k (newM c, own)) A1 n1 c1 wr) ∧ Hid (MAt Gb Ga (stepsM c2 k (newM c2, own)) A2 n2 c2' wr) ∧ Hid (Bk wr w.heap.size 25 #[.slice ra nr rc, .slice wa nw wc, .slice aa na ac, .int .i64 (N : Int), .slice ca nc cc]) ∧ Hid (Bk wr Gd 25 #[.slice ra nr rc, .slice wa nw wc, .slice aa na ac, .int .i64 ((N : Int) + x), .slice ca nc cc])) (fun ii _ _ _ => N - (intOf ii).toNat)
  case atStart => exact ⟨0, _, _, _, _, _, _, Nat.zero_le _, rfl, rfl, rfl, BT, AT1, AT2, CT, DT⟩
  case round =>
    clear AT1 AT2 CT DT BT
    obtain ⟨k, A1, n1, c1, A2, n2, c2', hk, rfl, rfl, rfl, HB, HA1, HA2, HC, HD⟩ := hrel
    obtain ⟨sA, sn, sc, oA, on, oc, ax, am, ao, ap⟩ := HA1.out
    obtain ⟨sA', sn', sc', oA', on', oc', bx, bm, bo, bp⟩ := HA2.out
    have AX := Lib.hid ax
    have BX := Lib.hid bx
    have BM := Lib.hid bm
    have BP := Lib.hid bp
    obtain ⟨f0, f1, f2, f3, f4, ff⟩ := HC.out.cmd
    have fl := HC.out.lt
    by_cases hlt : k < N
    · have dk : (k : Int) < (N : Int) := by omega
      have hs1 := st1.out k wr HB.out sA sn sc oA on oc A1 n1 c1 am
      have hs2 := Lib.hid (fun (W : World) (hW : Below w.heap.size w W) hM => st2'.out k W hW sA' sn' sc' oA' on' oc' A2 n2 c2' hM)
      have e1 : stepM c (stepsM c k (newM c, own)).1 (stepsM c k (newM c, own)).2 = stepsM c (k + 1) (newM c, own) := (su1.out k).symm
      have e2 := su2.out k
      rw [HM.out (k + 1) (by omega)] at e2
      have hfit := HF1.out (k + 1)
      have hfu1 := hle.out (k + 1)
      have hfu2 := hge.out (k + 1)
      have hnk := HM.out (k + 1) (by omega)
      have hnf : (newM c, own).1.fuel = (N : Int) := by
        rw [show (newM c, own).1.fuel = c.fuel from rfl, hfu]
      rw [hnf] at hfu1
      rw [e1] at hs1
      rw [← e2] at hs2
      obtain ⟨ra', hra⟩ : ∃ r, r = stepsM c (k + 1) (newM c, own) := ⟨_, rfl⟩
      have HRA := Lib.hid hra
      have HRB : Hid (stepsM c2 (k + 1) (newM c2, own) = ({ ra'.1 with fuel := ra'.1.fuel + x }, ra'.2)) := Lib.hid (by rw [hnk, hra])
      rw [← hra] at hs1 hs2 hfit hfu1 hfu2
      clear hra hnk e1 e2 hnf
      obtain ⟨⟨pc, f, st, regs, ou, ov, to⟩, bl⟩ := ra'
      simp only at hfu1 hfu2
      have hb8 := Lib.hid hfit.cells
      have hbm := hfit.many
      have HS1 : Hid (Calls Try.prog 13 #[cmV ra nr rc wa nw wc aa na ac (N : Int) ca nc cc, mM (stepsM c k (newM c, own)).1 sA sn sc oA on oc, .slice A1 n1 c1] wr (SPost pc f st (rg regs 0) (rg regs 1) (rg regs 2) (rg regs 3) ou ov to bl wr)) := Lib.hid hs1
      have HS2 : Hid (∀ W, Below w.heap.size w W → MIn W (stepsM c2 k (newM c2, own)).1.stack (stepsM c2 k (newM c2, own)).1.out (stepsM c2 k (newM c2, own)).2 sA' sn' sc' oA' on' oc' A2 n2 c2' → Calls Try.prog 13 #[cmV ra nr rc wa nw wc aa na ac ((N : Int) + x) ca nc cc, mM (stepsM c2 k (newM c2, own)).1 sA' sn' sc' oA' on' oc', .slice A2 n2 c2'] W (SPost pc (f + x) st (rg regs 0) (rg regs 1) (rg regs 2) (rg regs 3) ou ov to bl W)) := Lib.hid hs2.out
      clear hs1 hs2 hfit ax bx am bm ao ap bo bp HA1 HA2
      generalize stepsM c k (newM c, own) = r1 at *
      generalize stepsM c2 k (newM c2, own) = r2 at *
      have hax := AX.out.lt
      have hbx := BX.out.lt
      have m2 : True := trivial
      go_wp2_with (first
        | (with_reducible refine ld_mach Ga AX.out _ rfl rfl rfl ?_)
        | (go_at_call 13; clear m2; go_must ((with_reducible refine HS1.out.mono ?_); rintro e w5 ⟨sA5, sn5, sc5, oA5, on5, oc5, bA5, bn5, bc5, rfl, q3, b3, o3⟩; have X5 := Lib.hid (AX.out.below b3); have B5 : Hid (Below w.heap.size w (w5.setRow Ga (mC pc f (.slice sA5 sn5 sc5) (rg regs 0) (rg regs 1) (rg regs 2) (rg regs 3) (.slice oA5 on5 oc5) ov to))) := Lib.hid (below_row (bnext HB.out b3) (by omega) _); have C5 : Hid (Bk (w5.setRow Ga (mC pc f (.slice sA5 sn5 sc5) (rg regs 0) (rg regs 1) (rg regs 2) (rg regs 3) (.slice oA5 on5 oc5) ov to)) w.heap.size 25 #[.slice ra nr rc, .slice wa nw wc, .slice aa na ac, .int .i64 (N : Int), .slice ca nc cc]) := Lib.hid ((HC.out.below b3).farRow (by omega) _); have D5 : Hid (Bk (w5.setRow Ga (mC pc f (.slice sA5 sn5 sc5) (rg regs 0) (rg regs 1) (rg regs 2) (rg regs 3) (.slice oA5 on5 oc5) ov to)) Gd 25 #[.slice ra nr rc, .slice wa nw wc, .slice aa na ac, .int .i64 ((N : Int) + x), .slice ca nc cc]) := Lib.hid ((HD.out.below b3).farRow (by omega) _); have BX5 : Hid (Bk (w5.setRow Ga (mC pc f (.slice sA5 sn5 sc5) (rg regs 0) (rg regs 1) (rg regs 2) (rg regs 3) (.slice oA5 on5 oc5) ov to)) Gb 32 (mA r2.1 sA' sn' sc' oA' on' oc')) := Lib.hid ((BX.out.below b3).farRow (by omega) _); have AX5 : Hid (Bk (w5.setRow Ga (mC pc f (.slice sA5 sn5 sc5) (rg regs 0) (rg regs 1) (rg regs 2) (rg regs 3) (.slice oA5 on5 oc5) ov to)) Ga 32 (mC pc f (.slice sA5 sn5 sc5) (rg regs 0) (rg regs 1) (rg regs 2) (rg regs 3) (.slice oA5 on5 oc5) ov to)) := Lib.hid (Bk.setRow X5.out _); have M5 : Hid (MIn (w5.setRow Ga (mC pc f (.slice sA5 sn5 sc5) (rg regs 0) (rg regs 1) (rg regs 2) (rg regs 3) (.slice oA5 on5 oc5) ov to)) st ou bl sA5 sn5 sc5 oA5 on5 oc5 bA5 bn5 bc5) := Lib.hid (q3.setRow (o3 Ga hax) _); have O5a := Lib.hid (o3 Ga hax); have O5b := Lib.hid (o3 Gb hbx); have K2 := Lib.hid (HS2.out (w5.setRow Ga (mC pc f (.slice sA5 sn5 sc5) (rg regs 0) (rg regs 1) (rg regs 2) (rg regs 3) (.slice oA5 on5 oc5) ov to)) B5.out ((BM.out.below b3).setRow BP.out _)); obtain ⟨g0, g1, g2, g3, g4, gf⟩ := D5.out.cmd; have gl := D5.out.lt; clear q3 b3 o3))
        | (with_reducible refine st_mach Ga X5.out rfl rfl _ _ rfl rfl rfl rfl ?_)
        | (with_reducible refine ld_mach Gb BX5.out _ rfl rfl rfl ?_)
        | (go_at_call 13; go_must ((with_reducible refine K2.out.mono ?_); rintro e w6 ⟨sA6, sn6, sc6, oA6, on6, oc6, bA6, bn6, bc6, rfl, q3, b3, o3⟩; have X6 := Lib.hid (BX5.out.below b3); have B6 : Hid (Below w.heap.size w (w6.setRow Gb (mC pc (f + x) (.slice sA6 sn6 sc6) (rg regs 0) (rg regs 1) (rg regs 2) (rg regs 3) (.slice oA6 on6 oc6) ov to))) := Lib.hid (below_row (bnext B5.out b3) (by omega) _); have C6 : Hid (Bk (w6.setRow Gb (mC pc (f + x) (.slice sA6 sn6 sc6) (rg regs 0) (rg regs 1) (rg regs 2) (rg regs 3) (.slice oA6 on6 oc6) ov to)) w.heap.size 25 #[.slice ra nr rc, .slice wa nw wc, .slice aa na ac, .int .i64 (N : Int), .slice ca nc cc]) := Lib.hid ((C5.out.below b3).farRow (by omega) _); have D6 : Hid (Bk (w6.setRow Gb (mC pc (f + x) (.slice sA6 sn6 sc6) (rg regs 0) (rg regs 1) (rg regs 2) (rg regs 3) (.slice oA6 on6 oc6) ov to)) Gd 25 #[.slice ra nr rc, .slice wa nw wc, .slice aa na ac, .int .i64 ((N : Int) + x), .slice ca nc cc]) := Lib.hid ((D5.out.below b3).farRow (by omega) _); have AX6 : Hid (Bk (w6.setRow Gb (mC pc (f + x) (.slice sA6 sn6 sc6) (rg regs 0) (rg regs 1) (rg regs 2) (rg regs 3) (.slice oA6 on6 oc6) ov to)) Ga 32 (mC pc f (.slice sA5 sn5 sc5) (rg regs 0) (rg regs 1) (rg regs 2) (rg regs 3) (.slice oA5 on5 oc5) ov to)) := Lib.hid ((AX5.out.below b3).farRow (by omega) _); have BX6 : Hid (Bk (w6.setRow Gb (mC pc (f + x) (.slice sA6 sn6 sc6) (rg regs 0) (rg regs 1) (rg regs 2) (rg regs 3) (.slice oA6 on6 oc6) ov to)) Gb 32 (mC pc (f + x) (.slice sA6 sn6 sc6) (rg regs 0) (rg regs 1) (rg regs 2) (rg regs 3) (.slice oA6 on6 oc6) ov to)) := Lib.hid (Bk.setRow X6.out _); have M5' : Hid (MIn (w6.setRow Gb (mC pc (f + x) (.slice sA6 sn6 sc6) (rg regs 0) (rg regs 1) (rg regs 2) (rg regs 3) (.slice oA6 on6 oc6) ov to)) st ou bl sA5 sn5 sc5 oA5 on5 oc5 bA5 bn5 bc5) := Lib.hid ((M5.out.below b3).setRow O5b.out _); have M6 : Hid (MIn (w6.setRow Gb (mC pc (f + x) (.slice sA6 sn6 sc6) (rg regs 0) (rg regs 1) (rg regs 2) (rg regs 3) (.slice oA6 on6 oc6) ov to)) st ou bl sA6 sn6 sc6 oA6 on6 oc6 bA6 bn6 bc6) := Lib.hid (q3.setRow (o3 Gb (BX5.out.lt)) _); have O6a := Lib.hid (o3 Ga (AX5.out.lt)); have O6b := Lib.hid (o3 Gb (BX5.out.lt)); have SB : Hid (Calls Try.prog 16 #[.slice bA5 bn5 bc5, .slice bA6 bn6 bc6] (w6.setRow Gb (mC pc (f + x) (.slice sA6 sn6 sc6) (rg regs 0) (rg regs 1) (rg regs 2) (rg regs 3) (.slice oA6 on6 oc6) ov to)) fun e w' => e = .returned (.bool true) ∧ Below (w6.setRow Gb (mC pc (f + x) (.slice sA6 sn6 sc6) (rg regs 0) (rg regs 1) (rg regs 2) (rg regs 3) (.slice oA6 on6 oc6) ov to)).heap.size (w6.setRow Gb (mC pc (f + x) (.slice sA6 sn6 sc6) (rg regs 0) (rg regs 1) (rg regs 2) (rg regs 3) (.slice oA6 on6 oc6) ov to)) w') := Lib.hid (by obtain ⟨-, -, l3⟩ := M5'.out.lens hb8.out; obtain ⟨-, -, l6⟩ := M6.out.lens hb8.out; have k5 := M5'.out.bk; have k6 := M6.out.bk; rw [l3] at k5 ⊢; rw [l6] at k6 ⊢; exact hyes.out bl hb8.out _ _ _ _ _ _ k5 k6 rfl (by omega)); have a0 := AX6.out.cell 0; have a1 := AX6.out.cell 1; have a8 := AX6.out.cell 8; have a9 := AX6.out.cell 9; have b0 := BX6.out.cell 0; have b1 := BX6.out.cell 1; have b8 := BX6.out.cell 8; have b9 := BX6.out.cell 9; have d3 := D6.out.cell 3; have e3 := C6.out.cell 3; have al := AX6.out.lt; have bl6 := BX6.out.lt; have dl6 := D6.out.lt; have cl6 := C6.out.lt; simp only [List.getElem?_toArray, List.getElem?_cons_zero, List.getElem?_cons_succ] at a0 a1 a8 a9 b0 b1 b8 b9 d3 e3; clear q3 b3 o3))
        | (with_reducible refine st_mach Gb X6.out rfl rfl _ _ rfl rfl rfl rfl ?_)
        | (go_at_call 16; go_must ((with_reducible refine SB.out.mono ?_); rintro e w7 ⟨rfl, hb7⟩; have B7 := Lib.hid (bnext B6.out hb7); have C7 := Lib.hid (C6.out.below hb7); have D7 := Lib.hid (D6.out.below hb7); have AX7 := Lib.hid (AX6.out.below hb7); have BX7 := Lib.hid (BX6.out.below hb7); have M57 := Lib.hid (M5'.out.below hb7); have M67 := Lib.hid (M6.out.below hb7); clear a0 a1 a8 a9 b0 b1 b8 b9 d3 e3; have a1 := AX7.out.cell 1; have b1 := BX7.out.cell 1; have d3 := D7.out.cell 3; have e3 := C7.out.cell 3; have al7 := AX7.out.lt; have bl7 := BX7.out.lt; have dl7 := D7.out.lt; have cl7 := C7.out.lt; simp only [List.getElem?_toArray, List.getElem?_cons_zero, List.getElem?_cons_succ] at a1 b1 d3 e3; clear hb7)))
      go_roundw
      case rel =>
        refine ⟨k + 1, _, _, _, _, _, _, by omega, by go_num, rfl, rfl, B7, Lib.hid ?_, Lib.hid ?_, C7, D7⟩
        · rw [← HRA.out]
          exact ⟨sA5, sn5, sc5, oA5, on5, oc5, AX7.out, M57.out, O5a.out, O5b.out⟩
        · rw [HRB.out]
          exact ⟨sA6, sn6, sc6, oA6, on6, oc6, BX7.out, M67.out, O6b.out, O6a.out⟩
      case measure => simp [intOf]; omega
    · obtain rfl : k = N := by omega
      clear hlt AX BX BM BP ax bx am bm ao ap bo bp HA1 HA2
      go_wp2_with (go_at_call 10; go_must ((with_reducible refine (aw.out _).mono ?_); rintro e w9 ⟨rfl, hb9⟩; have B9 := Lib.hid (bnext HB.out hb9)))
      go_ret
      exact ⟨rfl, B9.out⟩

theorem machineFuel_walk (h8 : ∀ b ∈ own, b.length = 8) (hmo : 0 ≤ more ∧ more ≤ 255) (w : World) (h : CmRaw w c ra nr rc wa nw wc aa na ac ca nc cc) (hO : Sl w 8 bA bn bc (blksW own)) (hbn : own.length = bn) :
    Calls Try.prog 5 #[cmV ra nr rc wa nw wc aa na ac c.fuel ca nc cc, .slice bA bn bc, .int .u8 more] w fun e w' => e = .returned (.bool true) ∧ Below w.heap.size w w' := by
  by_cases hm : MayBe c ∧ bn = nr + nw
  · exact machineFuel_yes c ra nr rc wa nw wc aa na ac ca nc cc own bA bn bc more hm.1 (by rw [h.lr, h.lw, hbn]; exact hm.2) h8 hmo w h hO hm.2
  · exact machineFuel_no c ra nr rc wa nw wc aa na ac ca nc cc bA bn bc more w h hm

end
end Go.Proofs.Ytehaknnoplcbcaa
