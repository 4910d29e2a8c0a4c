/-
  PoolReady, walked: true of any commands and any workers, in whatever memory.
-/
import Derived.Test.YtldljohholgmoaaZPooG
namespace Go.Proofs.Ytldljohholgmoaa
open Go Go.RowKit
attribute [local go_sem] look findAt
attribute [local simp] depsOf isV Region.binds

section
variable (l : List CmL) (A : Option Addr) (n c : Nat) (ws : List Int) (wA : Option Addr) (wn wc : Nat)

abbrev fR : Nat → Int := fun j => (j : Int) + 1

set_option maxHeartbeats 4000000 in
theorem poolReady_no (hz : n ≤ 9223372036854775807) (w : World) (h : Cmds w A c l) (hN : l.length = n) (hr : ¬ RightC l) :
    Calls Try.prog 5 #[.slice A n c, .slice wA wn wc] w fun e w' => e = .returned (.bool true) ∧ Below w.heap.size w w' := by
  have aw := Lib.hid (fun W => awake16 W)
  have hri := Lib.hid (right16_no l A n c w h hN hz hr)
  clear h hN hr
  go_enter Try.func5, Try.ntmps5
  go_wp2_with (first
    | (go_at_call 6; go_must ((with_reducible refine hri.out.mono ?_); rintro e w1 ⟨rfl, hb1⟩; have B1 := Lib.hid hb1; clear hb1))
    | (go_at_call 7; go_must ((with_reducible refine (aw.out _).mono ?_); rintro e w2 ⟨rfl, hb2⟩; have B2 := Lib.hid (bnext B1.out hb2); clear hb2)))
  go_ret
  exact ⟨rfl, B2.out⟩

set_option maxHeartbeats 4000000 in
theorem poolReady_few (w : World) (h : Cmds w A c l) (hN : l.length = n) (hr : RightC l) (hw : wn < n) :
    Calls Try.prog 5 #[.slice A n c, .slice wA wn wc] w fun e w' => e = .returned (.bool true) ∧ Below w.heap.size w w' := by
  have aw := Lib.hid (fun W => awake16 W)
  have hri := Lib.hid (right16_yes l A n c w h hN hr)
  have d1 : (wn : Int) < (n : Int) := by omega
  clear h hN hr
  go_enter Try.func5, Try.ntmps5
  go_wp2_with (first
    | (go_at_call 6; go_must ((with_reducible refine hri.out.mono ?_); rintro e w1 ⟨rfl, hb1⟩; have B1 := Lib.hid hb1; clear hb1))
    | (go_at_call 7; go_must ((with_reducible refine (aw.out _).mono ?_); rintro e w2 ⟨rfl, hb2⟩; have B2 := Lib.hid (bnext B1.out hb2); clear hb2)))
  go_ret
  exact ⟨rfl, B2.out⟩

set_option maxHeartbeats 16000000 in
set_option maxRecDepth 100000 in
theorem poolReady_main (w : World) (h : Cmds w A c l) (hN : l.length = n) (hr : RightC l) (hws : Ints w wA wc ws) (hwn : ws.length = wn) (hnw : n ≤ wn) :
    Calls Try.prog 5 #[.slice A n c, .slice wA wn wc] w fun e w' => e = .returned (.bool true) ∧ Below w.heap.size w w' := by
  have aw := Lib.hid (fun W => awake16 W)
  have hri := Lib.hid (right16_yes l A n c w h hN hr)
  have hne : Hid (∀ W, Calls Try.prog 8 #[.int .i64 6] W (LkPost (lksW [] 6) 6 W)) := Lib.hid (fun W => rnew_who 6 W (by decide) (by decide))
  obtain ⟨i0, hi0, hz0, hz1, hz2⟩ := infoI
  have H := Lib.hid h
  have HN := Lib.hid hN
  have HR := Lib.hid hr
  have HWS := Lib.hid hws
  have HWN := Lib.hid hwn
  have hcap := h.cap
  rw [hN] at hcap
  have hwcap : wn ≤ wc := by have := hws.2.1; omega
  have h30 := hr.2
  rw [hN] at h30
  have dwn : ¬ (wn : Int) < (n : Int) := by omega
  have dwn' : decide ((wn : Int) < (n : Int)) = false := decide_eq_false dwn
  clear h hN hr hws hwn
  go_enter Try.func5, Try.ntmps5
  go_wp2_with (first
    | (go_at_call 6; go_must ((with_reducible refine hri.out.mono ?_); rintro e w1 ⟨rfl, hb1⟩; have B1 := Lib.hid hb1; clear hb1))
    | (go_at_call 8; go_must ((with_reducible refine (hne.out _).mono ?_); rintro e w2 ⟨X0, k0, rfl, hO, hb2⟩; have O0 := Lib.hid (hO.lower (Nat.zero_le _)); have B0 := Lib.hid (bnext B1.out hb2); clear hO hb2)))
  have T0 : Hid (TkNew (newG fR l 0) w.heap.size w2 none 0 0 []) := Lib.hid ⟨TkOwn.nil _ _, rfl, by simp, by simp, fun g off e => by cases e⟩
  go_loopw [5, 6, 7] (fun xs ks cc wr => ∃ (i kx kw : Nat) (X Y : Option Addr) (lx : List TkL), i ≤ n ∧ xs = .slice X i kx ∧ ks = .slice Y 6 kw ∧ cc = .int .i64 i ∧ Hid (TkNew (newG fR l i) w.heap.size wr X i kx lx) ∧ Hid (LkOwn 0 wr Y 6 kw (lksW (whoG fR l i) 6)) ∧ Hid (Below w.heap.size w wr)) (fun _ _ cc _ => n - (intOf cc).toNat)
  case atStart => exact ⟨0, 0, k0, none, X0, [], Nat.zero_le _, rfl, rfl, rfl, T0, O0, B0⟩
  case round =>
    obtain ⟨i, kx, kw, X, Y, lx, hi, rfl, rfl, rfl, HT, HO, HB⟩ := hrel
    by_cases hlt : i < n
    · have d1 : (i : Int) < (n : Int) := by omega
      have d2 : (i : Int) < (c : Int) := by omega
      have dw : IntKind.i64.wrap ((i : Int) + 1) = (i : Int) + 1 := by rw [IntKind.wrap_i64]; omega
      obtain ⟨x, hx⟩ := cml_at (l := l) (i := i) (by rw [HN.out]; exact hlt)
      have hmf := HR.out.at hx
      have hin := H.out.2 x (List.mem_of_getElem? hx)
      have hadd := Lib.hid (padd_is _ lx X i kx wr x ((i : Int) + 1) HT.out.is (by omega) (hin.below HB.out) (hin.few hmf.1))
      rw [← newG_succ fR hx] at hadd
      have hask : Hid (∀ W, Below w.heap.size w W → LkOwn 0 W Y 6 kw (lksW (whoG fR l i) 6) → Calls Try.prog 11 #[.slice Y 6 kw, cmV x.ra x.nr x.rc x.wa x.nw x.wc x.aa x.na x.ac x.c.fuel x.ca x.nc x.cc, .int .i64 ((i : Int) + 1)] W (LoPost (lksW (whoG fR l (i + 1)) 6) 6 W)) := Lib.hid (fun W hW hl => by
        rw [whoG_succ fR hx]
        exact raskO_who x.c x.ra x.nr x.rc x.wa x.nw x.wc x.aa x.na x.ac x.c.fuel x.ca x.nc x.cc Y 6 kw ((i : Int) + 1) (whoG fR l i) W hl (by decide) (by rw [whoG_length]; omega) hmf.1.sets (CmL.lkC (H.out.below hW) HR.out hx))
      obtain ⟨bb, off, rfl, hA⟩ := (H.out.below HB.out).lies hx
      obtain ⟨c0, c1, c2, c3, c4, cl⟩ := hA _ (Below.refl _ _)
      have HA := Lib.hid hA
      clear hx hA hmf hin
      go_wp2_with (first
        | (go_at_call 9; go_must ((with_reducible refine hadd.out.mono ?_); rintro e w3 ⟨X3, k3, l3, rfl, hT3, hb3⟩; have T3 := Lib.hid (hT3.lower (B' := w.heap.size) HB.out.size); have O3 := Lib.hid (HO.out.below hb3); have B3 := Lib.hid (HB.out.trans (hb3.mono HB.out.size)); clear c0 c1 c2 c3 c4 cl; obtain ⟨c0, c1, c2, c3, c4, cl⟩ := HA.out _ hb3; clear hT3 hb3))
        | (go_at_call 11; go_must ((with_reducible refine (hask.out _ B3.out O3.out).mono ?_); rintro e w4 ⟨Y4, k4, rfl, hO4, hb4⟩; have T4 := Lib.hid (T3.out.below hb4); have O4 := Lib.hid hO4; have B4 := Lib.hid (B3.out.trans (hb4.mono B3.out.size)); clear hO4 hb4 c0 c1 c2 c3 c4 cl)))
      go_roundw
      case rel => exact ⟨i + 1, k3, k4, X3, Y4, l3, by omega, rfl, rfl, by go_num, T4, O4, B4⟩
      case measure => simp [intOf]; omega
    · obtain rfl : n = i := by omega
      clear hlt
      have TW : Hid (TkNew (newW fR l ws 0 n) w.heap.size wr X n kx lx) := Lib.hid (by rw [newW_zero]; exact HT.out)
      obtain ⟨G, hG⟩ : ∃ G, G = wr.heap.size := ⟨_, rfl⟩
      have hwG : w.heap.size ≤ G := by rw [hG]; exact HB.out.size
      have UN : Hid (TkUnder G lx) := Lib.hid (by rw [hG]; exact HT.out.under)
      have hGs : G ≤ wr.heap.size := Nat.le_of_eq hG
      have OW0 : Hid (OwnI G wr none 0 0 (wantG (lksW (whoG fR l n) 6) fR l ws 0)) := Lib.hid ⟨rfl, rfl, .inl ⟨rfl, rfl⟩⟩
      obtain ⟨LL, hLL⟩ : ∃ LL, LL = lksW (whoG fR l n) 6 := ⟨_, rfl⟩
      have HLL := Lib.hid hLL
      rw [← hLL] at HO OW0
      clear hLL HT hG
      go_wp2
      go_loopw [8, 9, 10] (fun os fs cc wr => ∃ (i m k : Nat) (Z : Option Addr) (lx : List TkL), i ≤ n ∧ m ≤ i ∧ os = .slice Z m k ∧ fs = .int .i64 (fuG l i) ∧ cc = .int .i64 i ∧ G ≤ wr.heap.size ∧ Hid (OwnI G wr Z m k (wantG LL fR l ws i)) ∧ Hid (TkNew (newW fR l ws i n) w.heap.size wr X n kx lx) ∧ Hid (TkUnder G lx) ∧ Hid (LkOwn 0 wr Y 6 kw LL) ∧ Hid (Below w.heap.size w wr)) (fun _ _ cc _ => n - (intOf cc).toNat)
      case atStart => exact ⟨0, 0, 0, none, lx, Nat.zero_le _, Nat.le_refl _, rfl, rfl, rfl, hGs, OW0, TW, UN, HO, HB⟩
      case round =>
        clear TW OW0 HO HB hi hGs UN lx
        obtain ⟨i, m, k, Z, lx, hi, hmi, rfl, rfl, rfl, hGs, HI, HT, UN, HO, HB⟩ := hrel
        by_cases hlt : i < n
        · have d1 : (i : Int) < (n : Int) := by omega
          have d2 : (i : Int) < (c : Int) := by omega
          have d3 : (i : Int) < (wn : Int) := by omega
          have d4 : (i : Int) < (wc : Int) := by omega
          have dw : IntKind.i64.wrap ((i : Int) + 1) = (i : Int) + 1 := by rw [IntKind.wrap_i64]; omega
          obtain ⟨x, hx⟩ := cml_at (l := l) (i := i) (by rw [HN.out]; exact hlt)
          obtain ⟨t, ht⟩ := tk_at (l := lx) (i := i) (by rw [HT.out.own.1]; exact hlt)
          obtain ⟨g, cs, rfl, hg, hk, hsz⟩ := HT.out.pos (by omega)
          have hxc := HT.out.own.cap
          have d5 : (i : Int) < (kx : Int) := by omega
          obtain ⟨bw, ow, rfl, hbw, y0⟩ := (HWS.out.below HB.out).cellAt (j := i) (by rw [HWN.out]; omega)
          have hts : t.tsk = { newP (fR i) (cmdAt l i) with worker := -1 } := by
            have h1 := HT.out.says.at ht
            rw [newW_at fR l ws i hlt, if_neg (Nat.lt_irrefl _)] at h1
            injection h1 with h1
            exact h1.symm
          obtain ⟨g2, o2, e3, hat, -⟩ := HT.out.own.sl.at ht
          injection e3 with e3
          injection e3 with e3 e4
          subst e3
          subst e4
          have z17 := hat.wk
          rw [Nat.zero_add] at z17
          clear hat
          have hgl := hk.lt
          have hfz := hk.frozen (i * 18 + 17)
          obtain ⟨wv, hwv⟩ : ∃ wv, wv = wkAt ws i := ⟨_, rfl⟩
          have e0 : ws[i]?.getD 0 = wv := hwv.symm
          rw [e0] at y0
          have hT2 := HT.out.setWk ht wv
          rw [hts, hwv] at hT2
          have hT3 : TkNew (newW fR l ws (i + 1) n) w.heap.size (wr.setCell ⟨g, i * 18 + 17, none⟩ (.int .i64 wv)) (some ⟨g, 0, none⟩) n kx (lx.set i { t with wk := wv }) := by
            rw [← newW_set fR l ws hlt, hwv]
            exact hT2
          obtain ⟨bb, off, rfl, hA⟩ := H.out.lies hx
          have hbl := (hA w (Below.refl _ _)).2.2.2.2.2
          have hbg : bb ≠ g := by omega
          have hwg : bw ≠ g := by
            obtain ⟨b2, o2, e2, h2, -⟩ := HWS.out.cellAt (j := i) (by rw [HWN.out]; omega)
            injection e2 with e2
            injection e2 with e2
            omega
          obtain ⟨c0, c1, c2, c3, c4, cl⟩ := hA wr HB.out
          have hgr := grown_set1 wr g (i * 18 + 17) (.int .i64 wv)
          have BW := HB.out.setCell (p := ⟨g, i * 18 + 17, none⟩) hg (.int .i64 wv)
          obtain ⟨a0, a1, a2, a3, a4, al⟩ := hA _ BW
          have y1 : (wr.setCell ⟨g, i * 18 + 17, none⟩ (.int .i64 wv)).cell? ⟨bw, ow + i, none⟩ = some (.int .i64 wv) := by
            obtain ⟨b2, o2, e2, -, h3⟩ := (HWS.out.below BW).cellAt (j := i) (by rw [HWN.out]; omega)
            injection e2 with e2
            injection e2 with e2 e3
            subst e2
            subst e3
            rw [e0] at h3
            exact h3
          have OW := HO.out.turns hgr hk (by decide) (by decide)
          have IW : OwnI G (wr.setCell ⟨g, i * 18 + 17, none⟩ (.int .i64 wv)) Z m k (wantG LL fR l ws i) := ⟨HI.out.1, own_turns HI.out.2 hgr hk (by decide)⟩
          have UN2 := Lib.hid (UN.out.setWk ht wv)
          have hGs2 : G ≤ (wr.setCell ⟨g, i * 18 + 17, none⟩ (.int .i64 wv)).heap.size := Nat.le_trans hGs hgr.size
          have hmf := HR.out.at hx
          have hrr := rready_who x.c x.ra x.nr x.rc x.wa x.nw x.wc x.aa x.na x.ac x.c.fuel x.ca x.nc x.cc (whoG fR l n) Y 6 kw ((i : Int) + 1) (wr.setCell ⟨g, i * 18 + 17, none⟩ (.int .i64 wv)) (by rw [← HLL.out]; exact OW.sl) (by rw [whoG_length]; omega) (CmL.lkC (H.out.below BW) HR.out hx)
          rw [← HLL.out] at hrr
          have hws := wantG_succ LL fR l ws i
          rw [← hwv, cmdAt_is hx] at hws
          have hfu := fuG_succ l hx
          have hf1 := fuG_le HR.out (i := i) (by rw [HN.out]; omega)
          have hf2 := hmf.1.few.2.2.2.2
          have e1 : wrap64 (fuG l i + x.c.fuel) = fuG l (i + 1) := by rw [hfu]; unfold wrap64; omega
          obtain ⟨f1, hf⟩ : ∃ f1, f1 = fuG l (i + 1) := ⟨_, rfl⟩
          rw [← hf] at e1
          obtain ⟨f0, hf0⟩ : ∃ f0, f0 = fuG l i := ⟨_, rfl⟩
          rw [← hf0] at e1 ⊢
          have HRR := Lib.hid hrr
          have HWSu := Lib.hid hws
          have BW := Lib.hid BW
          have OW := Lib.hid OW
          have IW := Lib.hid IW
          have HT3 := Lib.hid hT3
          have HF := Lib.hid hf
          clear hx ht hk hA hgr hmf hrr hws hfu hf1 hf2 hf hf0 hts hwv e0 hT2 hT3
          generalize readyL LL x.c ((i : Int) + 1) = r at *
          by_cases hneg : wv < 0
          · have e2 : decide (wv < 0) = true := decide_eq_true hneg
            rw [e2, Bool.true_and] at HWSu
            cases r with
            | false =>
              rw [if_neg (by decide)] at HWSu
              go_wp2_with (go_at_call 27; go_must ((with_reducible refine HRR.out.mono ?_); rintro e w3 ⟨rfl, hb3⟩; have B3 := Lib.hid (BW.out.trans (hb3.mono BW.out.size)); have T3 := Lib.hid (HT3.out.below hb3); have O3 := Lib.hid (OW.out.below hb3); have I3 : Hid (OwnI G w3 Z m k (wantG LL fR l ws (i + 1))) := Lib.hid (by rw [HWSu.out]; exact IW.out.below hb3); have hG3 := Nat.le_trans hGs2 hb3.size; clear hb3))
              go_roundw
              case rel => exact ⟨i + 1, m, k, Z, _, by omega, by omega, rfl, (by first | rw [HF.out] | rw [e1, HF.out]), by go_num, hG3, I3, T3, UN2, O3, B3⟩
              case measure => simp [intOf]; omega
            | true =>
              rw [if_pos rfl] at HWSu
              go_wp2_with (first
                | (go_at_call 27; go_must ((with_reducible refine HRR.out.mono ?_); rintro e w3 ⟨rfl, hb3⟩; have BA := below_alloc1 w3 (.cells #[.int .i64 ((i : Int) + 1)] 3); have B3 := Lib.hid (BW.out.trans ((bnext hb3 BA).mono BW.out.size)); have T3 := Lib.hid (HT3.out.below (bnext hb3 BA)); have O3 := Lib.hid (OW.out.below (bnext hb3 BA)); have I3 := Lib.hid (IW.out.below (bnext hb3 BA)); have V3 := Lib.hid (Bk.new w3 3 #[.int .i64 ((i : Int) + 1)]); have Z3 := Nat.le_trans hGs2 (bnext hb3 BA).size; have HLm := Lib.hid IW.out.1; clear hb3 BA))
                | (at_builtin; go_must (refine append_one rfl _ _ _ rfl G 3 i0 _ 8 Try.underlying23 hi0 hz0 hz1 hz2 rfl _ m _ rfl I3.out.2 w3.heap.size (.int .i64 ((i : Int) + 1)) rfl V3.out rfl (by unfold maxLen; omega) (by omega) Z3 ?_; intro v' w4 hown hgr; obtain ⟨Z4, k4, rfl, -⟩ := Sl.own hown; have B4 := Lib.hid (B3.out.grown hgr B3.out.size (fun b hb => Nat.le_trans hwG (own_ge I3.out.2 hb))); have hG4 := Nat.le_trans Z3 hgr.size; have I4 : Hid (OwnI G w4 Z4 (m + 1) k4 (wantG LL fR l ws (i + 1))) := Lib.hid ⟨by rw [HWSu.out, List.length_append, HLm.out]; rfl, by rw [HWSu.out, List.map_append]; exact hown⟩; have T4 := Lib.hid (T3.out.grownU UN2.out hgr I3.out.2 (by decide)); have O4 := Lib.hid (O3.out.grownI hgr I3.out.2 (by decide) (by decide)); clear hown hgr)))
              go_roundw
              case rel => exact ⟨i + 1, m + 1, k4, Z4, _, by omega, by omega, rfl, (by first | rw [HF.out] | rw [e1, HF.out]), by go_num, hG4, I4, T4, UN2, O4, B4⟩
              case measure => simp [intOf]; omega
          · have e2 : decide (wv < 0) = false := decide_eq_false hneg
            rw [e2, Bool.false_and, if_neg (by decide)] at HWSu
            have I3 : Hid (OwnI G (wr.setCell ⟨g, i * 18 + 17, none⟩ (.int .i64 wv)) Z m k (wantG LL fR l ws (i + 1))) := Lib.hid (by rw [HWSu.out]; exact IW.out)
            go_wp2
            go_roundw
            case rel => exact ⟨i + 1, m, k, Z, _, by omega, by omega, rfl, (by first | rw [HF.out] | rw [e1, HF.out]), by go_num, hGs2, I3, HT3, UN2, OW, BW⟩
            case measure => simp [intOf]; omega
        · obtain rfl : n = i := by omega
          have hrd : Hid (∀ W, Below wr.heap.size wr W → Calls Try.prog 22 #[.slice X n kx, .slice Y 6 kw] W (NumsP (wantG LL fR l ws n) W)) := Lib.hid (fun W hW => by
            have := pready_is (newW fR l ws n n) lx X n kx W (whoG fR l n) Y 6 kw (HT.out.is.below hW) (by omega) (newW_good fR HR.out ws n (by rw [HN.out]; exact Nat.le_refl _)) (by rw [← HLL.out]; exact (HO.out.below hW).sl) (by rw [whoG_length]; omega)
            rw [← HLL.out, readiesL_newW] at this
            exact this)
          have hfl : Hid (∀ W, Below wr.heap.size wr W → Calls Try.prog 19 #[.slice X n kx] W fun e w' => e = .returned (.int .i64 (fuG l n)) ∧ Below W.heap.size W w') := Lib.hid (fun W hW => by
            have := pfuel_is (newW fR l ws n n) lx X n kx W (HT.out.is.below hW) (by omega) (newW_fuels fR HR.out ws n (by rw [HN.out]; exact Nat.le_refl _))
            rwa [newW_fuel] at this)
          have hwl := wantG_len LL fR l ws n
          have hIm := HI.out.1
          have hII : Ints wr Z k (wantG LL fR l ws n) := by have := Sl.own' HI.out.2; unfold Ints; rw [hIm]; exact this
          have II := Lib.hid hII
          subst hIm
          generalize wantG LL fR l ws n = wl at *
          generalize fuG l n = fu at *
          clear hlt hII
          go_wp2_with (first
            | (go_at_call 7; go_must ((with_reducible refine (aw.out _).mono ?_); rintro e w5 ⟨rfl, hb⟩; have B5 := Lib.hid hb; clear hb))
            | (go_at_call 22; go_must ((with_reducible refine (hrd.out _ B5.out).mono ?_); rintro e w6 ⟨R6, r6, rfl, hR6, hb⟩; have B6 := Lib.hid (bnext B5.out hb); have hsm := Lib.hid (same_ints wl wl.length rfl R6 r6 Z k w6 hR6 (II.out.below B6.out) (by omega)); clear hb hR6))
            | (go_at_call 21; go_must ((with_reducible refine hsm.out.mono ?_); rintro e w7 ⟨rfl, hb⟩; have B7 := Lib.hid (bnext B6.out hb); clear hb))
            | (go_at_call 19; go_must ((with_reducible refine (hfl.out _ B7.out).mono ?_); rintro e w8 ⟨rfl, hb⟩; have B8 := Lib.hid (HB.out.trans ((bnext B7.out hb).mono HB.out.size)); clear hb)))
          go_ret
          exact ⟨rfl, B8.out⟩

theorem poolReady_walk (hz : n ≤ 9223372036854775807) (w : World) (h : Cmds w A c l) (hN : l.length = n) (hws : Ints w wA wc ws) (hwn : ws.length = wn) :
    Calls Try.prog 5 #[.slice A n c, .slice wA wn wc] w fun e w' => e = .returned (.bool true) ∧ Below w.heap.size w w' := by
  by_cases hr : RightC l
  · by_cases hw : wn < n
    · exact poolReady_few l A n c wA wn wc w h hN hr hw
    · exact poolReady_main l A n c ws wA wn wc w h hN hr hws hwn (by omega)
  · exact poolReady_no l A n c wA wn wc hz w h hN hr

end
end Go.Proofs.Ytldljohholgmoaa
