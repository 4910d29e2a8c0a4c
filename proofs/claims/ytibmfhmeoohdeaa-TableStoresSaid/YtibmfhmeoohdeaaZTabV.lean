/-
  TableStores, walked: true of any blocks, any command and any own blocks, in whatever memory.
-/
import Derived.Test.YtibmfhmeoohdeaaZTabW
import Derived.Test.YtibmfhmeoohdeaaQTabA
namespace Go.Proofs.Ytibmfhmeoohdeaa
open Go.RowKit

section
variable (c : Cmd) (ra : Option Addr) (nr rc : Nat) (wa : Option Addr) (nw wc : Nat) (aa : Option Addr) (na ac : Nat) (ca : Option Addr) (nc cc : Nat)
variable (l : List Ent) (lA : Option Addr) (ln lc : Nat) (own : Blks) (bA : Option Addr) (bn bc : Nat)

set_option maxHeartbeats 16000000 in
set_option maxRecDepth 100000 in
theorem tableStores_no (w : World) (h : CmRaw w c ra nr rc wa nw wc aa na ac ca nc cc) (hno : ¬ (ln ≤ 64 ∧ MayBe c ∧ fitsT c ln)) :
    Calls Try.prog 6 #[.slice lA ln lc, cmV ra nr rc wa nw wc aa na ac c.fuel ca nc cc, .slice bA bn bc] w fun e w' => e = .returned (.bool true) ∧ Below w.heap.size w w' := by
  have hrt := Lib.hid (fun W (hW : Below w.heap.size w W) => right_any c ra nr rc wa nw wc aa na ac ca nc cc lA ln lc W (h.below hW) false ⟨(fun q => by cases q), fun q => absurd q hno⟩)
  have B0 := Lib.hid (below_alloc1 w (CmObj ra nr rc wa nw wc aa na ac c.fuel ca nc cc))
  have aw := Lib.hid (fun W => awake12 W)
  clear h hno
  generalize c.fuel = fuel at *
  go_enter Try.func6, Try.ntmps6
  go_wp2_with (first
    | (go_at_call 7; go_must ((with_reducible refine (hrt.out _ B0.out).mono ?_); rintro e w1 ⟨rfl, hb1⟩; have B1 := Lib.hid (bnext B0.out hb1); clear hb1))
    | (go_at_call 8; go_must ((with_reducible refine (aw.out _).mono ?_); rintro e w2 ⟨rfl, hb2⟩; have B2 := Lib.hid (bnext B1.out hb2))))
  go_ret
  exact ⟨rfl, B2.out⟩

set_option maxHeartbeats 16000000 in
set_option maxRecDepth 100000 in
theorem tableStores_few (hm : MayBe c) (hf : fitsT c ln) (hlz : ln ≤ 64) (m : Nat) (hmm : nr + nw = m) (hfew : bn < m) (w : World) (h : CmRaw w c ra nr rc wa nw wc aa na ac ca nc cc) :
    Calls Try.prog 6 #[.slice lA ln lc, cmV ra nr rc wa nw wc aa na ac c.fuel ca nc cc, .slice bA bn bc] w fun e w' => e = .returned (.bool true) ∧ Below w.heap.size w w' := by
  have hrt := Lib.hid (fun W (hW : Below w.heap.size w W) => right_any c ra nr rc wa nw wc aa na ac ca nc cc lA ln lc W (h.below hW) true ⟨fun _ => ⟨hlz, hm, hf⟩, fun _ => rfl⟩)
  have B0 := Lib.hid (below_alloc1 w (CmObj ra nr rc wa nw wc aa na ac c.fuel ca nc cc))
  have C_0 : Hid (Bk (w.alloc (CmObj ra nr rc wa nw wc aa na ac c.fuel ca nc cc)) w.heap.size 26 #[.slice ra nr rc, .slice wa nw wc, .slice aa na ac, .int .i64 c.fuel, .slice ca nc cc]) := Lib.hid (Bk.new w _ _)
  have aw := Lib.hid (fun W => awake12 W)
  have hbr := (h.maybe hm).br
  have hbw := (h.maybe hm).bw
  have hwr : IntKind.i64.wrap ((nr : Int) + (nw : Int)) = (m : Int) := by rw [← hmm, IntWalk.i64_in _ (by omega)]; omega
  clear h hm hf hmm
  generalize c.fuel = fuel at *
  go_enter Try.func6, Try.ntmps6
  go_wp2_with (first
    | (go_at_call 7; go_must ((with_reducible refine (hrt.out _ B0.out).mono ?_); rintro e w1 ⟨rfl, hb1⟩; have B1 := Lib.hid (bnext B0.out hb1); obtain ⟨z0, z1, z2, z3, z4, zf⟩ := (C_0.out.below hb1).cmd; have zl := (C_0.out.below hb1).lt; clear hb1))
    | (go_at_call 8; go_must ((with_reducible refine (aw.out _).mono ?_); rintro e w2 ⟨rfl, hb2⟩; have B2 := Lib.hid (bnext B1.out hb2))))
  go_ret
  exact ⟨rfl, B2.out⟩

set_option maxHeartbeats 16000000 in
set_option maxRecDepth 100000 in
theorem tableStores_yes (hm : MayBe c) (h8 : Eight l) (hf : fitsT c l.length) (hln : l.length = ln) (hlz : ln ≤ 64) (h8o : ∀ b ∈ own, b.length = 8) (hbn : own.length = bn) (m : Nat) (hmm : nr + nw = m) (hmany : m ≤ bn) (w : World) (h : CmRaw w c ra nr rc wa nw wc aa na ac ca nc cc) (hL : Ents w lA lc l) (hO : Sl w 8 bA bn bc (blksW own)) :
    Calls Try.prog 6 #[.slice lA ln lc, cmV ra nr rc wa nw wc aa na ac c.fuel ca nc cc, .slice bA bn bc] w fun e w' => e = .returned (.bool true) ∧ Below w.heap.size w w' := by
  have hC := h.maybe hm
  have hs := hm.sets
  have hlr := hC.lr
  have hlw := hC.lw
  have hbr := hC.br
  have hbw := hC.bw
  have hbc : m ≤ bc := Nat.le_trans hmany hO.2.1
  obtain ⟨iB, hib, hb0, hbs, hbb⟩ := infoBlkZ
  have hrt := Lib.hid (fun W (hW : Below w.heap.size w W) => right_any c ra nr rc wa nw wc aa na ac ca nc cc lA ln lc W (h.below hW) true ⟨fun _ => ⟨hlz, hm, by rw [← hln]; exact hf⟩, fun _ => rfl⟩)
  have hO' := hO.take hmany
  rw [blksW_take own h8o m (by omega)] at hO'
  have hol : (own.take m).length = m := by rw [List.length_take]; omega
  have h8t : ∀ b ∈ own.take m, b.length = 8 := fun b hb => h8o b (List.mem_of_mem_take hb)
  obtain ⟨ow, how⟩ : ∃ ow, ow = own.take m := ⟨_, rfl⟩
  rw [← how] at hO' hol h8t
  obtain ⟨lS, hlS⟩ : ∃ lS, lS = storeT l c ow 7 := ⟨_, rfl⟩
  have h8S : Eight lS := by rw [hlS]; exact store_eight h8 h8t (by omega)
  have hlnS : lS.length = ln := by rw [hlS, store_length, hln]
  have h8L : ∀ b ∈ loadT l c, b.length = 8 := load_eight h8
  have h8I : ∀ b ∈ loadT lS c, b.length = 8 := load_eight h8S
  have lnL : (loadT l c).length = m := by rw [load_length]; omega
  have lnI : (loadT lS c).length = m := by rw [load_length]; omega
  have same1 : Hid (∀ i, i < nr → (loadT lS c)[i]?.getD [] = (loadT l c)[i]?.getD []) := Lib.hid (fun i hi => by
    rw [hlS, load_store hs hf (by omega) (by omega), if_pos (by omega)])
  have same2 : Hid (∀ i, i < m → ¬ i < nr → (loadT lS c)[i]?.getD [] = ow[i]?.getD []) := Lib.hid (fun i hi hn => by
    rw [hlS, load_store hs hf (by omega) (by omega), if_neg (by omega)])
  have hld1 : Hid (∀ W, Below w.heap.size w W → Calls Try.prog 11 #[.slice lA ln lc, cmV ra nr rc wa nw wc aa na ac c.fuel ca nc cc] W (LoadPost l c m W)) := Lib.hid (fun W hW => by
    rw [← hmm]
    exact load_any ra nr rc wa nw wc aa na ac ca nc cc c l lA ln lc W (hC.below hW) (hL.below hW) h8 hs hf hln)
  have hst : Hid (∀ W, Below w.heap.size w W → Calls Try.prog 16 #[.slice lA ln lc, cmV ra nr rc wa nw wc aa na ac c.fuel ca nc cc, .slice bA m bc, .int .i64 7] W (StorePost lS ln W)) := Lib.hid (fun W hW => by
    rw [hlS]
    exact store_any ra nr rc wa nw wc aa na ac ca nc cc c l lA ln lc ow bA m bc 7 W (hC.below hW) (hL.below hW) h8 hs hf hln (hO'.below hW) hol h8t (by omega) (by omega) (by omega))
  have hld2 : Hid (∀ W A k, Below w.heap.size w W → Sl W 9 A ln k (entsW lS) → Calls Try.prog 11 #[.slice A ln k, cmV ra nr rc wa nw wc aa na ac c.fuel ca nc cc] W (LoadPost lS c m W)) := Lib.hid (fun W A k hW hS => by
    rw [← hmm]
    exact load_any ra nr rc wa nw wc aa na ac ca nc cc c lS A ln k W (hC.below hW) (by unfold Ents; rw [hlnS]; exact hS) h8S hs (by rw [hlnS, ← hln]; exact hf) hlnS)
  have HO : Hid (Blocks w bA bc ow) := Lib.hid (by unfold Blocks; rw [hol]; exact hO')
  have H8o := Lib.hid h8t
  have H8L := Lib.hid h8L
  have H8I := Lib.hid h8I
  have LNL := Lib.hid lnL
  have LNI := Lib.hid lnI
  have LNO := Lib.hid hol
  have hwr : IntKind.i64.wrap ((nr : Int) + (nw : Int)) = (m : Int) := by rw [← hmm, IntWalk.i64_in _ (by omega)]; omega
  have hlt : ¬ bn < m := by omega
  have hmz : m ≤ 2000 := by omega
  have B_0 := Lib.hid (below_alloc1 w (CmObj ra nr rc wa nw wc aa na ac c.fuel ca nc cc))
  have C_0 : Hid (Bk (w.alloc (CmObj ra nr rc wa nw wc aa na ac c.fuel ca nc cc)) w.heap.size 26 #[.slice ra nr rc, .slice wa nw wc, .slice aa na ac, .int .i64 c.fuel, .slice ca nc cc]) := Lib.hid (Bk.new w _ _)
  have aw := Lib.hid (fun W => awake12 W)
  have HMN := Lib.hid hmm
  clear h hC hs hm h8 hf hln hL hO hO' hlw hlr hlS how h8S hlnS h8L h8I lnL lnI hol h8t h8o hbn hmm hb0 hbs hbb hmany
  generalize c.fuel = fuel at *
  have nA : True := trivial
  go_enter Try.func6, Try.ntmps6
  go_wp2_with (first
    | (go_at_call 7; go_must ((with_reducible refine (hrt.out _ B_0.out).mono ?_); rintro e w1 ⟨rfl, hb⟩; have B_1 := Lib.hid (bnext B_0.out hb); have C_1 := Lib.hid (C_0.out.below hb); obtain ⟨z0, z1, z2, z3, z4, zf⟩ := C_1.out.cmd; have zl := C_1.out.lt; clear hb))
    | (refine wpList_slice_to _ _ 34 43 iB Try.underlying34 hib bA bn bc m hbc rfl rfl rfl rfl ?_)
    | (go_at_call 11; clear nA; go_must ((with_reducible refine (hld1.out _ B_1.out).mono ?_); rintro e w2 ⟨A2, k2, rfl, ho, hb⟩; have B_2 := Lib.hid (bnext B_1.out hb); have C_2 := Lib.hid (C_1.out.below hb); have L_2 := Lib.hid (Sl.own' ho); clear z0 z1 z2 z3 z4 zf zl; obtain ⟨z0, z1, z2, z3, z4, zf⟩ := C_2.out.cmd; have zl := C_2.out.lt; clear hb ho))
    | (go_at_call 16; go_must ((with_reducible refine (hst.out _ B_2.out).mono ?_); rintro e w3 ⟨A3, k3, rfl, ho, hb⟩; have B_3 := Lib.hid (bnext B_2.out hb); have C_3 := Lib.hid (C_2.out.below hb); have L_3 := Lib.hid (L_2.out.below hb); have S_3 := Lib.hid (Sl.own' ho); clear z0 z1 z2 z3 z4 zf zl; obtain ⟨z0, z1, z2, z3, z4, zf⟩ := C_3.out.cmd; have zl := C_3.out.lt; clear hb ho))
    | (go_at_call 11; go_must ((with_reducible refine (hld2.out _ _ _ B_3.out S_3.out).mono ?_); rintro e w4 ⟨A4, k4, rfl, ho, hb⟩; have B_4 := Lib.hid (bnext B_3.out hb); have C_4 := Lib.hid (C_3.out.below hb); have L_4 := Lib.hid (L_3.out.below hb); have I_4 := Lib.hid (Sl.own' ho); clear z0 z1 z2 z3 z4 zf zl; clear hb ho)))
  have IB : Hid (Blocks w4 A4 k4 (loadT lS c)) := Lib.hid (by have := I_4.out; unfold Blocks; rw [LNI.out]; exact this)
  have LB : Hid (Blocks w4 A2 k2 (loadT l c)) := Lib.hid (by have := L_4.out; unfold Blocks; rw [LNL.out]; exact this)
  have OB : Hid (Blocks w4 bA bc ow) := Lib.hid (HO.out.below B_4.out)
  have dk2 : m ≤ k2 := L_4.out.2.1
  have dk4 : m ≤ k4 := I_4.out.2.1
  clear hrt hld1 hld2 hst HO B_0 B_1 B_2 B_3 C_0 C_1 C_2 C_3 L_2 L_3 S_3 L_4 I_4
  go_loopw [10] (fun cc wr => ∃ i : Nat, i ≤ m ∧ cc = .int .i64 i ∧ Hid (Below w4.heap.size w4 wr)) (fun cc _ => m - (intOf cc).toNat)
  case atStart => exact ⟨0, Nat.zero_le _, rfl, Lib.hid (Below.refl _ _)⟩
  case round =>
    obtain ⟨i, hi, rfl, HB⟩ := hrel
    have BB := Lib.hid (bnext B_4.out HB.out)
    have CB := Lib.hid (C_4.out.below HB.out)
    by_cases hil : i < m
    · have d1 : (i : Int) < (m : Int) := by omega
      have d2 : (i : Int) < (k2 : Int) := by omega
      have d4 : (i : Int) < (k4 : Int) := by omega
      have d5 : (i : Int) < (bc : Int) := by omega
      obtain ⟨gI, oI, rfl, hlI⟩ := IB.out.load H8I.out (i := i) (by rw [LNI.out]; exact hil)
      have NE : Hid (∀ x : List Int, (loadT lS c)[i]?.getD [] = x → ∀ W, (binOp .neq 43 (.agg (bkC ((loadT lS c)[i]?.getD []))) (.agg (bkC x))).run Try.prog W = .ok (.bool false) W) := Lib.hid (fun x he W => by
        rw [← he]
        exact neq_blk_same W (by rw [List.getElem?_eq_getElem (by rw [LNI.out]; exact hil)]; exact H8I.out _ (List.getElem_mem _)))
      have LI : Hid (∀ w', (∃ n, w' = wr.drewN n) → (loadVar 43 ⟨gI, oI + i * 8, none⟩).run Try.prog w' = .ok (.agg (bkC ((loadT lS c)[i]?.getD []))) w') := Lib.hid (by
        rintro _ ⟨q, rfl⟩
        exact hlI _ (bnext HB.out (drewN_below _ _)))
      obtain ⟨z0, z1, z2, z3, z4, zf⟩ := CB.out.cmd
      have zl := CB.out.lt
      clear hlI
      by_cases hir : i < nr
      · obtain ⟨gL, oL, rfl, hlL⟩ := LB.out.load H8L.out (i := i) (by rw [LNL.out]; exact hil)
        have LL : Hid (∀ w', (∃ n, w' = wr.drewN n) → (loadVar 43 ⟨gL, oL + i * 8, none⟩).run Try.prog w' = .ok (.agg (bkC ((loadT l c)[i]?.getD []))) w') := Lib.hid (by
          rintro _ ⟨q, rfl⟩
          exact hlL _ (bnext HB.out (drewN_below _ _)))
        have NE2 := Lib.hid (NE.out _ (same1.out i hir))
        have e1 : decide ((i : Int) < (nr : Int)) = true := decide_eq_true (by omega)
        have e2 : decide ((nr : Int) ≤ (i : Int)) = false := decide_eq_false (by omega)
        have e3 : decide (i < nr) = true := decide_eq_true hir
        have e4 : decide (nr ≤ i) = false := decide_eq_false (by omega)
        clear hlL NE same1 same2 hir
        generalize bkC ((loadT lS c)[i]?.getD []) = cs at *
        generalize bkC ((loadT l c)[i]?.getD []) = cs' at *
        go_wp2
        try simp only [List.append_eq, List.cons_append, List.nil_append]
        refine wp_region_quiet_lit (by kernel_rfl) (by kernel_rfl) ?_
        repeat (first
          | (go_big_quiet_want; (first | refine quiet_load_at _ gI (oI + i * 8) LI.out _ rfl rfl ?_ | refine quiet_load_at _ gL (oL + i * 8) LL.out _ rfl rfl ?_ | refine quiet_neq_blk false NE2.out _ _ _ rfl rfl rfl ?_); go_simp; go_big_quiet_on)
          | go_big_quiet_step (fail))
        refine wpQuiet_nil ?_
        rintro _ ⟨nq, rfl⟩
        go_wp2
        go_roundw
        case rel => exact ⟨i + 1, by omega, by go_num, Lib.hid (bnext HB.out (drewN_below _ _))⟩
        case measure => simp [intOf]; omega
      · obtain ⟨gO, oO, rfl, hlO⟩ := OB.out.load H8o.out (i := i) (by rw [LNO.out]; exact hil)
        have LO : Hid (∀ w', (∃ n, w' = wr.drewN n) → (loadVar 43 ⟨gO, oO + i * 8, none⟩).run Try.prog w' = .ok (.agg (bkC (ow[i]?.getD []))) w') := Lib.hid (by
          rintro _ ⟨q, rfl⟩
          exact hlO _ (bnext HB.out (drewN_below _ _)))
        have NE2 := Lib.hid (NE.out _ (same2.out i hil hir))
        have e1 : decide ((i : Int) < (nr : Int)) = false := decide_eq_false (by omega)
        have e2 : decide ((nr : Int) ≤ (i : Int)) = true := decide_eq_true (by omega)
        have e3 : decide (i < nr) = false := decide_eq_false hir
        have e4 : decide (nr ≤ i) = true := decide_eq_true (by omega)
        clear hlO NE same1 same2 hir
        generalize bkC ((loadT lS c)[i]?.getD []) = cs at *
        generalize bkC (ow[i]?.getD []) = cs' at *
        go_wp2
        try simp only [List.append_eq, List.cons_append, List.nil_append]
        refine wp_region_quiet_lit (by kernel_rfl) (by kernel_rfl) ?_
        repeat (first
          | (go_big_quiet_want; (first | refine quiet_load_at _ gI (oI + i * 8) LI.out _ rfl rfl ?_ | refine quiet_load_at _ gO (oO + i * 8) LO.out _ rfl rfl ?_ | refine quiet_neq_blk false NE2.out _ _ _ rfl rfl rfl ?_); go_simp; go_big_quiet_on)
          | go_big_quiet_step (fail))
        refine wpQuiet_nil ?_
        rintro _ ⟨nq, rfl⟩
        go_wp2
        go_roundw
        case rel => exact ⟨i + 1, by omega, by go_num, Lib.hid (bnext HB.out (drewN_below _ _))⟩
        case measure => simp [intOf]; omega
    · obtain rfl : i = m := by omega
      clear hil
      go_wp2_with (go_at_call 8; go_must ((with_reducible refine (aw.out _).mono ?_); rintro e w9 ⟨rfl, hb9⟩; have B9 := Lib.hid (bnext BB.out hb9); clear hb9))
      go_ret
      exact ⟨rfl, B9.out⟩

theorem tableStores_walk (h8 : Eight l) (h8o : ∀ b ∈ own, b.length = 8) (w : World) (h : CmRaw w c ra nr rc wa nw wc aa na ac ca nc cc) (hL : Ents w lA lc l) (hln : l.length = ln) (hO : Sl w 8 bA bn bc (blksW own)) (hbn : own.length = bn) :
    Calls Try.prog 6 #[.slice lA ln lc, cmV ra nr rc wa nw wc aa na ac c.fuel ca nc cc, .slice bA bn bc] w fun e w' => e = .returned (.bool true) ∧ Below w.heap.size w w' := by
  by_cases hy : ln ≤ 64 ∧ MayBe c ∧ fitsT c ln
  · by_cases hb : bn < nr + nw
    · exact tableStores_few c ra nr rc wa nw wc aa na ac ca nc cc lA ln lc bA bn bc hy.2.1 hy.2.2 hy.1 (nr + nw) rfl hb w h
    · exact tableStores_yes c ra nr rc wa nw wc aa na ac ca nc cc l lA ln lc own bA bn bc hy.2.1 h8 (by rw [hln]; exact hy.2.2) hln hy.1 h8o hbn (nr + nw) rfl (by omega) w h hL hO
  · exact tableStores_no c ra nr rc wa nw wc aa na ac ca nc cc lA ln lc bA bn bc w h hy

end
end Go.Proofs.Ytibmfhmeoohdeaa
