/-
  TableTouches, walked: true of any blocks, any command and any number, in whatever memory.
-/
import Derived.Test.YtibmfhmeoohdeaaZTabW
import Derived.Test.YtibmfhmeoohdeaaQTabA
namespace Go.Proofs.Ytibmfhmeoohdeaa
open Go.RowKit

section
variable (c : Cmd) (ra : Option Addr) (nr rc : Nat) (wa : Option Addr) (nw wc : Nat) (aa : Option Addr) (na ac : Nat) (ca : Option Addr) (nc cc : Nat)
variable (l : List Ent) (lA : Option Addr) (ln lc : Nat) (seq : Int)

set_option maxHeartbeats 16000000 in
set_option maxRecDepth 100000 in
theorem tableTouches_no (w : World) (h : CmRaw w c ra nr rc wa nw wc aa na ac ca nc cc) (hno : ¬ (ln ≤ 64 ∧ MayBe c ∧ fitsT c ln)) :
    Calls Try.prog 4 #[.slice lA ln lc, cmV ra nr rc wa nw wc aa na ac c.fuel ca nc cc, .int .i64 seq] w fun e w' => e = .returned (.bool true) ∧ Below w.heap.size w w' := by
  have hrt := Lib.hid (fun W (hW : Below w.heap.size w W) => right_any c ra nr rc wa nw wc aa na ac ca nc cc lA ln lc W (h.below hW) false ⟨(fun q => by cases q), fun q => absurd q hno⟩)
  have B0 := Lib.hid (below_alloc1 w (CmObj ra nr rc wa nw wc aa na ac c.fuel ca nc cc))
  have aw := Lib.hid (fun W => awake12 W)
  clear h hno
  generalize c.fuel = fuel at *
  go_enter Try.func4, Try.ntmps4
  go_wp2_with (first
    | (go_at_call 7; go_must ((with_reducible refine (hrt.out _ B0.out).mono ?_); rintro e w1 ⟨rfl, hb1⟩; have B1 := Lib.hid (bnext B0.out hb1); clear hb1))
    | (go_at_call 8; go_must ((with_reducible refine (aw.out _).mono ?_); rintro e w2 ⟨rfl, hb2⟩; have B2 := Lib.hid (bnext B1.out hb2))))
  go_ret
  exact ⟨rfl, B2.out⟩

set_option maxHeartbeats 16000000 in
set_option maxRecDepth 100000 in
theorem tableTouches_yes (hm : MayBe c) (h8 : Eight l) (hf : fitsT c l.length) (hln : l.length = ln) (hlz : ln ≤ 64) (w : World) (h : CmRaw w c ra nr rc wa nw wc aa na ac ca nc cc) (hL : Ents w lA lc l) :
    Calls Try.prog 4 #[.slice lA ln lc, cmV ra nr rc wa nw wc aa na ac c.fuel ca nc cc, .int .i64 seq] w fun e w' => e = .returned (.bool true) ∧ Below w.heap.size w w' := by
  have hC := h.maybe hm
  have hs := hm.sets
  have hrt := Lib.hid (fun W (hW : Below w.heap.size w W) => right_any c ra nr rc wa nw wc aa na ac ca nc cc lA ln lc W (h.below hW) true ⟨fun _ => ⟨hlz, hm, by rw [← hln]; exact hf⟩, fun _ => rfl⟩)
  obtain ⟨n, pc, f, st, regs, ou, to, bl, hE, hR, n1, n2, n3, -, -⟩ := run_ends hm (own := loadT l c) load_length (load_eight h8)
  obtain ⟨l', hl'⟩ : ∃ l', l' = apL l c bl seq (to : Int) := ⟨_, rfl⟩
  have hap : Hid (∀ W, Below w.heap.size w W → Calls Try.prog 9 #[.slice lA ln lc, cmV ra nr rc wa nw wc aa na ac c.fuel ca nc cc, .int .i64 seq] W (ApPost l' ln seq to ou W)) := Lib.hid (fun W hW => by
    rw [hl']
    exact apply_any ra nr rc wa nw wc aa na ac ca nc cc c l lA ln lc seq hm h8 hf hln (by omega) hE n2 hR W (hC.below hW) (hL.below hW))
  have hle : c.reads.length + c.writes.length ≤ bl.length := by rw [hR.many, load_length]; omega
  have h8' : Hid (Eight l') := Lib.hid (by rw [hl']; exact apL_eight h8 hR.cells hle)
  have hln' : Hid (l'.length = ln) := Lib.hid (by rw [hl', apL_length, hln])
  have hlw := hC.lw
  have hbw := hC.bw
  have hy1 : Hid (∀ i : Nat, (∃ j, j < nw ∧ c.writes[j]?.getD 0 = (i : Int)) → (to : Int) = 0 → (l'[i]?.getD entZ).seq = seq) := Lib.hid (fun i ⟨j, hj, e⟩ h0 => by
    rw [hl']
    refine apL_writes hs hf ?_ h0
    rw [← e, List.getElem?_eq_getElem (by omega)]
    exact List.getElem_mem _)
  have hy2 : Hid (∀ i : Nat, ¬ ((∃ j, j < nw ∧ c.writes[j]?.getD 0 = (i : Int)) ∧ (to : Int) = 0) → l'[i]?.getD entZ = l[i]?.getD entZ) := Lib.hid (fun i hn => by
    rw [hl']
    refine apL_other hs fun ⟨hi, h0⟩ => hn ⟨?_, h0⟩
    obtain ⟨j, hj, e⟩ := List.getElem_of_mem hi
    exact ⟨j, by omega, by rw [List.getElem?_eq_getElem hj, Option.getD_some, e]⟩)
  have HW : Hid (Sl w 1 wa nw wc (c.writes.map (.int .i64))) := Lib.hid (by have := hC.writes; unfold Ints at this; rwa [hC.lw] at this)
  have hwc : nw ≤ wc := HW.out.2.1
  have H8 := Lib.hid h8
  have HLN := Lib.hid hln
  have HL := Lib.hid hL
  have hlc : ln ≤ lc := by have := hL.2.1; rw [hln] at this; exact this
  have B_0 := Lib.hid (below_alloc1 w (CmObj ra nr rc wa nw wc aa na ac c.fuel ca nc cc))
  have C_0 : Hid (Bk (w.alloc (CmObj ra nr rc wa nw wc aa na ac c.fuel ca nc cc)) w.heap.size 26 #[.slice ra nr rc, .slice wa nw wc, .slice aa na ac, .int .i64 c.fuel, .slice ca nc cc]) := Lib.hid (Bk.new w _ _)
  have aw := Lib.hid (fun W => awake12 W)
  clear h hC hs hm h8 hf hln hL hE hR hl' n1 n3 hle hlw
  generalize c.fuel = fuel at *
  generalize c.writes = ws at *
  generalize (to : Int) = e0 at *
  go_enter Try.func4, Try.ntmps4
  go_wp2_with (first
    | (go_at_call 7; go_must ((with_reducible refine (hrt.out _ B_0.out).mono ?_); rintro e w1 ⟨rfl, hb⟩; have B_1 := Lib.hid (bnext B_0.out hb); have C_1 := Lib.hid (C_0.out.below hb); obtain ⟨z0, z1, z2, z3, z4, zf⟩ := C_1.out.cmd; have zl := C_1.out.lt; clear hb))
    | (go_at_call 9; go_must ((with_reducible refine (hap.out _ B_1.out).mono ?_); rintro e w2 ⟨A, k, oA, on, oc, rfl, hm2, ho, hb⟩; have B_2 := Lib.hid (bnext B_1.out (bnext hb (varR_below w2 (rC seq e0 (.slice oA on oc))))); have C_2 := Lib.hid (C_1.out.below (bnext hb (varR_below w2 (rC seq e0 (.slice oA on oc))))); have N2 := Lib.hid (Bk.new w2 31 rsZ); have R_2 := Lib.hid (varR_bk w2 (rC seq e0 (.slice oA on oc))); have A_2 := Lib.hid (hm2.below (varR_below w2 (rC seq e0 (.slice oA on oc)))); clear z0 z1 z2 z3 z4 zf zl; have r0 := R_2.out.cell 0; simp only [List.getElem?_toArray, List.getElem?_cons_zero] at r0; have rl := R_2.out.lt; clear hb ho hm2))
    | (with_reducible refine st_rs w2.heap.size N2.out rfl _ _ rfl rfl rfl rfl ?_))
  clear r0 rl
  go_loopw [9] (fun cc wr => ∃ i : Nat, i ≤ ln ∧ cc = .int .i64 i ∧ Hid (Below ((w2.alloc (.cells rsZ 31)).setRow w2.heap.size (rC seq e0 (.slice oA on oc))).heap.size ((w2.alloc (.cells rsZ 31)).setRow w2.heap.size (rC seq e0 (.slice oA on oc))) wr)) (fun cc _ => ln - (intOf cc).toNat)
  case atStart => exact ⟨0, Nat.zero_le _, rfl, Lib.hid (Below.refl _ _)⟩
  case round =>
    obtain ⟨i, hi, rfl, HB⟩ := hrel
    have BB := Lib.hid (bnext B_2.out HB.out)
    have CB := Lib.hid (C_2.out.below HB.out)
    have RB := Lib.hid (R_2.out.below HB.out)
    have AB : Hid (Ents wr A k l') := Lib.hid (by
      have := A_2.out.below HB.out
      unfold Ents
      rw [hln'.out]
      exact this)
    have LB := Lib.hid (HL.out.below BB.out)
    have WB := Lib.hid (HW.out.below BB.out)
    have hkk : ln ≤ k := by have := AB.out.2.1; rw [hln'.out] at this; exact this
    clear C_0 B_0 hap hrt
    obtain ⟨z0, z1, z2, z3, z4, zf⟩ := CB.out.cmd
    have zl := CB.out.lt
    by_cases hlt : i < ln
    · go_wp2
      go_loopw [10, 11] (fun bb jj wq => ∃ (j : Nat) (b : Bool), j ≤ nw ∧ jj = .int .i64 j ∧ bb = .bool b ∧ Hid (b = true ↔ ∃ q, q < j ∧ ws[q]?.getD 0 = (i : Int)) ∧ wq = wr) (fun _ jj _ => nw - (intOf jj).toNat)
      case atStart => exact ⟨0, false, Nat.zero_le _, rfl, rfl, Lib.hid ⟨(fun h => by cases h), fun ⟨q, hq, _⟩ => by omega⟩, rfl⟩
      case round =>
        obtain ⟨j, b, hj, rfl, rfl, Hb, rfl⟩ := hrel
        by_cases hjlt : j < nw
        · obtain ⟨bw, ow, rfl, hbw, hv⟩ := WB.out.int (j := j) hjlt
          have d1 : (j : Int) < (nw : Int) := by omega
          have d2 : (j : Int) < (wc : Int) := by omega
          obtain ⟨v, hvv⟩ : ∃ v, v = ws[j]?.getD 0 := ⟨_, rfl⟩
          rw [← hvv] at hv
          have hnext : Hid ((b || (v == (i : Int))) = true ↔ ∃ q, q < j + 1 ∧ ws[q]?.getD 0 = (i : Int)) := Lib.hid (by
            rw [Bool.or_eq_true, beq_iff_eq, Hb.out]
            constructor
            · rintro (⟨q, h1, h2⟩ | h)
              · exact ⟨q, by omega, h2⟩
              · exact ⟨j, by omega, by rw [← hvv]; exact h⟩
            · rintro ⟨q, h1, h2⟩
              by_cases hq : q < j
              · exact .inl ⟨q, hq, h2⟩
              · obtain rfl : q = j := by omega
                exact .inr (by rw [hvv]; exact h2))
          clear Hb
          clear hvv
          cases b with
          | true =>
            go_wp2
            go_roundw
            case rel => exact ⟨j + 1, true, by omega, by go_num, rfl, hnext, trivial⟩
            case measure => simp [intOf]; omega
          | false =>
            go_wp2
            go_roundw
            case rel => exact ⟨j + 1, v == (i : Int), by omega, by go_num, rfl, Lib.hid (by have := hnext.out; rw [Bool.false_or] at this; exact this), trivial⟩
            case measure => simp [intOf]; omega
        · obtain rfl : nw = j := by omega
          clear hjlt
          have hAA := AB.out.load h8'.out (i := i) (by rw [hln'.out]; exact hlt)
          have hLL := LB.out.load H8.out (i := i) (by rw [HLN.out]; exact hlt)
          have d1 : (i : Int) < (ln : Int) := by omega
          have d2 : (i : Int) < (lc : Int) := by omega
          have d3 : (i : Int) < (k : Int) := by omega
          have r1 := RB.out.cell 1
          simp only [List.getElem?_toArray, List.getElem?_cons_zero, List.getElem?_cons_succ] at r1
          have rl := RB.out.lt
          obtain ⟨g, off, rfl, hg, hl⟩ := hAA
          obtain ⟨g', off', rfl, hg', hl'⟩ := hLL
          have hq1 := hy1.out i
          have hq2 := hy2.out i
          have HB8 := h8'.out.at i
          have NE : Hid (l'[i]?.getD entZ = l[i]?.getD entZ → ∀ W, (binOp .neq 45 (.agg (bkC (entI (l'[i]?.getD entZ)))) (.agg (bkC (entI (l[i]?.getD entZ))))).run Try.prog W = .ok (.bool false) W) := Lib.hid (fun he W => by
            rw [← he, neq_ent W HB8 HB8, decide_eq_true rfl]
            rfl)
          clear hy1 hy2 HB8
          have hcase : (b = true ∧ e0 = 0) ∨ ¬ (b = true ∧ e0 = 0) := Decidable.em _
          rcases hcase with ⟨rfl, rfl⟩ | hnn
          · have hseq := hq1 (Hb.out.1 rfl) rfl
            have hse := (hl wr (Below.refl _ _)).2.2
            rw [hseq] at hse
            clear hq1 hq2 hl hl' NE Hb hseq
            go_wp2
            go_roundw
            case rel => exact ⟨i + 1, by omega, by go_num, HB⟩
            case measure => simp [intOf]; omega
          · have heq := hq2 (fun ⟨h1, h2⟩ => hnn ⟨Hb.out.2 h1, h2⟩)
            have NE2 := Lib.hid (NE.out heq)
            have L : Hid (∀ w', (∃ n, w' = wr.drewN n) → (loadVar 45 ⟨g, off + i * 9, none⟩).run Try.prog w' = .ok (.agg (bkC (entI (l'[i]?.getD entZ)))) w') := Lib.hid (by
              rintro _ ⟨q, rfl⟩
              exact (hl _ (drewN_below _ _)).1)
            have L' : Hid (∀ w', (∃ n, w' = wr.drewN n) → (loadVar 45 ⟨g', off' + i * 9, none⟩).run Try.prog w' = .ok (.agg (bkC (entI (l[i]?.getD entZ)))) w') := Lib.hid (by
              rintro _ ⟨q, rfl⟩
              exact (hl' _ (drewN_below _ _)).1)
            clear hq1 hq2 hl hl' NE heq Hb
            generalize bkC (entI (l'[i]?.getD entZ)) = cs at *
            generalize bkC (entI (l[i]?.getD entZ)) = cs' at *
            have fin : b = false ∨ (b = true ∧ (e0 == 0) = false) := by
              cases b with
              | false => exact .inl rfl
              | true => exact .inr ⟨rfl, by simpa using fun h => hnn ⟨rfl, h⟩⟩
            clear hnn
            rcases fin with rfl | ⟨rfl, he0⟩
            all_goals
              go_wp2
              try simp only [List.append_eq, List.cons_append, List.nil_append]
              refine wp_region_quiet_lit (by kernel_rfl) (by kernel_rfl) ?_
              repeat (first
                | (go_big_quiet_want; (first | refine quiet_load_at _ g (off + i * 9) L.out _ rfl rfl ?_ | refine quiet_load_at _ g' (off' + i * 9) L'.out _ rfl rfl ?_ | refine quiet_neq_at _ false eqGuardEnt NE2.out _ _ _ rfl rfl rfl ?_); go_simp; go_big_quiet_on)
                | go_big_quiet_step (fail))
              refine wpQuiet_nil ?_
              rintro _ ⟨nq, rfl⟩
              go_wp2
              go_roundw
              case rel => exact ⟨i + 1, by omega, by go_num, Lib.hid (bnext HB.out (drewN_below _ _))⟩
              case measure => simp [intOf]; omega
    · obtain rfl : i = ln := by omega
      clear hlt
      go_wp2_with (go_at_call 8; go_must ((with_reducible refine (aw.out _).mono ?_); rintro e w9 ⟨rfl, hb9⟩; have B9 := Lib.hid (bnext BB.out hb9); clear hb9))
      go_ret
      exact ⟨rfl, B9.out⟩

theorem tableTouches_walk (h8 : Eight l) (w : World) (h : CmRaw w c ra nr rc wa nw wc aa na ac ca nc cc) (hL : Ents w lA lc l) (hln : l.length = ln) :
    Calls Try.prog 4 #[.slice lA ln lc, cmV ra nr rc wa nw wc aa na ac c.fuel ca nc cc, .int .i64 seq] w fun e w' => e = .returned (.bool true) ∧ Below w.heap.size w w' := by
  by_cases hy : ln ≤ 64 ∧ MayBe c ∧ fitsT c ln
  · exact tableTouches_yes c ra nr rc wa nw wc aa na ac ca nc cc l lA ln lc seq hy.2.1 h8 (by rw [hln]; exact hy.2.2) hln hy.1 w h hL
  · exact tableTouches_no c ra nr rc wa nw wc aa na ac ca nc cc lA ln lc seq w h hy

end
end Go.Proofs.Ytibmfhmeoohdeaa
