/-
  What foremanlaw17.worked answers, in whatever memory: so many turns, until nobody has anything to do. No conditions but those that stand there.
-/
import Derived.Test.YtpaocjpjlogkgaaQCrwDn
import Derived.Test.YtpaocjpjlogkgaaZCrwTu
namespace Go.Proofs.Ytpaocjpjlogkgaa
open Go Go.RowKit
set_option maxRecDepth 100000
attribute [local go_sem] look findAt
attribute [local simp] depsOf isV Region.binds

theorem ofCase {α : Type} (o : Option α) (h : o.isSome = true) : ∃ j, o = some j := Option.isSome_iff_exists.1 h

section
variable (n no : Nat) (H : Hd) (cs : List Cmd) (b0 : List Ent) (X : Crw) (z : CwL) (ts : List Int) (tA : Option Addr) (tn tc : Nat) (most : Nat) (w : World)

set_option maxHeartbeats 32000000 in
theorem worked_any (h : CwIs n no X w z) (hc : CInv cs b0 3 X) (hcs : ∀ c ∈ cs, MayBe c ∧ fitsT c b0.length) (hg : goodT b0) (hbn : b0.length = n) (hcl : cs.length ≤ 900) (hn : n ≤ 1000) (hno : no ≤ 1000) (hts : U8s w tA tc ts) (htn : ts.length = tn) (htr : ∀ x ∈ ts, 0 ≤ x ∧ x ≤ 255) (hmost : most ≤ 1000000) :
    Calls Try.prog 11 #[.agg (cwA n no H z), .slice tA tn tc, .int .i64 (most : Int)] w (CwErr n no H (goP (tsN ts) most 0 X).1 z (goP (tsN ts) most 0 X).2 w) := by
  obtain ⟨RR, hRR⟩ : ∃ r, r = goP (tsN ts) most 0 X := ⟨_, rfl⟩
  rw [← hRR]
  obtain ⟨W0, hW0⟩ : ∃ W, W = (w.alloc (.cells (cwA n no H z) 34)).alloc (.cells cwZ 34) := ⟨_, rfl⟩
  obtain ⟨b0', kb, kr⟩ := cwW_is n no H z w
  rw [← hW0] at b0' kb kr
  have HW := Lib.hid hW0
  have B0 := Lib.hid b0'
  have K0 := Lib.hid kb
  have R0 := Lib.hid kr
  have H0 := Lib.hid h
  have I0 := Lib.hid (h.below b0')
  have C0 := Lib.hid hc
  have G0 : Hid (goP (tsN ts) (most - 0) 0 X = RR) := Lib.hid (by rw [Nat.sub_zero]; exact hRR.symm)
  have HCS := Lib.hid hcs
  have HGT := Lib.hid hg
  have HBN := Lib.hid hbn
  have HCL := Lib.hid hcl
  have HN := Lib.hid hn
  have HNO := Lib.hid hno
  have HTS := Lib.hid hts
  have HTN := Lib.hid htn
  have HTR := Lib.hid htr
  have htc : tn ≤ tc := by have := hts.2.1; omega
  have htz : ts.length = tn := htn
  clear h hc hcs hg hbn hcl hts htn htr hW0 b0' kb kr hRR htz
  go_enter Try.func11, Try.ntmps11
  go_wp2
  rw [← HW.out]
  go_loopw [8] (fun cc wr => ∃ (i : Nat) (Y : Crw) (y : CwL), i ≤ most ∧ cc = .int .i64 i ∧ Hid (CwIs n no Y wr y) ∧ Hid (CInv cs b0 3 Y) ∧ Hid (goP (tsN ts) (most - i) i Y = RR) ∧ Hid (Bk wr w.heap.size 34 (cwA n no H y)) ∧ Hid (Bk wr (w.heap.size + 1) 34 cwZ) ∧ Hid (Below w.heap.size w wr) ∧ Hid (∀ G, G < w.heap.size + 2 → CwOff G n no z → CwOff G n no y)) (fun cc _ => most - (intOf cc).toNat)
  case atStart => exact ⟨0, X, z, Nat.zero_le _, rfl, I0, C0, G0, K0, R0, B0, Lib.hid (fun G _ q => q)⟩
  case round =>
    obtain ⟨i, Y, y, hi, rfl, HI, HC, HG, HK, HR, HB, HO⟩ := hrel
    have hb2 : w.heap.size + 2 ≤ wr.heap.size := by have := HR.out.lt; omega
    have hok := HC.out.ok HCS.out HGT.out HBN.out HCL.out
    have HOK := Lib.hid hok
    have hny : y.tn = Y.tasks.length := HI.out.tk.lenL.symm
    have hfw : y.tn ≤ 900 := by have := hok.few; omega
    clear hok
    by_cases hend : i < most ∧ 0 < y.tn
    · obtain ⟨him, hty⟩ := hend
      have hmt : Y.tasks ≠ [] := fun e => by rw [hny, e] at hty; exact absurd hty (by decide)
      have f1 : decide ((i : Int) < (most : Int)) = true := decide_eq_true (by omega)
      have f2 : decide ((0 : Int) < (y.tn : Int)) = true := decide_eq_true (by omega)
      clear hny
      by_cases hit : i < tn
      · by_cases hoj : (ofP Y.tasks ((kAt (tsN ts) i % 3 : Nat) : Int)).isSome = true
        · obtain ⟨K, hKA⟩ : ∃ K, K = kAt (tsN ts) i := ⟨_, rfl⟩
          obtain ⟨ht0, htI, -⟩ := HC.out.turn HCS.out HGT.out hmt (kAt (tsN ts) i)
          have hgo := goP_step (f := most - i - 1) (n := i) hmt ht0
          rw [show most - i - 1 + 1 = most - i by omega, HG.out] at hgo
          rw [← hKA] at ht0 htI hgo
          have HKE := Lib.hid hKA
          obtain ⟨Wk, hWk⟩ : ∃ k : Nat, k = K % 3 := ⟨_, rfl⟩
          have hwm : (K : Int).tmod 3 = (Wk : Int) := by rw [hWk]; exact tmod_three K
          have hw3 : Wk < 3 := by rw [hWk]; exact Nat.mod_lt _ (by decide)
          have HTI := Lib.hid htI
          have HGN : Hid (goP (tsN ts) (most - (i + 1)) (i + 1) (turnP Y K).1 = RR) := Lib.hid (by rw [show most - (i + 1) = most - i - 1 by omega]; exact hgo.symm)
          have f3 : (i : Int) < (tn : Int) := by omega
          have f4 : (i : Int) < (tc : Int) := by omega
          obtain ⟨x, hx⟩ : ∃ x, ts[i]? = some x := ⟨_, List.getElem?_eq_getElem (by rw [HTN.out]; exact hit)⟩
          have hxr := HTR.out x (List.mem_of_getElem? hx)
          have hxK : x = (K : Int) := by rw [hKA, kAt_in hx]; omega
          obtain ⟨tb, to, htA, htl, y0⟩ := (HTS.out.below HB.out).at hx
          rw [hxK] at y0
          have hKz : K ≤ 255 := by omega
          have fw : wrap64 (K : Int) = (K : Int) := wrap_nat (by omega)
          have hKb : (0 : Int) ≤ (K : Int) ∧ (K : Int) ≤ 255 := ⟨Int.natCast_nonneg K, Int.ofNat_le.2 hKz⟩
          clear hx hxr hxK hKA
          obtain ⟨j, hj⟩ := ofCase (ofP Y.tasks (Wk : Int)) (by first | exact hoj | (rw [hWk, HKE.out]; exact hoj))
          have hturn : turnP Y K = stepC Y 3 (Wk : Int) := by rw [hWk]; exact turn_step (by rw [← hWk]; exact hj)
          have h2 : (stepC Y 3 (Wk : Int)).2 = 0 := by rw [← hturn]; exact ht0
          have hof := Lib.hid (rof_is Y.tasks y.tl y.tA y.tn y.tc wr (Wk : Int) HI.out.tk (by omega))
          rw [wk_some hj] at hof
          have d5 : decide ((0 : Int) ≤ (j : Int)) = true := decide_eq_true (by omega)
          obtain ⟨-, -, p2, -, pl, -⟩ := HK.out.crew
          clear hj hgo htI ht0 hWk
          go_wp2_with (first
            | (go_at_call 22; go_must ((with_reducible refine hof.out.mono ?_); rintro e w3 ⟨rfl, hb3⟩; have B3 := Lib.hid (bnext HB.out hb3); have K3 := Lib.hid (HK.out.below hb3); have R3 := Lib.hid (HR.out.below hb3); have I3 := Lib.hid (HI.out.below hb3); have hz3 : wr.heap.size ≤ w3.heap.size := hb3.size; clear hb3 p2 pl; have hst := step_all n no H Y y 3 (Wk : Int) w3 I3.out HOK.out HN.out HNO.out; rw [h2, ← hturn] at hst; have HST := Lib.hid hst; clear hst h2 hturn))
            | (with_reducible refine ld_cw w.heap.size K3.out _ rfl rfl rfl ?_)
            | (go_at_call 17; go_must ((with_reducible refine HST.out.mono ?_); rintro e w5 ⟨z5, rfl, hz5, hb5, ho5⟩; have Z5 := Lib.hid hz5; have O5 := Lib.hid ho5; have B5 := Lib.hid (bnext B3.out hb5); have K5 := Lib.hid (K3.out.below hb5); have R5 := Lib.hid (R3.out.below hb5); clear hz5 hb5 ho5))
            | (with_reducible refine st_cw w.heap.size K5.out rfl n no H z5 _ _ rfl rfl rfl rfl ?_; refine Hid.out ?_))
          refine Lib.hid ?_
          obtain ⟨W6, hW6⟩ : ∃ W, W = w5.setRow w.heap.size (cwA n no H z5) := ⟨_, rfl⟩
          rw [← hW6]
          have K6 : Hid (Bk W6 w.heap.size 34 (cwA n no H z5)) := Lib.hid (by rw [hW6]; exact K5.out.setRow _)
          have R6 : Hid (Bk W6 (w.heap.size + 1) 34 cwZ) := Lib.hid (by rw [hW6]; exact R5.out.farRow (by omega) _)
          have B6 : Hid (Below w.heap.size w W6) := Lib.hid (by rw [hW6]; exact below_row B5.out (Nat.le_refl _) _)
          have O6 : Hid (∀ G, G < w.heap.size + 2 → CwOff G n no z → CwOff G n no z5) := Lib.hid (fun G hG q => O5.out G (by omega) (HO.out G hG q))
          have I6 : Hid (CwIs n no (turnP Y K).1 W6 z5) := Lib.hid (by rw [hW6]; exact Z5.out.keep (O6.out w.heap.size (by omega) (H0.out.off_ge (Nat.le_refl _))) (OneOff.setRow w5 w.heap.size _) K5.out (by decide) (by decide))
          clear hW6
          go_wp2
          rw [← htA]
          clear htA
          go_roundw
          case rel => exact ⟨i + 1, _, z5, by omega, by go_num, I6, HTI, HGN, K6, R6, B6, O6⟩
          case measure => simp [intOf]; omega
        · replace hoj : ofP Y.tasks ((kAt (tsN ts) i % 3 : Nat) : Int) = none := by
            cases q : ofP Y.tasks ((kAt (tsN ts) i % 3 : Nat) : Int) with
            | none => rfl
            | some j => rw [q] at hoj; exact absurd rfl hoj
          by_cases hrd : readiesP Y.tasks (whoP Y.tasks) = []
          · obtain ⟨K, hKA⟩ : ∃ K, K = kAt (tsN ts) i := ⟨_, rfl⟩
            obtain ⟨ht0, htI, -⟩ := HC.out.turn HCS.out HGT.out hmt (kAt (tsN ts) i)
            have hgo := goP_step (f := most - i - 1) (n := i) hmt ht0
            rw [show most - i - 1 + 1 = most - i by omega, HG.out] at hgo
            rw [← hKA] at ht0 htI hgo
            have HKE := Lib.hid hKA
            obtain ⟨Wk, hWk⟩ : ∃ k : Nat, k = K % 3 := ⟨_, rfl⟩
            have hwm : (K : Int).tmod 3 = (Wk : Int) := by rw [hWk]; exact tmod_three K
            have hw3 : Wk < 3 := by rw [hWk]; exact Nat.mod_lt _ (by decide)
            have HTI := Lib.hid htI
            have HGN : Hid (goP (tsN ts) (most - (i + 1)) (i + 1) (turnP Y K).1 = RR) := Lib.hid (by rw [show most - (i + 1) = most - i - 1 by omega]; exact hgo.symm)
            have f3 : (i : Int) < (tn : Int) := by omega
            have f4 : (i : Int) < (tc : Int) := by omega
            obtain ⟨x, hx⟩ : ∃ x, ts[i]? = some x := ⟨_, List.getElem?_eq_getElem (by rw [HTN.out]; exact hit)⟩
            have hxr := HTR.out x (List.mem_of_getElem? hx)
            have hxK : x = (K : Int) := by rw [hKA, kAt_in hx]; omega
            obtain ⟨tb, to, htA, htl, y0⟩ := (HTS.out.below HB.out).at hx
            rw [hxK] at y0
            have hKz : K ≤ 255 := by omega
            have fw : wrap64 (K : Int) = (K : Int) := wrap_nat (by omega)
            have hKb : (0 : Int) ≤ (K : Int) ∧ (K : Int) ≤ 255 := ⟨Int.natCast_nonneg K, Int.ofNat_le.2 hKz⟩
            clear hx hxr hxK hKA
            have hj : ofP Y.tasks (Wk : Int) = none := by first | exact hoj | (rw [hWk, HKE.out]; exact hoj)
            have hof := Lib.hid (rof_is Y.tasks y.tl y.tA y.tn y.tc wr (Wk : Int) HI.out.tk (by omega))
            rw [wk_none hj] at hof
            have d5 : decide ((0 : Int) ≤ -1) = false := by decide
            obtain ⟨-, -, p2, -, pl, -⟩ := HK.out.crew
            have hturn : turnP Y K = stepC Y 3 (lastJ Y.tasks (Wk : Int) 3) := by rw [hWk]; exact turn_last (by rw [← hWk]; exact hj) hrd
            have h2 : (stepC Y 3 (lastJ Y.tasks (Wk : Int) 3)).2 = 0 := by rw [← hturn]; exact ht0
            clear hj hgo htI ht0 hWk
            go_wp2_with (first
              | (go_at_call 22; go_must ((with_reducible refine hof.out.mono ?_); rintro e w3 ⟨rfl, hb3⟩; have B3 := Lib.hid (bnext HB.out hb3); have K3 := Lib.hid (HK.out.below hb3); have R3 := Lib.hid (HR.out.below hb3); have I3 := Lib.hid (HI.out.below hb3); have hz3 : wr.heap.size ≤ w3.heap.size := hb3.size; clear hb3 p2 pl; have hrdy := rready_is Y.tasks y.tl y.tA y.tn y.tc w3 (whoP Y.tasks) y.wA n y.wc I3.out.tk (by omega) HOK.out.cmds I3.out.wt.sl (by have := HOK.out.few; rw [whoP_len]; omega); rw [readies_same HOK.out.cmds, hrd] at hrdy; have HRD := Lib.hid hrdy; clear hrdy; obtain ⟨-, p1, p2, -, pl, -⟩ := K3.out.crew))
              | (go_at_call 23; go_must ((with_reducible refine HRD.out.mono ?_); rintro e w4 ⟨rA, rc, rfl, -, hb4⟩; have B4 := Lib.hid (bnext B3.out hb4); have K4 := Lib.hid (K3.out.below hb4); have R4 := Lib.hid (R3.out.below hb4); have I4 := Lib.hid (I3.out.below hb4); have hz4 : w3.heap.size ≤ w4.heap.size := hb4.size; clear hb4 p1 p2 pl)))
            go_loopw [10, 13] (fun ww jj wq => ∃ j : Nat, j ≤ 3 ∧ ww = .int .i64 (lastJ Y.tasks (Wk : Int) j) ∧ jj = .int .i64 j ∧ Hid (Below w4.heap.size w4 wq)) (fun _ jj _ => 3 - (intOf jj).toNat)
            case atStart => exact ⟨0, by omega, rfl, rfl, Lib.hid (Below.refl _ _)⟩
            case round =>
              obtain ⟨j, hj3, rfl, rfl, HQ⟩ := hrel
              by_cases hjl : j < 3
              · have g1 : (j : Int) < 3 := by omega
                obtain ⟨-, -, p2, -, pl, -⟩ := (K4.out.below HQ.out).crew
                have hofj := rof_is Y.tasks y.tl y.tA y.tn y.tc wr (j : Int) (I4.out.below HQ.out).tk (by omega)
                cases hjo : ofP Y.tasks (j : Int) with
                | some q =>
                  rw [wk_some hjo] at hofj
                  have HQJ := Lib.hid hofj
                  have d6 : decide ((0 : Int) ≤ (q : Int)) = true := decide_eq_true (by omega)
                  have hl1 : lastJ Y.tasks (Wk : Int) (j + 1) = (j : Int) := lastJ_some hjo
                  have HL1 := Lib.hid hl1
                  clear hofj hjo hl1
                  go_wp2_with (go_at_call 22; go_must ((with_reducible refine HQJ.out.mono ?_); rintro e w7 ⟨rfl, hb7⟩; have Q7 := Lib.hid (bnext HQ.out hb7); clear hb7 p2 pl))
                  go_roundw
                  case rel => exact ⟨j + 1, by omega, by rw [HL1.out], by go_num, Q7⟩
                  case measure => simp [intOf]; omega
                | none =>
                  rw [wk_none hjo] at hofj
                  have HQJ := Lib.hid hofj
                  have hl1 : lastJ Y.tasks (Wk : Int) (j + 1) = lastJ Y.tasks (Wk : Int) j := lastJ_none hjo
                  have HL1 := Lib.hid hl1
                  clear hofj hjo hl1
                  go_wp2_with (go_at_call 22; go_must ((with_reducible refine HQJ.out.mono ?_); rintro e w7 ⟨rfl, hb7⟩; have Q7 := Lib.hid (bnext HQ.out hb7); clear hb7 p2 pl))
                  go_roundw
                  case rel => exact ⟨j + 1, by omega, by rw [HL1.out], by go_num, Q7⟩
                  case measure => simp [intOf]; omega
              · obtain rfl : j = 3 := by omega
                have g1 : ¬ ((3 : Nat) : Int) < 3 := by decide
                have KQ := Lib.hid (K4.out.below HQ.out)
                have RQ := Lib.hid (R4.out.below HQ.out)
                have BQ := Lib.hid (bnext B4.out HQ.out)
                have hzq : w4.heap.size ≤ wr.heap.size := HQ.out.size
                have hst := step_all n no H Y y 3 (lastJ Y.tasks (Wk : Int) 3) wr (I4.out.below HQ.out) HOK.out HN.out HNO.out
                rw [h2, ← hturn] at hst
                have HST := Lib.hid hst
                clear hst h2 hturn hjl
                go_wp2_with (first
                  | (with_reducible refine ld_cw w.heap.size KQ.out _ rfl rfl rfl ?_)
                  | (go_at_call 17; go_must ((with_reducible refine HST.out.mono ?_); rintro e w5 ⟨z5, rfl, hz5, hb5, ho5⟩; have Z5 := Lib.hid hz5; have O5 := Lib.hid ho5; have B5 := Lib.hid (bnext BQ.out hb5); have K5 := Lib.hid (KQ.out.below hb5); have R5 := Lib.hid (RQ.out.below hb5); clear hz5 hb5 ho5))
                  | (with_reducible refine st_cw w.heap.size K5.out rfl n no H z5 _ _ rfl rfl rfl rfl ?_; refine Hid.out ?_))
                refine Lib.hid ?_
                obtain ⟨W6, hW6⟩ : ∃ W, W = w5.setRow w.heap.size (cwA n no H z5) := ⟨_, rfl⟩
                rw [← hW6]
                have K6 : Hid (Bk W6 w.heap.size 34 (cwA n no H z5)) := Lib.hid (by rw [hW6]; exact K5.out.setRow _)
                have R6 : Hid (Bk W6 (w.heap.size + 1) 34 cwZ) := Lib.hid (by rw [hW6]; exact R5.out.farRow (by omega) _)
                have B6 : Hid (Below w.heap.size w W6) := Lib.hid (by rw [hW6]; exact below_row B5.out (Nat.le_refl _) _)
                have O6 : Hid (∀ G, G < w.heap.size + 2 → CwOff G n no z → CwOff G n no z5) := Lib.hid (fun G hG q => O5.out G (by omega) (HO.out G hG q))
                have I6 : Hid (CwIs n no (turnP Y K).1 W6 z5) := Lib.hid (by rw [hW6]; exact Z5.out.keep (O6.out w.heap.size (by omega) (H0.out.off_ge (Nat.le_refl _))) (OneOff.setRow w5 w.heap.size _) K5.out (by decide) (by decide))
                clear hW6
                go_wp2
                rw [← htA]
                clear htA
                go_roundw
                case rel => exact ⟨i + 1, _, z5, by omega, by go_num, I6, HTI, HGN, K6, R6, B6, O6⟩
                case measure => simp [intOf]; omega
          · obtain ⟨K, hKA⟩ : ∃ K, K = kAt (tsN ts) i := ⟨_, rfl⟩
            obtain ⟨ht0, htI, -⟩ := HC.out.turn HCS.out HGT.out hmt (kAt (tsN ts) i)
            have hgo := goP_step (f := most - i - 1) (n := i) hmt ht0
            rw [show most - i - 1 + 1 = most - i by omega, HG.out] at hgo
            rw [← hKA] at ht0 htI hgo
            have HKE := Lib.hid hKA
            obtain ⟨Wk, hWk⟩ : ∃ k : Nat, k = K % 3 := ⟨_, rfl⟩
            have hwm : (K : Int).tmod 3 = (Wk : Int) := by rw [hWk]; exact tmod_three K
            have hw3 : Wk < 3 := by rw [hWk]; exact Nat.mod_lt _ (by decide)
            have HTI := Lib.hid htI
            have HGN : Hid (goP (tsN ts) (most - (i + 1)) (i + 1) (turnP Y K).1 = RR) := Lib.hid (by rw [show most - (i + 1) = most - i - 1 by omega]; exact hgo.symm)
            have f3 : (i : Int) < (tn : Int) := by omega
            have f4 : (i : Int) < (tc : Int) := by omega
            obtain ⟨x, hx⟩ : ∃ x, ts[i]? = some x := ⟨_, List.getElem?_eq_getElem (by rw [HTN.out]; exact hit)⟩
            have hxr := HTR.out x (List.mem_of_getElem? hx)
            have hxK : x = (K : Int) := by rw [hKA, kAt_in hx]; omega
            obtain ⟨tb, to, htA, htl, y0⟩ := (HTS.out.below HB.out).at hx
            rw [hxK] at y0
            have hKz : K ≤ 255 := by omega
            have fw : wrap64 (K : Int) = (K : Int) := wrap_nat (by omega)
            have hKb : (0 : Int) ≤ (K : Int) ∧ (K : Int) ≤ 255 := ⟨Int.natCast_nonneg K, Int.ofNat_le.2 hKz⟩
            clear hx hxr hxK hKA
            have hj : ofP Y.tasks (Wk : Int) = none := by first | exact hoj | (rw [hWk, HKE.out]; exact hoj)
            have hof := Lib.hid (rof_is Y.tasks y.tl y.tA y.tn y.tc wr (Wk : Int) HI.out.tk (by omega))
            rw [wk_none hj] at hof
            have d5 : decide ((0 : Int) ≤ -1) = false := by decide
            obtain ⟨-, -, p2, -, pl, -⟩ := HK.out.crew
            obtain ⟨RL, hRL⟩ : ∃ R, R = readiesP Y.tasks (whoP Y.tasks) := ⟨_, rfl⟩
            have hRn : 0 < RL.length := by rw [hRL]; exact List.length_pos_iff.2 hrd
            obtain ⟨q, hq⟩ : ∃ q, q = K % RL.length := ⟨_, rfl⟩
            have hqm : q < RL.length := by rw [hq]; exact Nat.mod_lt _ hRn
            obtain ⟨sq, hsq⟩ : ∃ v, v = RL[q]?.getD 0 := ⟨_, rfl⟩
            have hturn : turnP Y K = pickC Y 3 (Wk : Int) sq := by rw [hsq, hq, hRL, hWk]; exact turn_pick (by rw [← hWk]; exact hj) hrd
            have h2 : (pickC Y 3 (Wk : Int) sq).2 = 0 := by rw [← hturn]; exact ht0
            have g0 : (K : Int).tmod (RL.length : Int) = (q : Int) := by rw [hq]; exact tmod_nat K RL.length
            have g1 : ¬ (RL.length : Int) = 0 := by omega
            have g1' : ((RL.length : Int) == 0) = false := beq_eq_false_iff_ne.2 g1
            have g2 : (q : Int) < (RL.length : Int) := by omega
            have g1n : ¬ RL.length = 0 := by omega
            have HRL := Lib.hid hRL
            have HSQ := Lib.hid hsq
            have hpk := Lib.hid (fun W (hW : Below w.heap.size w W) (hI : CwIs n no Y W y) => (show Calls Try.prog 16 #[.agg (cwA n no H y), .int .i64 3, .int .i64 (Wk : Int), .int .i64 sq] W (CwErr n no H (turnP Y K).1 y 0 W) from by
              have := pick_all n no H Y y 3 (Wk : Int) sq W hI HOK.out HC.out.idle
              rw [h2, ← hturn] at this
              exact this))
            clear hj hgo htI ht0 hWk hRL hq hsq h2 hturn hrd
            generalize hm : RL.length = m at *
            have HMM := Lib.hid hm
            clear hm
            go_wp2_with (first
              | (go_at_call 22; go_must ((with_reducible refine hof.out.mono ?_); rintro e w3 ⟨rfl, hb3⟩; have B3 := Lib.hid (bnext HB.out hb3); have K3 := Lib.hid (HK.out.below hb3); have R3 := Lib.hid (HR.out.below hb3); have I3 := Lib.hid (HI.out.below hb3); have hz3 : wr.heap.size ≤ w3.heap.size := hb3.size; clear hb3 p2 pl; have hrdy := rready_is Y.tasks y.tl y.tA y.tn y.tc w3 (whoP Y.tasks) y.wA n y.wc I3.out.tk (by omega) HOK.out.cmds I3.out.wt.sl (by have := HOK.out.few; rw [whoP_len]; omega); rw [readies_same HOK.out.cmds, ← HRL.out] at hrdy; unfold NumsP at hrdy; rw [HMM.out] at hrdy; have HRD := Lib.hid hrdy; clear hrdy; obtain ⟨-, p1, p2, -, pl, -⟩ := K3.out.crew))
              | (go_at_call 23; go_must ((with_reducible refine HRD.out.mono ?_); rintro e w4 ⟨rA, rc, rfl, hI4, hb4⟩; have B4 := Lib.hid (bnext B3.out hb4); have K4 := Lib.hid (K3.out.below hb4); have R4 := Lib.hid (R3.out.below hb4); have I4 := Lib.hid (I3.out.below hb4); have hz4 : w3.heap.size ≤ w4.heap.size := hb4.size; have hrc : m ≤ rc := (by have := hI4.2.1; rw [HMM.out] at this; exact this); obtain ⟨rb, ro, rfl, hrl, y1⟩ := hI4.cellAt (j := q) (by rw [HMM.out]; exact hqm); rw [← HSQ.out] at y1; have HY1 := Lib.hid (And.intro hrl y1); clear hI4 hb4 p1 p2 pl hrl y1)))
            have g3 : (q : Int) < (rc : Int) := by omega
            try simp only [List.append_eq, List.cons_append, List.nil_append]
            refine wp_region_saysT 13 12 (fun x y => Below x.heap.size x y) (fun _ _ _ h k => bnext h k) w4 (below_drew1 w4) (by kernel_rfl) (by kernel_rfl) (by kernel_rfl) (by kernel_rfl) (by rfl) _ _ rfl rfl rfl (by kernel_rfl) rfl (by decide) (plain_extract rfl) (fun _ _ => rfl) ?_
            simp only [List.take_succ_cons, List.take_zero, List.drop_succ_cons, List.drop_zero]
            refine walkK_is (.agg (cwA n no H y)) (by first | exact gs0 rfl | exact gs1 rfl rfl rfl) (fun _ => Below.refl _ _) (fun u X' hX hd => ?_) ?_
            · have hl := run_loadVar_row X' w.heap.size 34 34 _ (0, 0) _ (K4.out.below hX) Try.underlying34 rfl infoCrw
              try simp at hd
              refine op_load_at 34 (w.heap.size) (0) hl _ rfl ?_
              go_simp
            apply walkK_norm
            · first | (simp only [List.nil_append]; rfl) | simp only [List.nil_append]
            refine walkK_is (.int .i64 (Wk : Int)) (by first | exact gs0 rfl | exact gs1 rfl rfl rfl) (fun _ => Below.refl _ _) (fun u X' hX hd => ?_) ?_
            · have yy := (hX.cell (p := ⟨rb, ro + q, none⟩) HY1.out.1).trans HY1.out.2
              have yl : rb < X'.heap.size := Nat.lt_of_lt_of_le HY1.out.1 hX.size
              try simp at hd
              go_simp
              try rfl
            apply walkK_norm
            · first | (simp only [List.nil_append, List.cons_append]; rfl) | simp only [List.nil_append, List.cons_append]
            refine walkK_is (.slice (some ⟨rb, ro, none⟩) m rc) (by first | exact gs0 rfl | exact gs1 rfl rfl rfl) (fun _ => Below.refl _ _) (fun u X' hX hd => ?_) ?_
            · have yy := (hX.cell (p := ⟨rb, ro + q, none⟩) HY1.out.1).trans HY1.out.2
              have yl : rb < X'.heap.size := Nat.lt_of_lt_of_le HY1.out.1 hX.size
              try simp at hd
              go_simp
              try rfl
            apply walkK_norm
            · first | (simp only [List.nil_append, List.cons_append]; rfl) | simp only [List.nil_append, List.cons_append]
            refine walkK_is (.int .i64 (K : Int)) (by first | exact gs0 rfl | exact gs1 rfl rfl rfl) (fun _ => Below.refl _ _) (fun u X' hX hd => ?_) ?_
            · have yy := (hX.cell (p := ⟨rb, ro + q, none⟩) HY1.out.1).trans HY1.out.2
              have yl : rb < X'.heap.size := Nat.lt_of_lt_of_le HY1.out.1 hX.size
              try simp at hd
              go_simp
              try rfl
            apply walkK_norm
            · first | (simp only [List.nil_append, List.cons_append]; rfl) | simp only [List.nil_append, List.cons_append]
            refine walkK_is (.slice (some ⟨rb, ro, none⟩) m rc) (by first | exact gs0 rfl | exact gs1 rfl rfl rfl) (fun _ => Below.refl _ _) (fun u X' hX hd => ?_) ?_
            · have yy := (hX.cell (p := ⟨rb, ro + q, none⟩) HY1.out.1).trans HY1.out.2
              have yl : rb < X'.heap.size := Nat.lt_of_lt_of_le HY1.out.1 hX.size
              try simp at hd
              go_simp
              try rfl
            apply walkK_norm
            · first | (simp only [List.nil_append, List.cons_append]; rfl) | simp only [List.nil_append, List.cons_append]
            refine walkK_is (.int .i64 (m : Int)) (by first | exact gs0 rfl | exact gs1 rfl rfl rfl) (fun _ => Below.refl _ _) (fun u X' hX hd => ?_) ?_
            · have yy := (hX.cell (p := ⟨rb, ro + q, none⟩) HY1.out.1).trans HY1.out.2
              have yl : rb < X'.heap.size := Nat.lt_of_lt_of_le HY1.out.1 hX.size
              try simp at hd
              go_simp
              try rfl
            apply walkK_norm
            · first | (simp only [List.nil_append, List.cons_append]; rfl) | simp only [List.nil_append, List.cons_append]
            refine walkK_is (.int .i64 (q : Int)) (by first | exact gs0 rfl | exact gs1 rfl rfl rfl) (fun _ => Below.refl _ _) (fun u X' hX hd => ?_) ?_
            · have yy := (hX.cell (p := ⟨rb, ro + q, none⟩) HY1.out.1).trans HY1.out.2
              have yl : rb < X'.heap.size := Nat.lt_of_lt_of_le HY1.out.1 hX.size
              try simp at hd
              go_simp
              try rfl
            apply walkK_norm
            · first | (simp only [List.nil_append, List.cons_append]; rfl) | simp only [List.nil_append, List.cons_append]
            refine walkK_is (.pointer (some ⟨rb, ro + q, none⟩)) (by first | exact gs0 rfl | exact gs1 rfl rfl rfl) (fun _ => Below.refl _ _) (fun u X' hX hd => ?_) ?_
            · have yy := (hX.cell (p := ⟨rb, ro + q, none⟩) HY1.out.1).trans HY1.out.2
              have yl : rb < X'.heap.size := Nat.lt_of_lt_of_le HY1.out.1 hX.size
              try simp at hd
              go_simp
              try rfl
            apply walkK_norm
            · first | (simp only [List.nil_append, List.cons_append]; rfl) | simp only [List.nil_append, List.cons_append]
            refine walkK_is (.int .i64 sq) (by first | exact gs0 rfl | exact gs1 rfl rfl rfl) (fun _ => Below.refl _ _) (fun u X' hX hd => ?_) ?_
            · have yy := (hX.cell (p := ⟨rb, ro + q, none⟩) HY1.out.1).trans HY1.out.2
              have yl : rb < X'.heap.size := Nat.lt_of_lt_of_le HY1.out.1 hX.size
              try simp at hd
              go_simp
              try rfl
            apply walkK_norm
            · first | (simp only [List.nil_append, List.cons_append]; rfl) | simp only [List.nil_append, List.cons_append]
            refine walkK_call (errV n no H (turnP Y K).1 y w4.heap.size 0) 16 ?_ (by first | exact gs0 rfl | exact gs1 rfl rfl rfl) (fun v x y hb h => errV_keep v x y hb h) (fun u X' hX hd => ?_) (fun X' hX => ?_) ?_
            rotate_left
            · have yy := (hX.cell (p := ⟨rb, ro + q, none⟩) HY1.out.1).trans HY1.out.2
              have yl : rb < X'.heap.size := Nat.lt_of_lt_of_le HY1.out.1 hX.size
              try simp at hd
              go_simp
              try rfl
            · exact (hpk.out X' (bnext B4.out hX) (I4.out.below hX)).mono fun _ _ h => h.says hX.size
            apply walkK_norm
            · first | (simp only [List.nil_append, List.cons_append]; rfl) | simp only [List.nil_append, List.cons_append]
            refine walkK_new (errV n no H (turnP Y K).1 y w4.heap.size 0) (by first | exact gs0 rfl | exact gs1 rfl rfl rfl) (fun v x y hb h => errV_keep v x y hb h) (fun u X' hX hd => ?_) ?_
            · simp at hd
              refine ⟨u 9, X', ?_, Below.refl _ _, hd⟩
              go_simp
            apply walkK_norm
            · first | (simp only [List.nil_append, List.cons_append]; rfl) | simp only [List.nil_append, List.cons_append]
            refine walkK_new (cwV n no H (turnP Y K).1 y w4.heap.size) (by first | exact gs0 rfl | exact gs1 rfl rfl rfl) (fun v x y hb h => cwV_keep v x y hb h) (fun u X' hX hd => ?_) ?_
            · simp at hd
              obtain ⟨z1, hv, hI, ho⟩ := hd
              refine ⟨.agg (cwA n no H z1), X', ?_, Below.refl _ _, z1, rfl, hI, ho⟩
              go_simp
            apply walkK_norm
            · first | (simp only [List.nil_append, List.cons_append]; rfl) | simp only [List.nil_append, List.cons_append]
            refine walkK_is (.int .i64 0) (by first | exact gs0 rfl | exact gs1 rfl rfl rfl) (fun _ => Below.refl _ _) (fun u X' hX hd => ?_) ?_
            · simp at hd
              obtain ⟨z1, hv, hI, ho⟩ := hd
              go_simp
            refine walkK_last ?_
            intro u X' hX hsay
            have v0 := sayAll_put hsay 0 (.agg (cwA n no H y)) rfl
            have v1 := sayAll_put hsay 1 (.int .i64 (Wk : Int)) rfl
            have v8 := sayAll_put hsay 8 (.int .i64 sq) rfl
            have vx : cwV n no H (turnP Y K).1 y w4.heap.size (u 11) X' := sayAll_get hsay (j := 11) (φ := cwV n no H (turnP Y K).1 y w4.heap.size) rfl
            have ve := sayAll_put hsay 12 (.int .i64 0) rfl
            clear hsay
            obtain ⟨z1, vx, hz1, ho1⟩ := vx
            refine ⟨_, exec_st_cw (n := n) (no := no) (H := H) (z := z1) w.heap.size (K4.out.below hX) rfl _ _ rfl rfl (by simp [look, findAt, vx]), ?_⟩
            simp only [putAll, Act.put, v0, v1, v8, vx, ve, List.setIfInBounds_toArray, List.set_cons_succ, List.set_cons_zero, Nat.zero_add, Nat.reduceAdd]
            clear v0 v1 v8 vx ve
            have Z5 := Lib.hid hz1
            have O5 := Lib.hid ho1
            have B5 := Lib.hid (bnext B4.out hX)
            have K5 := Lib.hid (K4.out.below hX)
            have R5 := Lib.hid (R4.out.below hX)
            clear hz1 ho1 hX
            obtain ⟨W6, hW6⟩ : ∃ W, W = X'.setRow w.heap.size (cwA n no H z1) := ⟨_, rfl⟩
            rw [← hW6]
            have K6 : Hid (Bk W6 w.heap.size 34 (cwA n no H z1)) := Lib.hid (by rw [hW6]; exact K5.out.setRow _)
            have R6 : Hid (Bk W6 (w.heap.size + 1) 34 cwZ) := Lib.hid (by rw [hW6]; exact R5.out.farRow (by omega) _)
            have B6 : Hid (Below w.heap.size w W6) := Lib.hid (by rw [hW6]; exact below_row B5.out (Nat.le_refl _) _)
            have O6 : Hid (∀ G, G < w.heap.size + 2 → CwOff G n no z → CwOff G n no z1) := Lib.hid (fun G hG q => O5.out G (by omega) (HO.out G hG q))
            have I6 : Hid (CwIs n no (turnP Y K).1 W6 z1) := Lib.hid (by rw [hW6]; exact Z5.out.keep (O6.out w.heap.size (by omega) (H0.out.off_ge (Nat.le_refl _))) (OneOff.setRow X' w.heap.size _) K5.out (by decide) (by decide))
            clear hW6
            go_wp2
            rw [← htA]
            clear htA
            go_roundw
            case rel => exact ⟨i + 1, _, z1, by omega, by go_num, I6, HTI, HGN, K6, R6, B6, O6⟩
            case measure => simp [intOf]; omega
      · by_cases hoj : (ofP Y.tasks ((kAt (tsN ts) i % 3 : Nat) : Int)).isSome = true
        · obtain ⟨K, hKA⟩ : ∃ K, K = kAt (tsN ts) i := ⟨_, rfl⟩
          obtain ⟨ht0, htI, -⟩ := HC.out.turn HCS.out HGT.out hmt (kAt (tsN ts) i)
          have hgo := goP_step (f := most - i - 1) (n := i) hmt ht0
          rw [show most - i - 1 + 1 = most - i by omega, HG.out] at hgo
          rw [← hKA] at ht0 htI hgo
          have HKE := Lib.hid hKA
          obtain ⟨Wk, hWk⟩ : ∃ k : Nat, k = K % 3 := ⟨_, rfl⟩
          have hwm : (K : Int).tmod 3 = (Wk : Int) := by rw [hWk]; exact tmod_three K
          have hw3 : Wk < 3 := by rw [hWk]; exact Nat.mod_lt _ (by decide)
          have HTI := Lib.hid htI
          have HGN : Hid (goP (tsN ts) (most - (i + 1)) (i + 1) (turnP Y K).1 = RR) := Lib.hid (by rw [show most - (i + 1) = most - i - 1 by omega]; exact hgo.symm)
          have f3 : ¬ (i : Int) < (tn : Int) := by omega
          have hKi : K = i := by rw [hKA]; exact kAt_out (by rw [HTN.out]; omega)
          subst hKi
          clear hKA
          obtain ⟨j, hj⟩ := ofCase (ofP Y.tasks (Wk : Int)) (by first | exact hoj | (rw [hWk, HKE.out]; exact hoj))
          have hturn : turnP Y K = stepC Y 3 (Wk : Int) := by rw [hWk]; exact turn_step (by rw [← hWk]; exact hj)
          have h2 : (stepC Y 3 (Wk : Int)).2 = 0 := by rw [← hturn]; exact ht0
          have hof := Lib.hid (rof_is Y.tasks y.tl y.tA y.tn y.tc wr (Wk : Int) HI.out.tk (by omega))
          rw [wk_some hj] at hof
          have d5 : decide ((0 : Int) ≤ (j : Int)) = true := decide_eq_true (by omega)
          obtain ⟨-, -, p2, -, pl, -⟩ := HK.out.crew
          clear hj hgo htI ht0 hWk
          go_wp2_with (first
            | (go_at_call 22; go_must ((with_reducible refine hof.out.mono ?_); rintro e w3 ⟨rfl, hb3⟩; have B3 := Lib.hid (bnext HB.out hb3); have K3 := Lib.hid (HK.out.below hb3); have R3 := Lib.hid (HR.out.below hb3); have I3 := Lib.hid (HI.out.below hb3); have hz3 : wr.heap.size ≤ w3.heap.size := hb3.size; clear hb3 p2 pl; have hst := step_all n no H Y y 3 (Wk : Int) w3 I3.out HOK.out HN.out HNO.out; rw [h2, ← hturn] at hst; have HST := Lib.hid hst; clear hst h2 hturn))
            | (with_reducible refine ld_cw w.heap.size K3.out _ rfl rfl rfl ?_)
            | (go_at_call 17; go_must ((with_reducible refine HST.out.mono ?_); rintro e w5 ⟨z5, rfl, hz5, hb5, ho5⟩; have Z5 := Lib.hid hz5; have O5 := Lib.hid ho5; have B5 := Lib.hid (bnext B3.out hb5); have K5 := Lib.hid (K3.out.below hb5); have R5 := Lib.hid (R3.out.below hb5); clear hz5 hb5 ho5))
            | (with_reducible refine st_cw w.heap.size K5.out rfl n no H z5 _ _ rfl rfl rfl rfl ?_; refine Hid.out ?_))
          refine Lib.hid ?_
          obtain ⟨W6, hW6⟩ : ∃ W, W = w5.setRow w.heap.size (cwA n no H z5) := ⟨_, rfl⟩
          rw [← hW6]
          have K6 : Hid (Bk W6 w.heap.size 34 (cwA n no H z5)) := Lib.hid (by rw [hW6]; exact K5.out.setRow _)
          have R6 : Hid (Bk W6 (w.heap.size + 1) 34 cwZ) := Lib.hid (by rw [hW6]; exact R5.out.farRow (by omega) _)
          have B6 : Hid (Below w.heap.size w W6) := Lib.hid (by rw [hW6]; exact below_row B5.out (Nat.le_refl _) _)
          have O6 : Hid (∀ G, G < w.heap.size + 2 → CwOff G n no z → CwOff G n no z5) := Lib.hid (fun G hG q => O5.out G (by omega) (HO.out G hG q))
          have I6 : Hid (CwIs n no (turnP Y K).1 W6 z5) := Lib.hid (by rw [hW6]; exact Z5.out.keep (O6.out w.heap.size (by omega) (H0.out.off_ge (Nat.le_refl _))) (OneOff.setRow w5 w.heap.size _) K5.out (by decide) (by decide))
          clear hW6
          go_wp2
          go_roundw
          case rel => exact ⟨K + 1, _, z5, by omega, by go_num, I6, HTI, HGN, K6, R6, B6, O6⟩
          case measure => simp [intOf]; omega
        · replace hoj : ofP Y.tasks ((kAt (tsN ts) i % 3 : Nat) : Int) = none := by
            cases q : ofP Y.tasks ((kAt (tsN ts) i % 3 : Nat) : Int) with
            | none => rfl
            | some j => rw [q] at hoj; exact absurd rfl hoj
          by_cases hrd : readiesP Y.tasks (whoP Y.tasks) = []
          · obtain ⟨K, hKA⟩ : ∃ K, K = kAt (tsN ts) i := ⟨_, rfl⟩
            obtain ⟨ht0, htI, -⟩ := HC.out.turn HCS.out HGT.out hmt (kAt (tsN ts) i)
            have hgo := goP_step (f := most - i - 1) (n := i) hmt ht0
            rw [show most - i - 1 + 1 = most - i by omega, HG.out] at hgo
            rw [← hKA] at ht0 htI hgo
            have HKE := Lib.hid hKA
            obtain ⟨Wk, hWk⟩ : ∃ k : Nat, k = K % 3 := ⟨_, rfl⟩
            have hwm : (K : Int).tmod 3 = (Wk : Int) := by rw [hWk]; exact tmod_three K
            have hw3 : Wk < 3 := by rw [hWk]; exact Nat.mod_lt _ (by decide)
            have HTI := Lib.hid htI
            have HGN : Hid (goP (tsN ts) (most - (i + 1)) (i + 1) (turnP Y K).1 = RR) := Lib.hid (by rw [show most - (i + 1) = most - i - 1 by omega]; exact hgo.symm)
            have f3 : ¬ (i : Int) < (tn : Int) := by omega
            have hKi : K = i := by rw [hKA]; exact kAt_out (by rw [HTN.out]; omega)
            subst hKi
            clear hKA
            have hj : ofP Y.tasks (Wk : Int) = none := by first | exact hoj | (rw [hWk, HKE.out]; exact hoj)
            have hof := Lib.hid (rof_is Y.tasks y.tl y.tA y.tn y.tc wr (Wk : Int) HI.out.tk (by omega))
            rw [wk_none hj] at hof
            have d5 : decide ((0 : Int) ≤ -1) = false := by decide
            obtain ⟨-, -, p2, -, pl, -⟩ := HK.out.crew
            have hturn : turnP Y K = stepC Y 3 (lastJ Y.tasks (Wk : Int) 3) := by rw [hWk]; exact turn_last (by rw [← hWk]; exact hj) hrd
            have h2 : (stepC Y 3 (lastJ Y.tasks (Wk : Int) 3)).2 = 0 := by rw [← hturn]; exact ht0
            clear hj hgo htI ht0 hWk
            go_wp2_with (first
              | (go_at_call 22; go_must ((with_reducible refine hof.out.mono ?_); rintro e w3 ⟨rfl, hb3⟩; have B3 := Lib.hid (bnext HB.out hb3); have K3 := Lib.hid (HK.out.below hb3); have R3 := Lib.hid (HR.out.below hb3); have I3 := Lib.hid (HI.out.below hb3); have hz3 : wr.heap.size ≤ w3.heap.size := hb3.size; clear hb3 p2 pl; have hrdy := rready_is Y.tasks y.tl y.tA y.tn y.tc w3 (whoP Y.tasks) y.wA n y.wc I3.out.tk (by omega) HOK.out.cmds I3.out.wt.sl (by have := HOK.out.few; rw [whoP_len]; omega); rw [readies_same HOK.out.cmds, hrd] at hrdy; have HRD := Lib.hid hrdy; clear hrdy; obtain ⟨-, p1, p2, -, pl, -⟩ := K3.out.crew))
              | (go_at_call 23; go_must ((with_reducible refine HRD.out.mono ?_); rintro e w4 ⟨rA, rc, rfl, -, hb4⟩; have B4 := Lib.hid (bnext B3.out hb4); have K4 := Lib.hid (K3.out.below hb4); have R4 := Lib.hid (R3.out.below hb4); have I4 := Lib.hid (I3.out.below hb4); have hz4 : w3.heap.size ≤ w4.heap.size := hb4.size; clear hb4 p1 p2 pl)))
            go_loopw [10, 13] (fun ww jj wq => ∃ j : Nat, j ≤ 3 ∧ ww = .int .i64 (lastJ Y.tasks (Wk : Int) j) ∧ jj = .int .i64 j ∧ Hid (Below w4.heap.size w4 wq)) (fun _ jj _ => 3 - (intOf jj).toNat)
            case atStart => exact ⟨0, by omega, rfl, rfl, Lib.hid (Below.refl _ _)⟩
            case round =>
              obtain ⟨j, hj3, rfl, rfl, HQ⟩ := hrel
              by_cases hjl : j < 3
              · have g1 : (j : Int) < 3 := by omega
                obtain ⟨-, -, p2, -, pl, -⟩ := (K4.out.below HQ.out).crew
                have hofj := rof_is Y.tasks y.tl y.tA y.tn y.tc wr (j : Int) (I4.out.below HQ.out).tk (by omega)
                cases hjo : ofP Y.tasks (j : Int) with
                | some q =>
                  rw [wk_some hjo] at hofj
                  have HQJ := Lib.hid hofj
                  have d6 : decide ((0 : Int) ≤ (q : Int)) = true := decide_eq_true (by omega)
                  have hl1 : lastJ Y.tasks (Wk : Int) (j + 1) = (j : Int) := lastJ_some hjo
                  have HL1 := Lib.hid hl1
                  clear hofj hjo hl1
                  go_wp2_with (go_at_call 22; go_must ((with_reducible refine HQJ.out.mono ?_); rintro e w7 ⟨rfl, hb7⟩; have Q7 := Lib.hid (bnext HQ.out hb7); clear hb7 p2 pl))
                  go_roundw
                  case rel => exact ⟨j + 1, by omega, by rw [HL1.out], by go_num, Q7⟩
                  case measure => simp [intOf]; omega
                | none =>
                  rw [wk_none hjo] at hofj
                  have HQJ := Lib.hid hofj
                  have hl1 : lastJ Y.tasks (Wk : Int) (j + 1) = lastJ Y.tasks (Wk : Int) j := lastJ_none hjo
                  have HL1 := Lib.hid hl1
                  clear hofj hjo hl1
                  go_wp2_with (go_at_call 22; go_must ((with_reducible refine HQJ.out.mono ?_); rintro e w7 ⟨rfl, hb7⟩; have Q7 := Lib.hid (bnext HQ.out hb7); clear hb7 p2 pl))
                  go_roundw
                  case rel => exact ⟨j + 1, by omega, by rw [HL1.out], by go_num, Q7⟩
                  case measure => simp [intOf]; omega
              · obtain rfl : j = 3 := by omega
                have g1 : ¬ ((3 : Nat) : Int) < 3 := by decide
                have KQ := Lib.hid (K4.out.below HQ.out)
                have RQ := Lib.hid (R4.out.below HQ.out)
                have BQ := Lib.hid (bnext B4.out HQ.out)
                have hzq : w4.heap.size ≤ wr.heap.size := HQ.out.size
                have hst := step_all n no H Y y 3 (lastJ Y.tasks (Wk : Int) 3) wr (I4.out.below HQ.out) HOK.out HN.out HNO.out
                rw [h2, ← hturn] at hst
                have HST := Lib.hid hst
                clear hst h2 hturn hjl
                go_wp2_with (first
                  | (with_reducible refine ld_cw w.heap.size KQ.out _ rfl rfl rfl ?_)
                  | (go_at_call 17; go_must ((with_reducible refine HST.out.mono ?_); rintro e w5 ⟨z5, rfl, hz5, hb5, ho5⟩; have Z5 := Lib.hid hz5; have O5 := Lib.hid ho5; have B5 := Lib.hid (bnext BQ.out hb5); have K5 := Lib.hid (KQ.out.below hb5); have R5 := Lib.hid (RQ.out.below hb5); clear hz5 hb5 ho5))
                  | (with_reducible refine st_cw w.heap.size K5.out rfl n no H z5 _ _ rfl rfl rfl rfl ?_; refine Hid.out ?_))
                refine Lib.hid ?_
                obtain ⟨W6, hW6⟩ : ∃ W, W = w5.setRow w.heap.size (cwA n no H z5) := ⟨_, rfl⟩
                rw [← hW6]
                have K6 : Hid (Bk W6 w.heap.size 34 (cwA n no H z5)) := Lib.hid (by rw [hW6]; exact K5.out.setRow _)
                have R6 : Hid (Bk W6 (w.heap.size + 1) 34 cwZ) := Lib.hid (by rw [hW6]; exact R5.out.farRow (by omega) _)
                have B6 : Hid (Below w.heap.size w W6) := Lib.hid (by rw [hW6]; exact below_row B5.out (Nat.le_refl _) _)
                have O6 : Hid (∀ G, G < w.heap.size + 2 → CwOff G n no z → CwOff G n no z5) := Lib.hid (fun G hG q => O5.out G (by omega) (HO.out G hG q))
                have I6 : Hid (CwIs n no (turnP Y K).1 W6 z5) := Lib.hid (by rw [hW6]; exact Z5.out.keep (O6.out w.heap.size (by omega) (H0.out.off_ge (Nat.le_refl _))) (OneOff.setRow w5 w.heap.size _) K5.out (by decide) (by decide))
                clear hW6
                go_wp2
                go_roundw
                case rel => exact ⟨K + 1, _, z5, by omega, by go_num, I6, HTI, HGN, K6, R6, B6, O6⟩
                case measure => simp [intOf]; omega
          · obtain ⟨K, hKA⟩ : ∃ K, K = kAt (tsN ts) i := ⟨_, rfl⟩
            obtain ⟨ht0, htI, -⟩ := HC.out.turn HCS.out HGT.out hmt (kAt (tsN ts) i)
            have hgo := goP_step (f := most - i - 1) (n := i) hmt ht0
            rw [show most - i - 1 + 1 = most - i by omega, HG.out] at hgo
            rw [← hKA] at ht0 htI hgo
            have HKE := Lib.hid hKA
            obtain ⟨Wk, hWk⟩ : ∃ k : Nat, k = K % 3 := ⟨_, rfl⟩
            have hwm : (K : Int).tmod 3 = (Wk : Int) := by rw [hWk]; exact tmod_three K
            have hw3 : Wk < 3 := by rw [hWk]; exact Nat.mod_lt _ (by decide)
            have HTI := Lib.hid htI
            have HGN : Hid (goP (tsN ts) (most - (i + 1)) (i + 1) (turnP Y K).1 = RR) := Lib.hid (by rw [show most - (i + 1) = most - i - 1 by omega]; exact hgo.symm)
            have f3 : ¬ (i : Int) < (tn : Int) := by omega
            have hKi : K = i := by rw [hKA]; exact kAt_out (by rw [HTN.out]; omega)
            subst hKi
            clear hKA
            have hj : ofP Y.tasks (Wk : Int) = none := by first | exact hoj | (rw [hWk, HKE.out]; exact hoj)
            have hof := Lib.hid (rof_is Y.tasks y.tl y.tA y.tn y.tc wr (Wk : Int) HI.out.tk (by omega))
            rw [wk_none hj] at hof
            have d5 : decide ((0 : Int) ≤ -1) = false := by decide
            obtain ⟨-, -, p2, -, pl, -⟩ := HK.out.crew
            obtain ⟨RL, hRL⟩ : ∃ R, R = readiesP Y.tasks (whoP Y.tasks) := ⟨_, rfl⟩
            have hRn : 0 < RL.length := by rw [hRL]; exact List.length_pos_iff.2 hrd
            obtain ⟨q, hq⟩ : ∃ q, q = K % RL.length := ⟨_, rfl⟩
            have hqm : q < RL.length := by rw [hq]; exact Nat.mod_lt _ hRn
            obtain ⟨sq, hsq⟩ : ∃ v, v = RL[q]?.getD 0 := ⟨_, rfl⟩
            have hturn : turnP Y K = pickC Y 3 (Wk : Int) sq := by rw [hsq, hq, hRL, hWk]; exact turn_pick (by rw [← hWk]; exact hj) hrd
            have h2 : (pickC Y 3 (Wk : Int) sq).2 = 0 := by rw [← hturn]; exact ht0
            have g0 : (K : Int).tmod (RL.length : Int) = (q : Int) := by rw [hq]; exact tmod_nat K RL.length
            have g1 : ¬ (RL.length : Int) = 0 := by omega
            have g1' : ((RL.length : Int) == 0) = false := beq_eq_false_iff_ne.2 g1
            have g2 : (q : Int) < (RL.length : Int) := by omega
            have g1n : ¬ RL.length = 0 := by omega
            have HRL := Lib.hid hRL
            have HSQ := Lib.hid hsq
            have hpk := Lib.hid (fun W (hW : Below w.heap.size w W) (hI : CwIs n no Y W y) => (show Calls Try.prog 16 #[.agg (cwA n no H y), .int .i64 3, .int .i64 (Wk : Int), .int .i64 sq] W (CwErr n no H (turnP Y K).1 y 0 W) from by
              have := pick_all n no H Y y 3 (Wk : Int) sq W hI HOK.out HC.out.idle
              rw [h2, ← hturn] at this
              exact this))
            clear hj hgo htI ht0 hWk hRL hq hsq h2 hturn hrd
            generalize hm : RL.length = m at *
            have HMM := Lib.hid hm
            clear hm
            go_wp2_with (first
              | (go_at_call 22; go_must ((with_reducible refine hof.out.mono ?_); rintro e w3 ⟨rfl, hb3⟩; have B3 := Lib.hid (bnext HB.out hb3); have K3 := Lib.hid (HK.out.below hb3); have R3 := Lib.hid (HR.out.below hb3); have I3 := Lib.hid (HI.out.below hb3); have hz3 : wr.heap.size ≤ w3.heap.size := hb3.size; clear hb3 p2 pl; have hrdy := rready_is Y.tasks y.tl y.tA y.tn y.tc w3 (whoP Y.tasks) y.wA n y.wc I3.out.tk (by omega) HOK.out.cmds I3.out.wt.sl (by have := HOK.out.few; rw [whoP_len]; omega); rw [readies_same HOK.out.cmds, ← HRL.out] at hrdy; unfold NumsP at hrdy; rw [HMM.out] at hrdy; have HRD := Lib.hid hrdy; clear hrdy; obtain ⟨-, p1, p2, -, pl, -⟩ := K3.out.crew))
              | (go_at_call 23; go_must ((with_reducible refine HRD.out.mono ?_); rintro e w4 ⟨rA, rc, rfl, hI4, hb4⟩; have B4 := Lib.hid (bnext B3.out hb4); have K4 := Lib.hid (K3.out.below hb4); have R4 := Lib.hid (R3.out.below hb4); have I4 := Lib.hid (I3.out.below hb4); have hz4 : w3.heap.size ≤ w4.heap.size := hb4.size; have hrc : m ≤ rc := (by have := hI4.2.1; rw [HMM.out] at this; exact this); obtain ⟨rb, ro, rfl, hrl, y1⟩ := hI4.cellAt (j := q) (by rw [HMM.out]; exact hqm); rw [← HSQ.out] at y1; have HY1 := Lib.hid (And.intro hrl y1); clear hI4 hb4 p1 p2 pl hrl y1)))
            have g3 : (q : Int) < (rc : Int) := by omega
            try simp only [List.append_eq, List.cons_append, List.nil_append]
            refine wp_region_saysT 13 12 (fun x y => Below x.heap.size x y) (fun _ _ _ h k => bnext h k) w4 (below_drew1 w4) (by kernel_rfl) (by kernel_rfl) (by kernel_rfl) (by kernel_rfl) (by rfl) _ _ rfl rfl rfl (by kernel_rfl) rfl (by decide) (plain_extract rfl) (fun _ _ => rfl) ?_
            simp only [List.take_succ_cons, List.take_zero, List.drop_succ_cons, List.drop_zero]
            refine walkK_is (.agg (cwA n no H y)) (by first | exact gs0 rfl | exact gs1 rfl rfl rfl) (fun _ => Below.refl _ _) (fun u X' hX hd => ?_) ?_
            · have hl := run_loadVar_row X' w.heap.size 34 34 _ (0, 0) _ (K4.out.below hX) Try.underlying34 rfl infoCrw
              try simp at hd
              refine op_load_at 34 (w.heap.size) (0) hl _ rfl ?_
              go_simp
            apply walkK_norm
            · first | (simp only [List.nil_append]; rfl) | simp only [List.nil_append]
            refine walkK_is (.int .i64 (Wk : Int)) (by first | exact gs0 rfl | exact gs1 rfl rfl rfl) (fun _ => Below.refl _ _) (fun u X' hX hd => ?_) ?_
            · have yy := (hX.cell (p := ⟨rb, ro + q, none⟩) HY1.out.1).trans HY1.out.2
              have yl : rb < X'.heap.size := Nat.lt_of_lt_of_le HY1.out.1 hX.size
              try simp at hd
              go_simp
              try rfl
            apply walkK_norm
            · first | (simp only [List.nil_append, List.cons_append]; rfl) | simp only [List.nil_append, List.cons_append]
            refine walkK_is (.slice (some ⟨rb, ro, none⟩) m rc) (by first | exact gs0 rfl | exact gs1 rfl rfl rfl) (fun _ => Below.refl _ _) (fun u X' hX hd => ?_) ?_
            · have yy := (hX.cell (p := ⟨rb, ro + q, none⟩) HY1.out.1).trans HY1.out.2
              have yl : rb < X'.heap.size := Nat.lt_of_lt_of_le HY1.out.1 hX.size
              try simp at hd
              go_simp
              try rfl
            apply walkK_norm
            · first | (simp only [List.nil_append, List.cons_append]; rfl) | simp only [List.nil_append, List.cons_append]
            refine walkK_is (.int .i64 (K : Int)) (by first | exact gs0 rfl | exact gs1 rfl rfl rfl) (fun _ => Below.refl _ _) (fun u X' hX hd => ?_) ?_
            · have yy := (hX.cell (p := ⟨rb, ro + q, none⟩) HY1.out.1).trans HY1.out.2
              have yl : rb < X'.heap.size := Nat.lt_of_lt_of_le HY1.out.1 hX.size
              try simp at hd
              go_simp
              try rfl
            apply walkK_norm
            · first | (simp only [List.nil_append, List.cons_append]; rfl) | simp only [List.nil_append, List.cons_append]
            refine walkK_is (.slice (some ⟨rb, ro, none⟩) m rc) (by first | exact gs0 rfl | exact gs1 rfl rfl rfl) (fun _ => Below.refl _ _) (fun u X' hX hd => ?_) ?_
            · have yy := (hX.cell (p := ⟨rb, ro + q, none⟩) HY1.out.1).trans HY1.out.2
              have yl : rb < X'.heap.size := Nat.lt_of_lt_of_le HY1.out.1 hX.size
              try simp at hd
              go_simp
              try rfl
            apply walkK_norm
            · first | (simp only [List.nil_append, List.cons_append]; rfl) | simp only [List.nil_append, List.cons_append]
            refine walkK_is (.int .i64 (m : Int)) (by first | exact gs0 rfl | exact gs1 rfl rfl rfl) (fun _ => Below.refl _ _) (fun u X' hX hd => ?_) ?_
            · have yy := (hX.cell (p := ⟨rb, ro + q, none⟩) HY1.out.1).trans HY1.out.2
              have yl : rb < X'.heap.size := Nat.lt_of_lt_of_le HY1.out.1 hX.size
              try simp at hd
              go_simp
              try rfl
            apply walkK_norm
            · first | (simp only [List.nil_append, List.cons_append]; rfl) | simp only [List.nil_append, List.cons_append]
            refine walkK_is (.int .i64 (q : Int)) (by first | exact gs0 rfl | exact gs1 rfl rfl rfl) (fun _ => Below.refl _ _) (fun u X' hX hd => ?_) ?_
            · have yy := (hX.cell (p := ⟨rb, ro + q, none⟩) HY1.out.1).trans HY1.out.2
              have yl : rb < X'.heap.size := Nat.lt_of_lt_of_le HY1.out.1 hX.size
              try simp at hd
              go_simp
              try rfl
            apply walkK_norm
            · first | (simp only [List.nil_append, List.cons_append]; rfl) | simp only [List.nil_append, List.cons_append]
            refine walkK_is (.pointer (some ⟨rb, ro + q, none⟩)) (by first | exact gs0 rfl | exact gs1 rfl rfl rfl) (fun _ => Below.refl _ _) (fun u X' hX hd => ?_) ?_
            · have yy := (hX.cell (p := ⟨rb, ro + q, none⟩) HY1.out.1).trans HY1.out.2
              have yl : rb < X'.heap.size := Nat.lt_of_lt_of_le HY1.out.1 hX.size
              try simp at hd
              go_simp
              try rfl
            apply walkK_norm
            · first | (simp only [List.nil_append, List.cons_append]; rfl) | simp only [List.nil_append, List.cons_append]
            refine walkK_is (.int .i64 sq) (by first | exact gs0 rfl | exact gs1 rfl rfl rfl) (fun _ => Below.refl _ _) (fun u X' hX hd => ?_) ?_
            · have yy := (hX.cell (p := ⟨rb, ro + q, none⟩) HY1.out.1).trans HY1.out.2
              have yl : rb < X'.heap.size := Nat.lt_of_lt_of_le HY1.out.1 hX.size
              try simp at hd
              go_simp
              try rfl
            apply walkK_norm
            · first | (simp only [List.nil_append, List.cons_append]; rfl) | simp only [List.nil_append, List.cons_append]
            refine walkK_call (errV n no H (turnP Y K).1 y w4.heap.size 0) 16 ?_ (by first | exact gs0 rfl | exact gs1 rfl rfl rfl) (fun v x y hb h => errV_keep v x y hb h) (fun u X' hX hd => ?_) (fun X' hX => ?_) ?_
            rotate_left
            · have yy := (hX.cell (p := ⟨rb, ro + q, none⟩) HY1.out.1).trans HY1.out.2
              have yl : rb < X'.heap.size := Nat.lt_of_lt_of_le HY1.out.1 hX.size
              try simp at hd
              go_simp
              try rfl
            · exact (hpk.out X' (bnext B4.out hX) (I4.out.below hX)).mono fun _ _ h => h.says hX.size
            apply walkK_norm
            · first | (simp only [List.nil_append, List.cons_append]; rfl) | simp only [List.nil_append, List.cons_append]
            refine walkK_new (errV n no H (turnP Y K).1 y w4.heap.size 0) (by first | exact gs0 rfl | exact gs1 rfl rfl rfl) (fun v x y hb h => errV_keep v x y hb h) (fun u X' hX hd => ?_) ?_
            · simp at hd
              refine ⟨u 9, X', ?_, Below.refl _ _, hd⟩
              go_simp
            apply walkK_norm
            · first | (simp only [List.nil_append, List.cons_append]; rfl) | simp only [List.nil_append, List.cons_append]
            refine walkK_new (cwV n no H (turnP Y K).1 y w4.heap.size) (by first | exact gs0 rfl | exact gs1 rfl rfl rfl) (fun v x y hb h => cwV_keep v x y hb h) (fun u X' hX hd => ?_) ?_
            · simp at hd
              obtain ⟨z1, hv, hI, ho⟩ := hd
              refine ⟨.agg (cwA n no H z1), X', ?_, Below.refl _ _, z1, rfl, hI, ho⟩
              go_simp
            apply walkK_norm
            · first | (simp only [List.nil_append, List.cons_append]; rfl) | simp only [List.nil_append, List.cons_append]
            refine walkK_is (.int .i64 0) (by first | exact gs0 rfl | exact gs1 rfl rfl rfl) (fun _ => Below.refl _ _) (fun u X' hX hd => ?_) ?_
            · simp at hd
              obtain ⟨z1, hv, hI, ho⟩ := hd
              go_simp
            refine walkK_last ?_
            intro u X' hX hsay
            have v0 := sayAll_put hsay 0 (.agg (cwA n no H y)) rfl
            have v1 := sayAll_put hsay 1 (.int .i64 (Wk : Int)) rfl
            have v8 := sayAll_put hsay 8 (.int .i64 sq) rfl
            have vx : cwV n no H (turnP Y K).1 y w4.heap.size (u 11) X' := sayAll_get hsay (j := 11) (φ := cwV n no H (turnP Y K).1 y w4.heap.size) rfl
            have ve := sayAll_put hsay 12 (.int .i64 0) rfl
            clear hsay
            obtain ⟨z1, vx, hz1, ho1⟩ := vx
            refine ⟨_, exec_st_cw (n := n) (no := no) (H := H) (z := z1) w.heap.size (K4.out.below hX) rfl _ _ rfl rfl (by simp [look, findAt, vx]), ?_⟩
            simp only [putAll, Act.put, v0, v1, v8, vx, ve, List.setIfInBounds_toArray, List.set_cons_succ, List.set_cons_zero, Nat.zero_add, Nat.reduceAdd]
            clear v0 v1 v8 vx ve
            have Z5 := Lib.hid hz1
            have O5 := Lib.hid ho1
            have B5 := Lib.hid (bnext B4.out hX)
            have K5 := Lib.hid (K4.out.below hX)
            have R5 := Lib.hid (R4.out.below hX)
            clear hz1 ho1 hX
            obtain ⟨W6, hW6⟩ : ∃ W, W = X'.setRow w.heap.size (cwA n no H z1) := ⟨_, rfl⟩
            rw [← hW6]
            have K6 : Hid (Bk W6 w.heap.size 34 (cwA n no H z1)) := Lib.hid (by rw [hW6]; exact K5.out.setRow _)
            have R6 : Hid (Bk W6 (w.heap.size + 1) 34 cwZ) := Lib.hid (by rw [hW6]; exact R5.out.farRow (by omega) _)
            have B6 : Hid (Below w.heap.size w W6) := Lib.hid (by rw [hW6]; exact below_row B5.out (Nat.le_refl _) _)
            have O6 : Hid (∀ G, G < w.heap.size + 2 → CwOff G n no z → CwOff G n no z1) := Lib.hid (fun G hG q => O5.out G (by omega) (HO.out G hG q))
            have I6 : Hid (CwIs n no (turnP Y K).1 W6 z1) := Lib.hid (by rw [hW6]; exact Z5.out.keep (O6.out w.heap.size (by omega) (H0.out.off_ge (Nat.le_refl _))) (OneOff.setRow X' w.heap.size _) K5.out (by decide) (by decide))
            clear hW6
            go_wp2
            go_roundw
            case rel => exact ⟨K + 1, _, z1, by omega, by go_num, I6, HTI, HGN, K6, R6, B6, O6⟩
            case measure => simp [intOf]; omega
    · have hfin : goP (tsN ts) (most - i) i Y = (Y, (i : Int)) := by
        by_cases h0 : i < most
        · exact goP_none (by
            have : y.tn = 0 := by omega
            rw [hny] at this
            exact List.eq_nil_of_length_eq_zero this)
        · rw [show most - i = 0 by omega]
          rfl
      rw [HG.out] at hfin
      have HF := Lib.hid hfin
      obtain ⟨-, -, p2, -, pl, -⟩ := HK.out.crew
      have hcmp : i < most → y.tn = 0 := fun h0 => by omega
      clear hfin hny
      by_cases h0 : i < most
      · have f1 : decide ((i : Int) < (most : Int)) = true := decide_eq_true (by omega)
        have h1 := hcmp h0
        have f2 : decide ((0 : Int) < (y.tn : Int)) = false := decide_eq_false (by omega)
        clear h1 hcmp
        go_wp2_with (first
          | (with_reducible refine ld_cw w.heap.size HK.out _ rfl rfl rfl ?_)
          | (with_reducible refine st_cw (w.heap.size + 1) HR.out rfl n no H y _ _ rfl rfl rfl rfl ?_))
        have BF : Below w.heap.size w (wr.setRow (w.heap.size + 1) (cwA n no H y)) := below_row HB.out (by omega) _
        rw [HF.out]
        exact bodyPost_ret (v := .tuple #[.agg (cwA n no H y), .int .i64 (i : Int)]) (res2_cw rfl _ _ (w.heap.size + 1) _ rfl rfl (Bk.setRow HR.out _)) rfl ⟨_, rfl, HI.out.keep (HO.out (w.heap.size + 1) (by omega) (H0.out.off_ge (by omega))) (OneOff.setRow wr (w.heap.size + 1) (cwA n no H y)) HR.out (by decide) (by decide), BF, fun G hG q => HO.out G (by omega) q⟩
      · have f1 : decide ((i : Int) < (most : Int)) = false := decide_eq_false (by omega)
        clear hcmp
        go_wp2_with (first
          | (with_reducible refine ld_cw w.heap.size HK.out _ rfl rfl rfl ?_)
          | (with_reducible refine st_cw (w.heap.size + 1) HR.out rfl n no H y _ _ rfl rfl rfl rfl ?_))
        have BF : Below w.heap.size w (wr.setRow (w.heap.size + 1) (cwA n no H y)) := below_row HB.out (by omega) _
        rw [HF.out]
        exact bodyPost_ret (v := .tuple #[.agg (cwA n no H y), .int .i64 (i : Int)]) (res2_cw rfl _ _ (w.heap.size + 1) _ rfl rfl (Bk.setRow HR.out _)) rfl ⟨_, rfl, HI.out.keep (HO.out (w.heap.size + 1) (by omega) (H0.out.off_ge (by omega))) (OneOff.setRow wr (w.heap.size + 1) (cwA n no H y)) HR.out (by decide) (by decide), BF, fun G hG q => HO.out G (by omega) q⟩

end
end Go.Proofs.Ytpaocjpjlogkgaa
