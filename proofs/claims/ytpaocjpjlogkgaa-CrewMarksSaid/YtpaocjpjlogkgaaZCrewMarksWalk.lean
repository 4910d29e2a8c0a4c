/-
  CrewMarks, walked: true of whatever comes, in whatever memory.
-/
import Derived.Test.YtpaocjpjlogkgaaZCrwAw
import Derived.Test.YtpaocjpjlogkgaaZCrwWk
import Derived.Test.YtpaocjpjlogkgaaZCrwLw
import Derived.Test.YtpaocjpjlogkgaaQCrwF
import Derived.Test.YtpaocjpjlogkgaaQPooV
import Derived.Test.YtpaocjpjlogkgaaQShdM
namespace Go.Proofs.Ytpaocjpjlogkgaa
open Go Go.RowKit
set_option maxRecDepth 100000
attribute [local go_sem] look findAt
attribute [local simp] depsOf isV Region.binds

section
variable (l : List CmL) (A : Option Addr) (n c : Nat) (ts : List Int) (tA : Option Addr) (tn tc : Nat)

set_option maxHeartbeats 4000000 in
theorem crewMarks_no (hz : n ≤ 9223372036854775807) (w : World) (h : Cmds w A c l) (hN : l.length = n) (hr : ¬ R17 l) :
    Calls Try.prog 5 #[.slice A n c, .slice tA tn tc] w fun e w' => e = .returned (.bool true) ∧ Below w.heap.size w w' := by
  have aw := Lib.hid (fun W => awake17 W)
  have hri := Lib.hid (right17_no h hN hz hr)
  clear h hN hr
  go_enter Try.func5, Try.ntmps5
  go_wp2_with (first
    | (go_at_call 6; go_must ((with_reducible refine hri.out.mono ?_); rintro e w1 ⟨rfl, hb1⟩; have B1 := Lib.hid hb1; clear hb1))
    | (go_at_call 7; go_must ((with_reducible refine (aw.out _).mono ?_); rintro e w2 ⟨rfl, hb2⟩; have B2 := Lib.hid (bnext B1.out hb2); clear hb2)))
  go_ret
  exact ⟨rfl, B2.out⟩

set_option maxHeartbeats 4000000 in
theorem crewMarks_many (w : World) (h : Cmds w A c l) (hN : l.length = n) (hr : R17 l) (hm : 300 < tn) :
    Calls Try.prog 5 #[.slice A n c, .slice tA tn tc] w fun e w' => e = .returned (.bool true) ∧ Below w.heap.size w w' := by
  have aw := Lib.hid (fun W => awake17 W)
  have hri := Lib.hid (right17_yes h hN hr)
  have d1 : decide ((300 : Int) < (tn : Int)) = true := decide_eq_true (by omega)
  clear h hN hr
  go_enter Try.func5, Try.ntmps5
  go_wp2_with (first
    | (go_at_call 6; go_must ((with_reducible refine hri.out.mono ?_); rintro e w1 ⟨rfl, hb1⟩; have B1 := Lib.hid hb1; clear hb1))
    | (go_at_call 7; go_must ((with_reducible refine (aw.out _).mono ?_); rintro e w2 ⟨rfl, hb2⟩; have B2 := Lib.hid (bnext B1.out hb2); clear hb2)))
  go_ret
  exact ⟨rfl, B2.out⟩

set_option maxHeartbeats 32000000 in
theorem crewMarks_main (w : World) (h : Cmds w A c l) (hN : l.length = n) (hr : R17 l) (hm : tn ≤ 300) (hts : U8s w tA tc ts) (htn : ts.length = tn) (htr : ∀ x ∈ ts, 0 ≤ x ∧ x ≤ 255) :
    Calls Try.prog 5 #[.slice A n c, .slice tA tn tc] w fun e w' => e = .returned (.bool true) ∧ Below w.heap.size w w' := by
  have aw := Lib.hid (fun W => awake17 W)
  have hri := Lib.hid (right17_yes h hN hr)
  have hre : Hid (∀ W, Calls Try.prog 9 #[.int .i64 6] W (AddPost 6 0 hd0 (restX 6) W)) := Lib.hid (fun W => rest_any 6 (by decide) (by decide) W)
  have hst := Lib.hid (fun W (hW : Below w.heap.size w W) z (hz : CwIs 6 0 (restX 6) W z) => start_any (h.below hW) hN hr hz)
  have d1 : decide ((300 : Int) < (tn : Int)) = false := decide_eq_false (by omega)
  have hn20 : n ≤ 20 := by rw [← hN]; exact hr.2
  have H := Lib.hid h
  have HN := Lib.hid hN
  have HR := Lib.hid hr
  have HTS := Lib.hid hts
  have HTN := Lib.hid htn
  have HTR := Lib.hid htr
  obtain ⟨X, hX⟩ : ∃ X : Crw, X = { startX 6 (csOf l) with mark := beginS 6 } := ⟨_, rfl⟩
  have hinv : CInv (csOf l) b06 3 X := by rw [hX]; exact inv_start hr.cmds' (by decide) (beginS 6)
  have hpot : potP X.tasks ≤ (5000 : Nat) := by
    rw [hX]
    show potP (addAll (csOf l)) ≤ _
    rw [pot_start, List.length_map]
    have := hr.fuel
    have := hr.2
    omega
  obtain ⟨-, gi, g0, -⟩ := CInv.go hr.cmds' goodT6 (tsN ts) 5000 0 X hinv hpot
  have hsaw : Saw (goP (tsN ts) 5000 0 X).1.mark (goP (tsN ts) 5000 0 X).1.blocks b06 := CInv.go_saw hr.cmds' goodT6 (tsN ts) rfl 5000 0 X hinv (by rw [hX]; exact saw_begin b06)
  obtain ⟨R, hR⟩ : ∃ R, R = goP (tsN ts) 5000 0 X := ⟨_, rfl⟩
  rw [← hR] at gi g0 hsaw
  obtain ⟨t, hRt⟩ : ∃ t : Nat, R.2 = (t : Int) := ⟨R.2.toNat, by omega⟩
  have hwk : Hid (∀ W z, Below w.heap.size w W → CwIs 6 6 X W z → Calls Try.prog 11 #[.agg (cwA 6 6 hd0 z), .slice tA tn tc, .int .i64 5000] W (CwErr 6 6 hd0 R.1 z (t : Int) W)) := Lib.hid (fun W z hW hz => by
    have := worked_any 6 6 hd0 (csOf l) b06 X z ts tA tn tc 5000 W hz hinv hr.cmds' goodT6 List.length_replicate (by have := hr.few; omega) (by decide) (by decide) (hts.below hW) htn htr (by decide)
    rwa [← hR, hRt] at this)
  have hbg : Hid (∀ W, Calls Try.prog 12 #[.agg (mkC false 0 0 0 0 0 0 (.slice none 0 0) (.slice none 0 0)), .int .i64 6] W (MkPost true 0 0 0 0 0 0 6 (beginS 6) W)) := Lib.hid (fun W => rbegin_any false 0 0 0 0 0 0 (.slice none 0 0) (.slice none 0 0) 6 (by decide) W)
  have hmk : Hid (∀ W z, CwIs 6 0 (startX 6 (csOf l)) W z → ∀ oA oc kA kc, MkIn W (beginS 6).old (beginS 6).kept oA 6 oc kA 6 kc → CwIs 6 6 X W { z with on := true, oA := oA, oc := oc, kA := kA, kc := kc }) := Lib.hid (fun W z hz oA oc kA kc hm => by
    rw [hX]
    exact ⟨hz.len, hz.bl, hz.e8, hz.wt, hz.tk, hz.rs, rfl, hm⟩)
  have hse : Hid (∀ W z (i : Nat), i < 6 → CwIs 6 6 R.1 W z → Calls Try.prog 13 #[.agg (mkOf 6 hd0 z), .slice z.bA 6 z.bc, .int .i64 (i : Int)] W fun e w' => e = .returned (.agg (bkC (entI entZ))) ∧ Below W.heap.size W w') := Lib.hid (fun W z i hi hz => by
    have := rsee_any z.on 0 0 0 0 0 0 z.oA 6 z.oc z.kA z.kc R.1.mark.old R.1.mark.kept R.1.blocks z.bA 6 z.bc (i : Int) W hz.mark hz.bl hz.e8 hz.len
    have e1 : (⟨z.on, R.1.mark.old, R.1.mark.kept⟩ : Mrk) = R.1.mark := by rw [← hz.on]
    have e2 : seeS R.1.mark R.1.blocks (i : Int) = entZ := by
      rw [hsaw.sees i hi]
      have h6 : i = 0 ∨ i = 1 ∨ i = 2 ∨ i = 3 ∨ i = 4 ∨ i = 5 := by omega
      rcases h6 with rfl | rfl | rfl | rfl | rfl | rfl <;> rfl
    rw [e1, e2] at this
    exact this)
  have hon : Hid (∀ W z, CwIs 6 6 R.1 W z → z.on = true) := Lib.hid (fun W z hz => by rw [← hz.on]; exact hsaw.on)
  clear gi g0 hR hRt hX hinv hpot hsaw
  clear h hN hr hts htn htr
  go_enter Try.func5, Try.ntmps5
  have d2 : decide ((t : Int) < 0) = false := decide_eq_false (by omega)
  go_wp2_with (first
    | (go_at_call 6; go_must ((with_reducible refine hri.out.mono ?_); rintro e w1 ⟨rfl, hb1⟩; have B1 := Lib.hid hb1; clear hb1))
    | (go_at_call 9; go_must ((with_reducible refine (hre.out _).mono ?_); rintro e w2 ⟨z2, rfl, hI2, hb2⟩; have I2 := Lib.hid hI2; have B2 := Lib.hid (bnext B1.out hb2); clear hI2 hb2))
    | (go_at_call 8; go_must ((with_reducible refine (hst.out _ B2.out z2 I2.out).mono ?_); rintro e w3 ⟨z3, rfl, hI3, hb3⟩; have N3 := Lib.hid (Bk.new w3 34 cwZ); obtain ⟨w3', hw3⟩ : ∃ W, W = (w3.alloc (.cells cwZ 34)).setRow w3.heap.size (cwA 6 0 hd0 z3) := ⟨_, rfl⟩; have HW3 := Lib.hid hw3.symm; have f3 : Below w3.heap.size w3 w3' := (by rw [hw3]; exact fresh_crew w3 _); have I3 := Lib.hid (hI3.below f3); have K3 : Hid (Bk w3' w3.heap.size 34 (cwA 6 0 hd0 z3)) := Lib.hid (by rw [hw3]; exact N3.out.setRow _); have O3 : Hid (CwOff w3.heap.size 6 0 z3) := Lib.hid (hI3.off_ge (Nat.le_refl _)); have B3 := Lib.hid (bnext (bnext B2.out hb3) f3); have hz3 : w.heap.size ≤ w3.heap.size := (bnext B2.out hb3).size; clear hI3 hw3 f3 hb3; obtain ⟨-, -, p2, -, pl, -⟩ := K3.out.crew))
    | (with_reducible refine st_cw w3.heap.size N3.out rfl 6 0 hd0 z3 _ _ rfl rfl rfl rfl ?_; rw [HW3.out])
    | (go_at_call 12; go_must ((with_reducible refine (hbg.out _).mono ?_); rintro e w4 ⟨oA, oc, kA, kc, rfl, hM, hb4⟩; obtain ⟨w4', hw4⟩ : ∃ W, W = w4.setCells w3.heap.size 4 (mkC true hd0.a1 hd0.a2 hd0.a3 hd0.a4 hd0.a5 hd0.a6 (.slice oA 6 oc) (.slice kA 6 kc)).toList := ⟨_, rfl⟩; have HW4 := Lib.hid hw4.symm; have k4 := K3.out.below hb4; have K4 := Lib.hid k4; have i4 := I3.out.below hb4; have g4 := OneOff.setCells w4 w3.heap.size 4 (mkC true hd0.a1 hd0.a2 hd0.a3 hd0.a4 hd0.a5 hd0.a6 (.slice oA 6 oc) (.slice kA 6 kc)).toList; rw [← hw4] at g4; have hl4 : w3.heap.size < w3'.heap.size := K3.out.lt; have m4 := hM.inn.keep ((own_over hM.oo).off hl4) ((own_over hM.ok).off hl4) g4; have I4 := Lib.hid (hmk.out _ _ (i4.keep (O3.out) g4 k4 (by decide) (by decide)) _ _ _ _ m4); have Q4 : Hid (Bk w4' w3.heap.size 34 (cwA 6 6 hd0 { z3 with on := true, oA := oA, oc := oc, kA := kA, kc := kc })) := Lib.hid (by rw [hw4]; exact k4.cM2 true oA oc kA kc); have B4 : Hid (Below w.heap.size w w4') := Lib.hid (by rw [hw4]; exact below_setCells (bnext B3.out hb4) hz3 _ _); obtain ⟨z4, hz4⟩ : ∃ z4 : CwL, z4 = { z3 with on := true, oA := oA, oc := oc, kA := kA, kc := kc } := ⟨_, rfl⟩; rw [← hz4] at I4 Q4; clear hw4 k4 i4 g4 m4 hM hb4 hz4 p2 pl))
    | (refine st_cmk2 w3.heap.size K4.out true oA oc kA kc _ _ rfl rfl rfl rfl ?_; rw [HW4.out])
    | (with_reducible refine ld_cw w3.heap.size Q4.out _ rfl rfl rfl ?_)
    | (go_at_call 11; go_must ((with_reducible refine (hwk.out _ z4 B4.out I4.out).mono ?_); rintro e w5 ⟨z5, rfl, hI5, hb5, -⟩; have N5 := Lib.hid (Bk.new w5 34 cwZ); obtain ⟨w5', hw5⟩ : ∃ W, W = (w5.alloc (.cells cwZ 34)).setRow w5.heap.size (cwA 6 6 hd0 z5) := ⟨_, rfl⟩; have HW5 := Lib.hid hw5.symm; have f5 : Below w5.heap.size w5 w5' := (by rw [hw5]; exact fresh_crew w5 _); have I5 := Lib.hid (hI5.below f5); have K5 : Hid (Bk w5' w5.heap.size 34 (cwA 6 6 hd0 z5)) := Lib.hid (by rw [hw5]; exact N5.out.setRow _); have B5 := Lib.hid (bnext (bnext B4.out hb5) f5); clear hI5 hw5 f5 hb5))
    | (with_reducible refine st_cw w5.heap.size N5.out rfl 6 6 hd0 z5 _ _ rfl rfl rfl rfl ?_; rw [HW5.out]))
  obtain ⟨g, hg⟩ : ∃ g, g = w5.heap.size := ⟨_, rfl⟩
  rw [← hg] at K5 ⊢
  clear hg
  go_loopw [8] (fun cc wr => ∃ i : Nat, i ≤ 6 ∧ cc = .int .i64 i ∧ Hid (CwIs 6 6 R.1 wr z5) ∧ Hid (Bk wr g 34 (cwA 6 6 hd0 z5)) ∧ Hid (Below w.heap.size w wr)) (fun cc _ => 6 - (intOf cc).toNat)
  case atStart => exact ⟨0, by omega, rfl, I5, K5, B5⟩
  case round =>
    obtain ⟨i, hi, rfl, HI, HK, HB⟩ := hrel
    obtain ⟨p0, -, -, -, pl, -⟩ := HK.out.crew
    by_cases hlt : i < 6
    · have f1 : (i : Int) < 6 := by omega
      have hs := Lib.hid (hse.out wr z5 i hlt HI.out)
      go_wp2_with (first
        | (refine ld_cmkG g HK.out _ rfl rfl (by rfl) ?_)
        | (go_at_call 13; go_must ((with_reducible refine hs.out.mono ?_); rintro e w6 ⟨rfl, hb6⟩; have I6 := Lib.hid (HI.out.below hb6); have K6 := Lib.hid (HK.out.below hb6); have B6 := Lib.hid (bnext HB.out hb6); clear hb6 p0 pl))
        | (refine neq_zG _ _ _ rfl rfl rfl (by rfl) ?_))
      go_roundw
      case rel => exact ⟨i + 1, by omega, by go_num, I6, K6, B6⟩
      case measure => simp [intOf]; omega
    · obtain rfl : i = 6 := by omega
      have f1 : ¬ ((6 : Nat) : Int) < 6 := by decide
      have hz := hon.out wr z5 HI.out
      clear p0 pl
      go_wp2_with (go_at_call 7; go_must ((with_reducible refine (aw.out _).mono ?_); rintro e w6 ⟨rfl, hb6⟩; have K6 := Lib.hid (HK.out.below hb6); have B6 := Lib.hid (bnext HB.out hb6); clear hb6; have p4 := K6.out.cell 4; simp only [List.getElem?_toArray, List.getElem?_cons_zero, List.getElem?_cons_succ, hz] at p4; have pl := K6.out.lt))
      go_ret
      exact ⟨rfl, B6.out⟩

theorem crewMarks_walk (hz : n ≤ 9223372036854775807) (w : World) (h : Cmds w A c l) (hN : l.length = n) (hts : U8s w tA tc ts) (htn : ts.length = tn) (htr : ∀ x ∈ ts, 0 ≤ x ∧ x ≤ 255) :
    Calls Try.prog 5 #[.slice A n c, .slice tA tn tc] w fun e w' => e = .returned (.bool true) ∧ Below w.heap.size w w' := by
  by_cases hr : R17 l
  · by_cases hm : 300 < tn
    · exact crewMarks_many l A n c tA tn tc w h hN hr hm
    · exact crewMarks_main l A n c ts tA tn tc w h hN hr (by omega) hts htn htr
  · exact crewMarks_no l A n c tA tn tc hz w h hN hr

end
end Go.Proofs.Ytpaocjpjlogkgaa
