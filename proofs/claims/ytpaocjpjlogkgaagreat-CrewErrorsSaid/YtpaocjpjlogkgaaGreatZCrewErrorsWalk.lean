/-
  CrewErrors, walked: true of whatever comes, in whatever memory.
-/
import Derived.Test.YtpaocjpjlogkgaaGreatZCrwAw
import Derived.Test.YtpaocjpjlogkgaaGreatQCrwC
import Derived.Test.YtpaocjpjlogkgaaGreatQCrwF
import Derived.Test.YtpaocjpjlogkgaaGreatQPooV
import Derived.Test.YtpaocjpjlogkgaaGreatQCrwDn
import Derived.Test.YtpaocjpjlogkgaaGreatQTrnM
import Derived.Test.YtpaocjpjlogkgaaGreatZCrwTu
namespace Go.Proofs.YtpaocjpjlogkgaaGreat
open Go Go.RowKit
set_option maxRecDepth 100000
attribute [local go_sem] look findAt
attribute [local simp] depsOf isV Region.binds

section
variable (l : List CmL) (A : Option Addr) (n c : Nat) (ts : List Trn) (tA : Option Addr) (tn tc : Nat)

set_option maxHeartbeats 4000000 in
theorem crewErrors_no (hz : n ≤ 9223372036854775807) (w : World) (h : Cmds w A c l) (hN : l.length = n) (hr : ¬ R17 l) :
    Calls Tryz.prog 5 #[.slice A n c, .slice tA tn tc] w fun e w' => e = .returned (.bool true) ∧ Below w.heap.size w w' := by
  have aw := Lib.hid (fun W => awake17 W)
  have hri := Lib.hid (right17_no h hN hz hr)
  clear h hN hr
  go_enter Tryz.func5, Tryz.ntmps5
  go_wp2_with (first
    | (go_at_call 6; go_must ((with_reducible refine hri.out.mono ?_); rintro e w1 ⟨rfl, hb1⟩; have B1 := Lib.hid hb1; clear hb1))
    | (go_at_call 7; go_must ((with_reducible refine (aw.out _).mono ?_); rintro e w2 ⟨rfl, hb2⟩; have B2 := Lib.hid (bnext B1.out hb2); clear hb2)))
  go_ret
  exact ⟨rfl, B2.out⟩

set_option maxHeartbeats 4000000 in
theorem crewErrors_many (w : World) (h : Cmds w A c l) (hN : l.length = n) (hr : R17 l) (hm : 100 < tn) :
    Calls Tryz.prog 5 #[.slice A n c, .slice tA tn tc] w fun e w' => e = .returned (.bool true) ∧ Below w.heap.size w w' := by
  have aw := Lib.hid (fun W => awake17 W)
  have hri := Lib.hid (right17_yes h hN hr)
  have d1 : decide ((100 : Int) < (tn : Int)) = true := decide_eq_true (by omega)
  clear h hN hr
  go_enter Tryz.func5, Tryz.ntmps5
  go_wp2_with (first
    | (go_at_call 6; go_must ((with_reducible refine hri.out.mono ?_); rintro e w1 ⟨rfl, hb1⟩; have B1 := Lib.hid hb1; clear hb1))
    | (go_at_call 7; go_must ((with_reducible refine (aw.out _).mono ?_); rintro e w2 ⟨rfl, hb2⟩; have B2 := Lib.hid (bnext B1.out hb2); clear hb2)))
  go_ret
  exact ⟨rfl, B2.out⟩

set_option maxHeartbeats 32000000 in
theorem crewErrors_main (w : World) (h : Cmds w A c l) (hN : l.length = n) (hr : R17 l) (hm : tn ≤ 100) (hts : Trns w tA tc ts) (htn : ts.length = tn) :
    Calls Tryz.prog 5 #[.slice A n c, .slice tA tn tc] w fun e w' => e = .returned (.bool true) ∧ Below w.heap.size w w' := by
  have aw := Lib.hid (fun W => awake17 W)
  have hri := Lib.hid (right17_yes h hN hr)
  have hre : Hid (∀ W, Calls Tryz.prog 9 #[.int .i64 6] W (AddPost 6 0 hd0 (restX 6) W)) := Lib.hid (fun W => rest_any 6 (by decide) (by decide) W)
  have hst := Lib.hid (fun W (hW : Below w.heap.size w W) z (hz : CwIs 6 0 (restX 6) W z) => start_any (h.below hW) hN hr hz)
  have d1 : decide ((100 : Int) < (tn : Int)) = false := decide_eq_false (by omega)
  have hn20 : n ≤ 20 := by rw [← hN]; exact hr.2
  have H := Lib.hid h
  have HN := Lib.hid hN
  have HR := Lib.hid hr
  have HTS := Lib.hid hts
  have HTN := Lib.hid htn
  have HC0 := Lib.hid hr.inv
  have HCS := Lib.hid hr.cmds'
  have htc : tn ≤ tc := by have := hts.cap; omega
  clear h hN hr hts htn
  go_enter Tryz.func5, Tryz.ntmps5
  go_wp2_with (first
    | (go_at_call 6; go_must ((with_reducible refine hri.out.mono ?_); rintro e w1 ⟨rfl, hb1⟩; have B1 := Lib.hid hb1; clear hb1))
    | (go_at_call 9; go_must ((with_reducible refine (hre.out _).mono ?_); rintro e w2 ⟨z2, rfl, hI2, hb2⟩; have I2 := Lib.hid hI2; have B2 := Lib.hid (bnext B1.out hb2); clear hI2 hb2))
    | (go_at_call 8; go_must ((with_reducible refine (hst.out _ B2.out z2 I2.out).mono ?_); rintro e w3 ⟨z3, rfl, hI3, hb3⟩; have N3 := Lib.hid (Bk.new w3 34 cwZ); obtain ⟨w3', hw3⟩ : ∃ W, W = (w3.alloc (.cells cwZ 34)).setRow w3.heap.size (cwA 6 0 hd0 z3) := ⟨_, rfl⟩; have HW3 := Lib.hid hw3.symm; have f3 : Below w3.heap.size w3 w3' := (by rw [hw3]; exact fresh_crew w3 _); have I3 := Lib.hid (hI3.below f3); have K3 : Hid (Bk w3' w3.heap.size 34 (cwA 6 0 hd0 z3)) := Lib.hid (by rw [hw3]; exact N3.out.setRow _); have O3 : Hid (CwOff w3.heap.size 6 0 z3) := Lib.hid (hI3.off_ge (Nat.le_refl _)); have B3 := Lib.hid (bnext (bnext B2.out hb3) f3); have hz3 : w.heap.size ≤ w3.heap.size := (bnext B2.out hb3).size; clear hI3 hw3 f3 hb3; obtain ⟨-, -, p2, -, pl, -⟩ := K3.out.crew))
    | (with_reducible refine st_cw w3.heap.size N3.out rfl 6 0 hd0 z3 _ _ rfl rfl rfl rfl ?_; rw [HW3.out]))
  obtain ⟨gx, hgx⟩ : ∃ g, g = w3.heap.size := ⟨_, rfl⟩
  rw [← hgx] at K3 O3 hz3 ⊢
  clear hgx p2 pl
  go_loopw [6] (fun cc wr => ∃ (i : Nat) (X : Crw) (zx : CwL), i ≤ tn ∧ cc = .int .i64 i ∧ Hid (CInv (csOf l) b06 3 X) ∧ Hid (CwIs 6 0 X wr zx) ∧ Hid (Bk wr gx 34 (cwA 6 0 hd0 zx)) ∧ Hid (CwOff gx 6 0 zx) ∧ Hid (Below w.heap.size w wr)) (fun cc _ => tn - (intOf cc).toNat)
  case atStart => exact ⟨0, _, z3, Nat.zero_le _, rfl, HC0, I3, K3, O3, B3⟩
  case round =>
    obtain ⟨i, X, zx, hi, rfl, HC, HI, HK, HO, HB⟩ := hrel
    by_cases hlt : i < tn
    · have f1 : (i : Int) < (tn : Int) := by omega
      have f2 : (i : Int) < (tc : Int) := by omega
      obtain ⟨tr, htr⟩ := trn_at (l := ts) (i := i) (by rw [HTN.out]; exact hlt)
      obtain ⟨tb, to, hA, hbt, hat⟩ := HTS.out.at htr
      have HT : Hid (some (⟨tb, to, none⟩ : Addr) = tA ∧ ∀ W, Below w.heap.size w W → W.cell? ⟨tb, to + i * 3, none⟩ = some (.bool tr.pick) ∧ W.cell? ⟨tb, to + i * 3 + 1, none⟩ = some (.int .i64 tr.worker) ∧ W.cell? ⟨tb, to + i * 3 + 2, none⟩ = some (.int .i64 tr.seq) ∧ tb < W.heap.size) := Lib.hid ⟨hA.symm, hat⟩
      have HOK := Lib.hid (HC.out.ok HCS.out goodT6 List.length_replicate (by have := HR.out.few; omega))
      rw [hA]
      clear hA hat htr
      obtain ⟨V0, hV0⟩ : ∃ V, V = (wr.alloc (.cells cwZ 34)).setRow wr.heap.size (cwA 6 0 hd0 zx) := ⟨_, rfl⟩
      have HV0 := Lib.hid hV0.symm
      have NV := Lib.hid (Bk.new wr 34 cwZ)
      have fV : Below wr.heap.size wr V0 := by rw [hV0]; exact fresh_crew wr _
      obtain ⟨gy, hgy⟩ : ∃ g, g = wr.heap.size := ⟨_, rfl⟩
      have HGY := Lib.hid hgy
      have hwy : w.heap.size ≤ gy := by rw [hgy]; exact HB.out.size
      have HWX := Lib.hid hz3
      have T0 : Hid (TwoC gx gy X X zx zx V0) := Lib.hid ⟨HI.out.below fV, HI.out.below fV, HK.out.below fV, by rw [hV0, hgy]; exact NV.out.setRow _, HO.out, by rw [hgy]; exact HI.out.off_ge (Nat.le_refl _), HO.out, by rw [hgy]; exact HI.out.off_ge (Nat.le_refl _), by rw [hgy]; exact Nat.ne_of_lt HK.out.lt⟩
      have B0 := Lib.hid (bnext HB.out fV)
      obtain ⟨y0, y1, y2, yl⟩ := HT.out.2 V0 B0.out
      clear hV0 fV hgy
      cases hpk : tr.pick with
      | true =>
        rw [hpk] at y0
        go_wp2_with (first
          | (with_reducible refine ld_cw gx HK.out _ rfl rfl rfl ?_)
          | (with_reducible refine st_cw wr.heap.size NV.out rfl 6 0 hd0 zx _ _ rfl rfl rfl rfl ?_; rw [HV0.out, ← HGY.out]))
        clear y0 y1 y2 yl
        obtain ⟨r, hr⟩ : ∃ r, r = (pickC X 3 tr.worker tr.seq).2 := ⟨_, rfl⟩
        obtain ⟨X2, hX2⟩ : ∃ X2, X2 = (pickC X 3 tr.worker tr.seq).1 := ⟨_, rfl⟩
        have HC2 : Hid (CInv (csOf l) b06 3 X2) := Lib.hid (by
          rw [hX2]
          by_cases h0 : (pickC X 3 tr.worker tr.seq).2 = 0
          · exact HC.out.pick HCS.out h0
          · rw [pick_no tr.worker tr.seq h0]
            exact HC.out)
        have HNO : Hid (r ≠ 0 → X2 = X) := Lib.hid (fun h0 => by rw [hr] at h0; rw [hX2]; exact pick_no tr.worker tr.seq h0)
        have hp1 : Hid (∀ W, CwIs 6 0 X W zx → Calls Tryz.prog 12 #[.agg (cwA 6 0 hd0 zx), .int .i64 3, .int .i64 tr.worker, .int .i64 tr.seq] W (CwErr 6 0 hd0 X2 zx r W)) := Lib.hid (fun W hz => by
          rw [hX2, hr]
          exact pick_all 6 0 hd0 X zx 3 tr.worker tr.seq W hz HOK.out HC.out.idle)
        have HOK2 := Lib.hid (HC2.out.ok HCS.out goodT6 List.length_replicate (by have := HR.out.few; omega))
        clear hr hX2
        try simp only [List.append_eq, List.cons_append, List.nil_append]
        refine wp_region_saysT 15 14 (fun x y => Below x.heap.size x y) (fun _ _ _ h k => bnext h k) V0 (below_drew1 V0) (by kernel_rfl) (by kernel_rfl) (by kernel_rfl) (by kernel_rfl) (by rfl) _ _ rfl rfl rfl (by kernel_rfl) rfl (by decide) (plain_extract rfl) (fun _ _ => rfl) ?_
        simp only [List.take_succ_cons, List.take_zero, List.drop_succ_cons, List.drop_zero]
        refine walkK_is (.agg (cwA 6 0 hd0 zx)) (by first | exact gs0 rfl | exact gs1 rfl rfl rfl) (fun _ => Below.refl _ _) (fun u X' hX hd => ?_) ?_
        · have hl := run_loadVar_row X' gx 34 34 _ (0, 0) _ (T0.out.kx.below hX) Tryz.underlying34 rfl infoCrw
          try simp at hd
          refine op_load_at 34 (gx) (0) hl _ rfl ?_
          go_simp
        apply walkK_norm
        · first | (simp only [List.nil_append]; rfl) | simp only [List.nil_append]
        refine walkK_is (.slice (some ⟨tb, to, none⟩) tn tc) (by first | exact gs0 rfl | exact gs1 rfl rfl rfl) (fun _ => Below.refl _ _) (fun u X' hX hd => ?_) ?_
        · obtain ⟨y0, y1, y2, yl⟩ := HT.out.2 X' (bnext B0.out hX)
          try simp at hd
          go_simp
          try rfl
        apply walkK_norm
        · first | (simp only [List.nil_append, List.cons_append]; rfl) | simp only [List.nil_append, List.cons_append]
        refine walkK_is (.int .i64 (i : Int)) (by first | exact gs0 rfl | exact gs1 rfl rfl rfl) (fun _ => Below.refl _ _) (fun u X' hX hd => ?_) ?_
        · obtain ⟨y0, y1, y2, yl⟩ := HT.out.2 X' (bnext B0.out hX)
          try simp at hd
          go_simp
          try rfl
        apply walkK_norm
        · first | (simp only [List.nil_append, List.cons_append]; rfl) | simp only [List.nil_append, List.cons_append]
        refine walkK_is (.pointer (some ⟨tb, to + i * 3, none⟩)) (by first | exact gs0 rfl | exact gs1 rfl rfl rfl) (fun _ => Below.refl _ _) (fun u X' hX hd => ?_) ?_
        · obtain ⟨y0, y1, y2, yl⟩ := HT.out.2 X' (bnext B0.out hX)
          try simp at hd
          go_simp
          try rfl
        apply walkK_norm
        · first | (simp only [List.nil_append, List.cons_append]; rfl) | simp only [List.nil_append, List.cons_append]
        refine walkK_is (.pointer (some ⟨tb, to + i * 3 + 1, none⟩)) (by first | exact gs0 rfl | exact gs1 rfl rfl rfl) (fun _ => Below.refl _ _) (fun u X' hX hd => ?_) ?_
        · obtain ⟨y0, y1, y2, yl⟩ := HT.out.2 X' (bnext B0.out hX)
          try simp at hd
          go_simp
          try rfl
        apply walkK_norm
        · first | (simp only [List.nil_append, List.cons_append]; rfl) | simp only [List.nil_append, List.cons_append]
        refine walkK_is (.int .i64 tr.worker) (by first | exact gs0 rfl | exact gs1 rfl rfl rfl) (fun _ => Below.refl _ _) (fun u X' hX hd => ?_) ?_
        · obtain ⟨y0, y1, y2, yl⟩ := HT.out.2 X' (bnext B0.out hX)
          try simp at hd
          go_simp
          try rfl
        apply walkK_norm
        · first | (simp only [List.nil_append, List.cons_append]; rfl) | simp only [List.nil_append, List.cons_append]
        refine walkK_is (.slice (some ⟨tb, to, none⟩) tn tc) (by first | exact gs0 rfl | exact gs1 rfl rfl rfl) (fun _ => Below.refl _ _) (fun u X' hX hd => ?_) ?_
        · obtain ⟨y0, y1, y2, yl⟩ := HT.out.2 X' (bnext B0.out hX)
          try simp at hd
          go_simp
          try rfl
        apply walkK_norm
        · first | (simp only [List.nil_append, List.cons_append]; rfl) | simp only [List.nil_append, List.cons_append]
        refine walkK_is (.int .i64 (i : Int)) (by first | exact gs0 rfl | exact gs1 rfl rfl rfl) (fun _ => Below.refl _ _) (fun u X' hX hd => ?_) ?_
        · obtain ⟨y0, y1, y2, yl⟩ := HT.out.2 X' (bnext B0.out hX)
          try simp at hd
          go_simp
          try rfl
        apply walkK_norm
        · first | (simp only [List.nil_append, List.cons_append]; rfl) | simp only [List.nil_append, List.cons_append]
        refine walkK_is (.pointer (some ⟨tb, to + i * 3, none⟩)) (by first | exact gs0 rfl | exact gs1 rfl rfl rfl) (fun _ => Below.refl _ _) (fun u X' hX hd => ?_) ?_
        · obtain ⟨y0, y1, y2, yl⟩ := HT.out.2 X' (bnext B0.out hX)
          try simp at hd
          go_simp
          try rfl
        apply walkK_norm
        · first | (simp only [List.nil_append, List.cons_append]; rfl) | simp only [List.nil_append, List.cons_append]
        refine walkK_is (.pointer (some ⟨tb, to + i * 3 + 2, none⟩)) (by first | exact gs0 rfl | exact gs1 rfl rfl rfl) (fun _ => Below.refl _ _) (fun u X' hX hd => ?_) ?_
        · obtain ⟨y0, y1, y2, yl⟩ := HT.out.2 X' (bnext B0.out hX)
          try simp at hd
          go_simp
          try rfl
        apply walkK_norm
        · first | (simp only [List.nil_append, List.cons_append]; rfl) | simp only [List.nil_append, List.cons_append]
        refine walkK_is (.int .i64 tr.seq) (by first | exact gs0 rfl | exact gs1 rfl rfl rfl) (fun _ => Below.refl _ _) (fun u X' hX hd => ?_) ?_
        · obtain ⟨y0, y1, y2, yl⟩ := HT.out.2 X' (bnext B0.out hX)
          try simp at hd
          go_simp
          try rfl
        apply walkK_norm
        · first | (simp only [List.nil_append, List.cons_append]; rfl) | simp only [List.nil_append, List.cons_append]
        refine walkK_call (errV 6 0 hd0 X2 zx V0.heap.size r) 12 ?_ (by first | exact gs0 rfl | exact gs1 rfl rfl rfl) (fun v x y hb h => errV_keep v x y hb h) (fun u X' hX hd => ?_) (fun X' hX => ?_) ?_
        rotate_left
        · obtain ⟨y0, y1, y2, yl⟩ := HT.out.2 X' (bnext B0.out hX)
          try simp at hd
          go_simp
          try rfl
        · exact (hp1.out X' (T0.out.ix.below hX)).mono fun _ _ h => h.says hX.size
        apply walkK_norm
        · first | (simp only [List.nil_append, List.cons_append]; rfl) | simp only [List.nil_append, List.cons_append]
        refine walkK_new (errV 6 0 hd0 X2 zx V0.heap.size r) (by first | exact gs0 rfl | exact gs1 rfl rfl rfl) (fun v x y hb h => errV_keep v x y hb h) (fun u X' hX hd => ?_) ?_
        · simp at hd
          refine ⟨u 11, X', ?_, Below.refl _ _, hd⟩
          go_simp
        apply walkK_norm
        · first | (simp only [List.nil_append, List.cons_append]; rfl) | simp only [List.nil_append, List.cons_append]
        refine walkK_new (cwV 6 0 hd0 X2 zx V0.heap.size) (by first | exact gs0 rfl | exact gs1 rfl rfl rfl) (fun v x y hb h => cwV_keep v x y hb h) (fun u X' hX hd => ?_) ?_
        · simp at hd
          obtain ⟨z1, hv, hI, ho⟩ := hd
          refine ⟨.agg (cwA 6 0 hd0 z1), X', ?_, Below.refl _ _, z1, rfl, hI, ho⟩
          go_simp
        apply walkK_norm
        · first | (simp only [List.nil_append, List.cons_append]; rfl) | simp only [List.nil_append, List.cons_append]
        refine walkK_is (.int .i64 r) (by first | exact gs0 rfl | exact gs1 rfl rfl rfl) (fun _ => Below.refl _ _) (fun u X' hX hd => ?_) ?_
        · simp at hd
          obtain ⟨z1, hv, hI, ho⟩ := hd
          go_simp
        refine walkK_last ?_
        intro u X' hX hsay
        have v0 := sayAll_put hsay 0 (.agg (cwA 6 0 hd0 zx)) rfl
        have vx : cwV 6 0 hd0 X2 zx V0.heap.size (u 13) X' := sayAll_get hsay (j := 13) (φ := cwV 6 0 hd0 X2 zx V0.heap.size) rfl
        have ve := sayAll_put hsay 14 (.int .i64 r) rfl
        clear hsay
        obtain ⟨z1, vx, hz1, ho1⟩ := vx
        refine ⟨_, exec_st_cw (n := 6) (no := 0) (H := hd0) (z := z1) gy (T0.out.ky.below hX) rfl _ _ rfl rfl (by simp [look, findAt, vx]), ?_⟩
        simp only [putAll, Act.put, v0, vx, ve, List.setIfInBounds_toArray, List.set_cons_succ, List.set_cons_zero, Nat.zero_add, Nat.reduceAdd]
        clear v0 vx ve
        obtain ⟨V1, hV1⟩ : ∃ V, V = X'.setRow gy (cwA 6 0 hd0 z1) := ⟨_, rfl⟩
        have T1 := Lib.hid (T0.out.sety hX hz1 ho1)
        have B1 : Hid (Below w.heap.size w V1) := Lib.hid (by rw [hV1]; exact below_row (bnext B0.out hX) hwy _)
        rw [← hV1] at T1 ⊢
        clear hV1 hz1 ho1 hX
        by_cases hr0 : r = 0
        · subst hr0
          go_wp2
          have hln := T1.out.iy.tk.lenL
          have htn1 : z1.tn ≤ z1.tc := by have := T1.out.iy.tk.sl.cap; rw [T1.out.iy.tk.len] at this; exact this
          have htn9 : z1.tn ≤ 900 := by have := HOK2.out.few; omega
          have HLN := Lib.hid hln
          obtain ⟨M, hM⟩ : ∃ M, M = z1.tn := ⟨_, rfl⟩
          obtain ⟨MC, hMC⟩ : ∃ M, M = z1.tc := ⟨_, rfl⟩
          have HM := Lib.hid hM
          have HMC := Lib.hid hMC
          rw [← hM, ← hMC] at htn1
          rw [← hM] at htn9
          clear hln hM hMC
          go_loopw [9] (fun cc wr => ∃ v : Nat, v ≤ 3 ∧ cc = .int .i64 v ∧ Hid (Below V1.heap.size V1 wr)) (fun cc _ => 3 - (intOf cc).toNat)
          case atStart => exact ⟨0, by omega, rfl, Lib.hid (Below.refl _ _)⟩
          case round =>
            obtain ⟨v, hv, rfl, HQ⟩ := hrel
            by_cases hv3 : v < 3
            · have d3 : (v : Int) < 3 := by omega
              go_wp2
              go_loopw [10, 11] (fun nn cc wq => ∃ j : Nat, j ≤ M ∧ nn = .int .i64 (cntW X2.tasks v j : Nat) ∧ cc = .int .i64 j ∧ Hid (Below V1.heap.size V1 wq)) (fun _ cc _ => M - (intOf cc).toNat)
              case atStart => exact ⟨0, Nat.zero_le _, rfl, rfl, HQ⟩
              case round =>
                clear HQ
                obtain ⟨j, hj, rfl, rfl, HQ⟩ := hrel
                obtain ⟨-, -, p2, -, pl, -⟩ := (T1.out.ky.below HQ.out).crew
                rw [← HM.out, ← HMC.out] at p2
                have hc1 := cntW_one HC2.out.one (by omega : (0 : Int) ≤ (v : Int)) j
                by_cases hjn : j < M
                · have d4 : (j : Int) < (M : Int) := by omega
                  have d5 : (j : Int) < (MC : Int) := by omega
                  have hjl : j < X2.tasks.length := by rw [HLN.out, ← HM.out]; exact hjn
                  obtain ⟨t, ht, hts, -, -⟩ := tk_is T1.out.iy.tk hjl
                  obtain ⟨tb1, to1, hA1, hat1⟩ := T1.out.iy.tk.sl.lies ht
                  have hcl := hat1 wr (HQ.out)
                  have y17 := hcl.wk
                  have hbl := hcl.lt
                  have HMA := Lib.hid hcl.mac
                  have hnx := cntW_next (v := (v : Int)) (tskAt_lt hjl)
                  have hwk : (tskAt X2.tasks j).worker = t.wk := by rw [← hts]; rfl
                  rw [hwk] at hnx
                  have HBZ : Hid (0 ≤ t.wk → ¬ (t.m.pc = 0 ∧ t.m.fuel = 0)) := Lib.hid (fun h0 => by
                    have := HC2.out.busy HCS.out goodT6 (List.mem_of_getElem? (tskAt_lt hjl)) (by rw [hwk]; exact h0)
                    rw [← hts] at this
                    exact this)
                  rw [hA1] at p2
                  obtain ⟨q0, hq0⟩ : ∃ q, q = cntW X2.tasks (v : Int) j := ⟨_, rfl⟩
                  rw [← hq0] at hnx hc1 ⊢
                  have HNX := Lib.hid hnx
                  clear hjl ht hts hat1 hcl hnx hwk hA1 hq0
                  by_cases hwv : t.wk = (v : Int)
                  · have HNX2 : Hid (cntW X2.tasks (v : Int) (j + 1) = q0 + 1) := Lib.hid (by rw [HNX.out, if_pos hwv])
                    have hsm := Lib.hid (fun W => rsameMc_no t.m.pc t.m.fuel (rg t.m.regs 0) (rg t.m.regs 1) (rg t.m.regs 2) (rg t.m.regs 3) t.m.over t.m.told t.sA t.sn t.sc t.oA t.on t.oc W (HBZ.out (by omega)))
                    rw [hwv] at y17
                    have d6 : (0 : Int) ≤ (v : Int) := by omega
                    clear hwv
                    obtain ⟨m0, m1, m2, m3, m4, m5, m6, m7, m8, m9⟩ := mac_cells HMA.out
                    go_wp2_with (first
                      | (go_at_call 23; go_must ((with_reducible refine (hsm.out _).mono ?_); rintro e w7 ⟨rfl, hb7⟩; have B7 := Lib.hid (bnext HQ.out hb7); clear hb7)))
                    go_roundw
                    case rel => exact ⟨j + 1, by omega, by rw [HNX2.out]; rfl, by go_num, B7⟩
                    case measure => simp [intOf]; omega
                  · have HNX2 : Hid (cntW X2.tasks (v : Int) (j + 1) = q0) := Lib.hid (by rw [HNX.out, if_neg hwv]; rfl)
                    have HWV := Lib.hid hwv
                    by_cases hw0 : 0 ≤ t.wk
                    · have hsm := Lib.hid (fun W => rsameMc_no t.m.pc t.m.fuel (rg t.m.regs 0) (rg t.m.regs 1) (rg t.m.regs 2) (rg t.m.regs 3) t.m.over t.m.told t.sA t.sn t.sc t.oA t.on t.oc W (HBZ.out hw0))
                      obtain ⟨m0, m1, m2, m3, m4, m5, m6, m7, m8, m9⟩ := mac_cells HMA.out
                      go_wp2_with (first
                        | (go_at_call 23; go_must ((with_reducible refine (hsm.out _).mono ?_); rintro e w7 ⟨rfl, hb7⟩; have B7 := Lib.hid (bnext HQ.out hb7); clear hb7)))
                      go_roundw
                      case rel => exact ⟨j + 1, by omega, by rw [HNX2.out], by go_num, B7⟩
                      case measure => simp [intOf]; omega
                    · go_wp2
                      go_roundw
                      case rel => exact ⟨j + 1, by omega, by rw [HNX2.out], by go_num, HQ⟩
                      case measure => simp [intOf]; omega
                · obtain rfl : j = M := by omega
                  have d4 : ¬ (j : Int) < (j : Int) := by omega
                  obtain ⟨q0, hq0⟩ : ∃ q, q = cntW X2.tasks (v : Int) j := ⟨_, rfl⟩
                  rw [← hq0] at hc1 ⊢
                  clear hq0
                  have d6 : ¬ (1 : Int) < (q0 : Int) := by omega
                  go_wp2
                  go_roundw
                  case rel => exact ⟨v + 1, by omega, by go_num, HQ⟩
                  case measure => simp [intOf]; omega
            · obtain rfl : v = 3 := by omega
              have d3 : ¬ ((3 : Nat) : Int) < 3 := by decide
              have T8 := Lib.hid (T1.out.below HQ.out)
              have B8 := Lib.hid (bnext B1.out HQ.out)
              obtain ⟨V8, hV8⟩ : ∃ W, W = wr.setRow gx (cwA 6 0 hd0 z1) := ⟨_, rfl⟩
              have HV8 := Lib.hid hV8.symm
              have I9 : Hid (CwIs 6 0 X2 V8 z1) := Lib.hid (by rw [hV8]; exact T8.out.iy.keep T8.out.xy (OneOff.setRow wr gx _) T8.out.kx (by decide) (by decide))
              have K9 : Hid (Bk V8 gx 34 (cwA 6 0 hd0 z1)) := Lib.hid (by rw [hV8]; exact Bk.setRow T8.out.kx _)
              have O9 := Lib.hid T8.out.xy
              have B9 : Hid (Below w.heap.size w V8) := Lib.hid (by rw [hV8]; exact below_row B8.out HWX.out _)
              clear hV8
              go_wp2_with (first
                | (with_reducible refine ld_cw gy T8.out.ky _ rfl rfl rfl ?_)
                | (with_reducible refine st_cw gx T8.out.kx rfl 6 0 hd0 z1 _ _ rfl rfl rfl rfl ?_; rw [HV8.out]))
              go_roundw
              case rel => exact ⟨i + 1, X2, z1, by omega, by go_num, HC2, I9, K9, O9, B9⟩
              case measure => simp [intOf]; omega
        · have hx2 := HNO.out hr0
          have hr1 : (r == 0) = false := beq_eq_false_iff_ne.2 hr0
          have hr2 : decide (r = 0) = false := decide_eq_false hr0
          have hr3 : (!(r == 0)) = true := by rw [hr1]; rfl
          have hr4 : (r != 0) = true := hr3
          have hsm : Hid (Calls Tryz.prog 11 #[.agg (cwA 6 0 hd0 zx), .agg (cwA 6 0 hd0 z1)] V1 fun e w' => e = .returned (.bool true) ∧ Below V1.heap.size V1 w') := Lib.hid (sameCw_yes 6 0 hd0 X zx z1 V1 T1.out.ix (by have := T1.out.iy; rwa [hx2] at this) (by decide) (by decide) (by have := HOK.out.few; omega) (by have := HOK.out.many; omega) HOK.out.outs)
          go_wp2_with (first
            | (refine ld_cwG gx T1.out.kx _ rfl rfl (by rfl) ?_)
            | (refine ld_cwG gy T1.out.ky _ rfl rfl (by rfl) ?_)
            | (go_at_call 11; go_must ((with_reducible refine hsm.out.mono ?_); rintro e w6 ⟨rfl, hb6⟩; have T6 := Lib.hid (T1.out.below hb6); have B6 := Lib.hid (bnext B1.out hb6); clear hb6)))
          have hln := T6.out.iy.tk.lenL
          have htn1 : z1.tn ≤ z1.tc := by have := T6.out.iy.tk.sl.cap; rw [T6.out.iy.tk.len] at this; exact this
          have htn9 : z1.tn ≤ 900 := by have := HOK2.out.few; omega
          have HLN := Lib.hid hln
          obtain ⟨M, hM⟩ : ∃ M, M = z1.tn := ⟨_, rfl⟩
          obtain ⟨MC, hMC⟩ : ∃ M, M = z1.tc := ⟨_, rfl⟩
          have HM := Lib.hid hM
          have HMC := Lib.hid hMC
          rw [← hM, ← hMC] at htn1
          rw [← hM] at htn9
          clear hln hM hMC
          go_loopw [9] (fun cc wr => ∃ v : Nat, v ≤ 3 ∧ cc = .int .i64 v ∧ Hid (Below w6.heap.size w6 wr)) (fun cc _ => 3 - (intOf cc).toNat)
          case atStart => exact ⟨0, by omega, rfl, Lib.hid (Below.refl _ _)⟩
          case round =>
            obtain ⟨v, hv, rfl, HQ⟩ := hrel
            by_cases hv3 : v < 3
            · have d3 : (v : Int) < 3 := by omega
              go_wp2
              go_loopw [10, 11] (fun nn cc wq => ∃ j : Nat, j ≤ M ∧ nn = .int .i64 (cntW X2.tasks v j : Nat) ∧ cc = .int .i64 j ∧ Hid (Below w6.heap.size w6 wq)) (fun _ cc _ => M - (intOf cc).toNat)
              case atStart => exact ⟨0, Nat.zero_le _, rfl, rfl, HQ⟩
              case round =>
                clear HQ
                obtain ⟨j, hj, rfl, rfl, HQ⟩ := hrel
                obtain ⟨-, -, p2, -, pl, -⟩ := (T6.out.ky.below HQ.out).crew
                rw [← HM.out, ← HMC.out] at p2
                have hc1 := cntW_one HC2.out.one (by omega : (0 : Int) ≤ (v : Int)) j
                by_cases hjn : j < M
                · have d4 : (j : Int) < (M : Int) := by omega
                  have d5 : (j : Int) < (MC : Int) := by omega
                  have hjl : j < X2.tasks.length := by rw [HLN.out, ← HM.out]; exact hjn
                  obtain ⟨t, ht, hts, -, -⟩ := tk_is T6.out.iy.tk hjl
                  obtain ⟨tb1, to1, hA1, hat1⟩ := T6.out.iy.tk.sl.lies ht
                  have hcl := hat1 wr (HQ.out)
                  have y17 := hcl.wk
                  have hbl := hcl.lt
                  have HMA := Lib.hid hcl.mac
                  have hnx := cntW_next (v := (v : Int)) (tskAt_lt hjl)
                  have hwk : (tskAt X2.tasks j).worker = t.wk := by rw [← hts]; rfl
                  rw [hwk] at hnx
                  have HBZ : Hid (0 ≤ t.wk → ¬ (t.m.pc = 0 ∧ t.m.fuel = 0)) := Lib.hid (fun h0 => by
                    have := HC2.out.busy HCS.out goodT6 (List.mem_of_getElem? (tskAt_lt hjl)) (by rw [hwk]; exact h0)
                    rw [← hts] at this
                    exact this)
                  rw [hA1] at p2
                  obtain ⟨q0, hq0⟩ : ∃ q, q = cntW X2.tasks (v : Int) j := ⟨_, rfl⟩
                  rw [← hq0] at hnx hc1 ⊢
                  have HNX := Lib.hid hnx
                  clear hjl ht hts hat1 hcl hnx hwk hA1 hq0
                  by_cases hwv : t.wk = (v : Int)
                  · have HNX2 : Hid (cntW X2.tasks (v : Int) (j + 1) = q0 + 1) := Lib.hid (by rw [HNX.out, if_pos hwv])
                    have hsm := Lib.hid (fun W => rsameMc_no t.m.pc t.m.fuel (rg t.m.regs 0) (rg t.m.regs 1) (rg t.m.regs 2) (rg t.m.regs 3) t.m.over t.m.told t.sA t.sn t.sc t.oA t.on t.oc W (HBZ.out (by omega)))
                    rw [hwv] at y17
                    have d6 : (0 : Int) ≤ (v : Int) := by omega
                    clear hwv
                    obtain ⟨m0, m1, m2, m3, m4, m5, m6, m7, m8, m9⟩ := mac_cells HMA.out
                    go_wp2_with (first
                      | (go_at_call 23; go_must ((with_reducible refine (hsm.out _).mono ?_); rintro e w7 ⟨rfl, hb7⟩; have B7 := Lib.hid (bnext HQ.out hb7); clear hb7)))
                    go_roundw
                    case rel => exact ⟨j + 1, by omega, by rw [HNX2.out]; rfl, by go_num, B7⟩
                    case measure => simp [intOf]; omega
                  · have HNX2 : Hid (cntW X2.tasks (v : Int) (j + 1) = q0) := Lib.hid (by rw [HNX.out, if_neg hwv]; rfl)
                    have HWV := Lib.hid hwv
                    by_cases hw0 : 0 ≤ t.wk
                    · have hsm := Lib.hid (fun W => rsameMc_no t.m.pc t.m.fuel (rg t.m.regs 0) (rg t.m.regs 1) (rg t.m.regs 2) (rg t.m.regs 3) t.m.over t.m.told t.sA t.sn t.sc t.oA t.on t.oc W (HBZ.out hw0))
                      obtain ⟨m0, m1, m2, m3, m4, m5, m6, m7, m8, m9⟩ := mac_cells HMA.out
                      go_wp2_with (first
                        | (go_at_call 23; go_must ((with_reducible refine (hsm.out _).mono ?_); rintro e w7 ⟨rfl, hb7⟩; have B7 := Lib.hid (bnext HQ.out hb7); clear hb7)))
                      go_roundw
                      case rel => exact ⟨j + 1, by omega, by rw [HNX2.out], by go_num, B7⟩
                      case measure => simp [intOf]; omega
                    · go_wp2
                      go_roundw
                      case rel => exact ⟨j + 1, by omega, by rw [HNX2.out], by go_num, HQ⟩
                      case measure => simp [intOf]; omega
                · obtain rfl : j = M := by omega
                  have d4 : ¬ (j : Int) < (j : Int) := by omega
                  obtain ⟨q0, hq0⟩ : ∃ q, q = cntW X2.tasks (v : Int) j := ⟨_, rfl⟩
                  rw [← hq0] at hc1 ⊢
                  clear hq0
                  have d6 : ¬ (1 : Int) < (q0 : Int) := by omega
                  go_wp2
                  go_roundw
                  case rel => exact ⟨v + 1, by omega, by go_num, HQ⟩
                  case measure => simp [intOf]; omega
            · obtain rfl : v = 3 := by omega
              have d3 : ¬ ((3 : Nat) : Int) < 3 := by decide
              have T8 := Lib.hid (T6.out.below HQ.out)
              have B8 := Lib.hid (bnext B6.out HQ.out)
              obtain ⟨V8, hV8⟩ : ∃ W, W = wr.setRow gx (cwA 6 0 hd0 z1) := ⟨_, rfl⟩
              have HV8 := Lib.hid hV8.symm
              have I9 : Hid (CwIs 6 0 X2 V8 z1) := Lib.hid (by rw [hV8]; exact T8.out.iy.keep T8.out.xy (OneOff.setRow wr gx _) T8.out.kx (by decide) (by decide))
              have K9 : Hid (Bk V8 gx 34 (cwA 6 0 hd0 z1)) := Lib.hid (by rw [hV8]; exact Bk.setRow T8.out.kx _)
              have O9 := Lib.hid T8.out.xy
              have B9 : Hid (Below w.heap.size w V8) := Lib.hid (by rw [hV8]; exact below_row B8.out HWX.out _)
              clear hV8
              go_wp2_with (first
                | (with_reducible refine ld_cw gy T8.out.ky _ rfl rfl rfl ?_)
                | (with_reducible refine st_cw gx T8.out.kx rfl 6 0 hd0 z1 _ _ rfl rfl rfl rfl ?_; rw [HV8.out]))
              go_roundw
              case rel => exact ⟨i + 1, X2, z1, by omega, by go_num, HC2, I9, K9, O9, B9⟩
              case measure => simp [intOf]; omega
      | false =>
        rw [hpk] at y0
        go_wp2_with (first
          | (with_reducible refine ld_cw gx HK.out _ rfl rfl rfl ?_)
          | (with_reducible refine st_cw wr.heap.size NV.out rfl 6 0 hd0 zx _ _ rfl rfl rfl rfl ?_; rw [HV0.out, ← HGY.out]))
        clear y0 y1 y2 yl
        obtain ⟨r, hr⟩ : ∃ r, r = (stepC X 3 tr.worker).2 := ⟨_, rfl⟩
        obtain ⟨X2, hX2⟩ : ∃ X2, X2 = (stepC X 3 tr.worker).1 := ⟨_, rfl⟩
        have HC2 : Hid (CInv (csOf l) b06 3 X2) := Lib.hid (by
          rw [hX2]
          by_cases h0 : (stepC X 3 tr.worker).2 = 0
          · exact HC.out.step HCS.out goodT6 h0
          · rw [step_no tr.worker h0]
            exact HC.out)
        have HNO : Hid (r ≠ 0 → X2 = X) := Lib.hid (fun h0 => by rw [hr] at h0; rw [hX2]; exact step_no tr.worker h0)
        have hp1 : Hid (∀ W, CwIs 6 0 X W zx → Calls Tryz.prog 14 #[.agg (cwA 6 0 hd0 zx), .int .i64 3, .int .i64 tr.worker] W (CwErr 6 0 hd0 X2 zx r W)) := Lib.hid (fun W hz => by
          rw [hX2, hr]
          exact step_all 6 0 hd0 X zx 3 tr.worker W hz HOK.out (by decide) (by decide))
        have HOK2 := Lib.hid (HC2.out.ok HCS.out goodT6 List.length_replicate (by have := HR.out.few; omega))
        clear hr hX2
        try simp only [List.append_eq, List.cons_append, List.nil_append]
        refine wp_region_saysT 10 9 (fun x y => Below x.heap.size x y) (fun _ _ _ h k => bnext h k) V0 (below_drew1 V0) (by kernel_rfl) (by kernel_rfl) (by kernel_rfl) (by kernel_rfl) (by rfl) _ _ rfl rfl rfl (by kernel_rfl) rfl (by decide) (plain_extract rfl) (fun _ _ => rfl) ?_
        simp only [List.take_succ_cons, List.take_zero, List.drop_succ_cons, List.drop_zero]
        refine walkK_is (.agg (cwA 6 0 hd0 zx)) (by first | exact gs0 rfl | exact gs1 rfl rfl rfl) (fun _ => Below.refl _ _) (fun u X' hX hd => ?_) ?_
        · have hl := run_loadVar_row X' gx 34 34 _ (0, 0) _ (T0.out.kx.below hX) Tryz.underlying34 rfl infoCrw
          try simp at hd
          refine op_load_at 34 (gx) (0) hl _ rfl ?_
          go_simp
        apply walkK_norm
        · first | (simp only [List.nil_append]; rfl) | simp only [List.nil_append]
        refine walkK_is (.slice (some ⟨tb, to, none⟩) tn tc) (by first | exact gs0 rfl | exact gs1 rfl rfl rfl) (fun _ => Below.refl _ _) (fun u X' hX hd => ?_) ?_
        · obtain ⟨y0, y1, y2, yl⟩ := HT.out.2 X' (bnext B0.out hX)
          try simp at hd
          go_simp
          try rfl
        apply walkK_norm
        · first | (simp only [List.nil_append, List.cons_append]; rfl) | simp only [List.nil_append, List.cons_append]
        refine walkK_is (.int .i64 (i : Int)) (by first | exact gs0 rfl | exact gs1 rfl rfl rfl) (fun _ => Below.refl _ _) (fun u X' hX hd => ?_) ?_
        · obtain ⟨y0, y1, y2, yl⟩ := HT.out.2 X' (bnext B0.out hX)
          try simp at hd
          go_simp
          try rfl
        apply walkK_norm
        · first | (simp only [List.nil_append, List.cons_append]; rfl) | simp only [List.nil_append, List.cons_append]
        refine walkK_is (.pointer (some ⟨tb, to + i * 3, none⟩)) (by first | exact gs0 rfl | exact gs1 rfl rfl rfl) (fun _ => Below.refl _ _) (fun u X' hX hd => ?_) ?_
        · obtain ⟨y0, y1, y2, yl⟩ := HT.out.2 X' (bnext B0.out hX)
          try simp at hd
          go_simp
          try rfl
        apply walkK_norm
        · first | (simp only [List.nil_append, List.cons_append]; rfl) | simp only [List.nil_append, List.cons_append]
        refine walkK_is (.pointer (some ⟨tb, to + i * 3 + 1, none⟩)) (by first | exact gs0 rfl | exact gs1 rfl rfl rfl) (fun _ => Below.refl _ _) (fun u X' hX hd => ?_) ?_
        · obtain ⟨y0, y1, y2, yl⟩ := HT.out.2 X' (bnext B0.out hX)
          try simp at hd
          go_simp
          try rfl
        apply walkK_norm
        · first | (simp only [List.nil_append, List.cons_append]; rfl) | simp only [List.nil_append, List.cons_append]
        refine walkK_is (.int .i64 tr.worker) (by first | exact gs0 rfl | exact gs1 rfl rfl rfl) (fun _ => Below.refl _ _) (fun u X' hX hd => ?_) ?_
        · obtain ⟨y0, y1, y2, yl⟩ := HT.out.2 X' (bnext B0.out hX)
          try simp at hd
          go_simp
          try rfl
        apply walkK_norm
        · first | (simp only [List.nil_append, List.cons_append]; rfl) | simp only [List.nil_append, List.cons_append]
        refine walkK_call (errV 6 0 hd0 X2 zx V0.heap.size r) 14 ?_ (by first | exact gs0 rfl | exact gs1 rfl rfl rfl) (fun v x y hb h => errV_keep v x y hb h) (fun u X' hX hd => ?_) (fun X' hX => ?_) ?_
        rotate_left
        · obtain ⟨y0, y1, y2, yl⟩ := HT.out.2 X' (bnext B0.out hX)
          try simp at hd
          go_simp
          try rfl
        · exact (hp1.out X' (T0.out.ix.below hX)).mono fun _ _ h => h.says hX.size
        apply walkK_norm
        · first | (simp only [List.nil_append, List.cons_append]; rfl) | simp only [List.nil_append, List.cons_append]
        refine walkK_new (errV 6 0 hd0 X2 zx V0.heap.size r) (by first | exact gs0 rfl | exact gs1 rfl rfl rfl) (fun v x y hb h => errV_keep v x y hb h) (fun u X' hX hd => ?_) ?_
        · simp at hd
          refine ⟨u 6, X', ?_, Below.refl _ _, hd⟩
          go_simp
        apply walkK_norm
        · first | (simp only [List.nil_append, List.cons_append]; rfl) | simp only [List.nil_append, List.cons_append]
        refine walkK_new (cwV 6 0 hd0 X2 zx V0.heap.size) (by first | exact gs0 rfl | exact gs1 rfl rfl rfl) (fun v x y hb h => cwV_keep v x y hb h) (fun u X' hX hd => ?_) ?_
        · simp at hd
          obtain ⟨z1, hv, hI, ho⟩ := hd
          refine ⟨.agg (cwA 6 0 hd0 z1), X', ?_, Below.refl _ _, z1, rfl, hI, ho⟩
          go_simp
        apply walkK_norm
        · first | (simp only [List.nil_append, List.cons_append]; rfl) | simp only [List.nil_append, List.cons_append]
        refine walkK_is (.int .i64 r) (by first | exact gs0 rfl | exact gs1 rfl rfl rfl) (fun _ => Below.refl _ _) (fun u X' hX hd => ?_) ?_
        · simp at hd
          obtain ⟨z1, hv, hI, ho⟩ := hd
          go_simp
        refine walkK_last ?_
        intro u X' hX hsay
        have v0 := sayAll_put hsay 0 (.agg (cwA 6 0 hd0 zx)) rfl
        have vx : cwV 6 0 hd0 X2 zx V0.heap.size (u 8) X' := sayAll_get hsay (j := 8) (φ := cwV 6 0 hd0 X2 zx V0.heap.size) rfl
        have ve := sayAll_put hsay 9 (.int .i64 r) rfl
        clear hsay
        obtain ⟨z1, vx, hz1, ho1⟩ := vx
        refine ⟨_, exec_st_cw (n := 6) (no := 0) (H := hd0) (z := z1) gy (T0.out.ky.below hX) rfl _ _ rfl rfl (by simp [look, findAt, vx]), ?_⟩
        simp only [putAll, Act.put, v0, vx, ve, List.setIfInBounds_toArray, List.set_cons_succ, List.set_cons_zero, Nat.zero_add, Nat.reduceAdd]
        clear v0 vx ve
        obtain ⟨V1, hV1⟩ : ∃ V, V = X'.setRow gy (cwA 6 0 hd0 z1) := ⟨_, rfl⟩
        have T1 := Lib.hid (T0.out.sety hX hz1 ho1)
        have B1 : Hid (Below w.heap.size w V1) := Lib.hid (by rw [hV1]; exact below_row (bnext B0.out hX) hwy _)
        rw [← hV1] at T1 ⊢
        clear hV1 hz1 ho1 hX
        by_cases hr0 : r = 0
        · subst hr0
          go_wp2
          have hln := T1.out.iy.tk.lenL
          have htn1 : z1.tn ≤ z1.tc := by have := T1.out.iy.tk.sl.cap; rw [T1.out.iy.tk.len] at this; exact this
          have htn9 : z1.tn ≤ 900 := by have := HOK2.out.few; omega
          have HLN := Lib.hid hln
          obtain ⟨M, hM⟩ : ∃ M, M = z1.tn := ⟨_, rfl⟩
          obtain ⟨MC, hMC⟩ : ∃ M, M = z1.tc := ⟨_, rfl⟩
          have HM := Lib.hid hM
          have HMC := Lib.hid hMC
          rw [← hM, ← hMC] at htn1
          rw [← hM] at htn9
          clear hln hM hMC
          go_loopw [9] (fun cc wr => ∃ v : Nat, v ≤ 3 ∧ cc = .int .i64 v ∧ Hid (Below V1.heap.size V1 wr)) (fun cc _ => 3 - (intOf cc).toNat)
          case atStart => exact ⟨0, by omega, rfl, Lib.hid (Below.refl _ _)⟩
          case round =>
            obtain ⟨v, hv, rfl, HQ⟩ := hrel
            by_cases hv3 : v < 3
            · have d3 : (v : Int) < 3 := by omega
              go_wp2
              go_loopw [10, 11] (fun nn cc wq => ∃ j : Nat, j ≤ M ∧ nn = .int .i64 (cntW X2.tasks v j : Nat) ∧ cc = .int .i64 j ∧ Hid (Below V1.heap.size V1 wq)) (fun _ cc _ => M - (intOf cc).toNat)
              case atStart => exact ⟨0, Nat.zero_le _, rfl, rfl, HQ⟩
              case round =>
                clear HQ
                obtain ⟨j, hj, rfl, rfl, HQ⟩ := hrel
                obtain ⟨-, -, p2, -, pl, -⟩ := (T1.out.ky.below HQ.out).crew
                rw [← HM.out, ← HMC.out] at p2
                have hc1 := cntW_one HC2.out.one (by omega : (0 : Int) ≤ (v : Int)) j
                by_cases hjn : j < M
                · have d4 : (j : Int) < (M : Int) := by omega
                  have d5 : (j : Int) < (MC : Int) := by omega
                  have hjl : j < X2.tasks.length := by rw [HLN.out, ← HM.out]; exact hjn
                  obtain ⟨t, ht, hts, -, -⟩ := tk_is T1.out.iy.tk hjl
                  obtain ⟨tb1, to1, hA1, hat1⟩ := T1.out.iy.tk.sl.lies ht
                  have hcl := hat1 wr (HQ.out)
                  have y17 := hcl.wk
                  have hbl := hcl.lt
                  have HMA := Lib.hid hcl.mac
                  have hnx := cntW_next (v := (v : Int)) (tskAt_lt hjl)
                  have hwk : (tskAt X2.tasks j).worker = t.wk := by rw [← hts]; rfl
                  rw [hwk] at hnx
                  have HBZ : Hid (0 ≤ t.wk → ¬ (t.m.pc = 0 ∧ t.m.fuel = 0)) := Lib.hid (fun h0 => by
                    have := HC2.out.busy HCS.out goodT6 (List.mem_of_getElem? (tskAt_lt hjl)) (by rw [hwk]; exact h0)
                    rw [← hts] at this
                    exact this)
                  rw [hA1] at p2
                  obtain ⟨q0, hq0⟩ : ∃ q, q = cntW X2.tasks (v : Int) j := ⟨_, rfl⟩
                  rw [← hq0] at hnx hc1 ⊢
                  have HNX := Lib.hid hnx
                  clear hjl ht hts hat1 hcl hnx hwk hA1 hq0
                  by_cases hwv : t.wk = (v : Int)
                  · have HNX2 : Hid (cntW X2.tasks (v : Int) (j + 1) = q0 + 1) := Lib.hid (by rw [HNX.out, if_pos hwv])
                    have hsm := Lib.hid (fun W => rsameMc_no t.m.pc t.m.fuel (rg t.m.regs 0) (rg t.m.regs 1) (rg t.m.regs 2) (rg t.m.regs 3) t.m.over t.m.told t.sA t.sn t.sc t.oA t.on t.oc W (HBZ.out (by omega)))
                    rw [hwv] at y17
                    have d6 : (0 : Int) ≤ (v : Int) := by omega
                    clear hwv
                    obtain ⟨m0, m1, m2, m3, m4, m5, m6, m7, m8, m9⟩ := mac_cells HMA.out
                    go_wp2_with (first
                      | (go_at_call 23; go_must ((with_reducible refine (hsm.out _).mono ?_); rintro e w7 ⟨rfl, hb7⟩; have B7 := Lib.hid (bnext HQ.out hb7); clear hb7)))
                    go_roundw
                    case rel => exact ⟨j + 1, by omega, by rw [HNX2.out]; rfl, by go_num, B7⟩
                    case measure => simp [intOf]; omega
                  · have HNX2 : Hid (cntW X2.tasks (v : Int) (j + 1) = q0) := Lib.hid (by rw [HNX.out, if_neg hwv]; rfl)
                    have HWV := Lib.hid hwv
                    by_cases hw0 : 0 ≤ t.wk
                    · have hsm := Lib.hid (fun W => rsameMc_no t.m.pc t.m.fuel (rg t.m.regs 0) (rg t.m.regs 1) (rg t.m.regs 2) (rg t.m.regs 3) t.m.over t.m.told t.sA t.sn t.sc t.oA t.on t.oc W (HBZ.out hw0))
                      obtain ⟨m0, m1, m2, m3, m4, m5, m6, m7, m8, m9⟩ := mac_cells HMA.out
                      go_wp2_with (first
                        | (go_at_call 23; go_must ((with_reducible refine (hsm.out _).mono ?_); rintro e w7 ⟨rfl, hb7⟩; have B7 := Lib.hid (bnext HQ.out hb7); clear hb7)))
                      go_roundw
                      case rel => exact ⟨j + 1, by omega, by rw [HNX2.out], by go_num, B7⟩
                      case measure => simp [intOf]; omega
                    · go_wp2
                      go_roundw
                      case rel => exact ⟨j + 1, by omega, by rw [HNX2.out], by go_num, HQ⟩
                      case measure => simp [intOf]; omega
                · obtain rfl : j = M := by omega
                  have d4 : ¬ (j : Int) < (j : Int) := by omega
                  obtain ⟨q0, hq0⟩ : ∃ q, q = cntW X2.tasks (v : Int) j := ⟨_, rfl⟩
                  rw [← hq0] at hc1 ⊢
                  clear hq0
                  have d6 : ¬ (1 : Int) < (q0 : Int) := by omega
                  go_wp2
                  go_roundw
                  case rel => exact ⟨v + 1, by omega, by go_num, HQ⟩
                  case measure => simp [intOf]; omega
            · obtain rfl : v = 3 := by omega
              have d3 : ¬ ((3 : Nat) : Int) < 3 := by decide
              have T8 := Lib.hid (T1.out.below HQ.out)
              have B8 := Lib.hid (bnext B1.out HQ.out)
              obtain ⟨V8, hV8⟩ : ∃ W, W = wr.setRow gx (cwA 6 0 hd0 z1) := ⟨_, rfl⟩
              have HV8 := Lib.hid hV8.symm
              have I9 : Hid (CwIs 6 0 X2 V8 z1) := Lib.hid (by rw [hV8]; exact T8.out.iy.keep T8.out.xy (OneOff.setRow wr gx _) T8.out.kx (by decide) (by decide))
              have K9 : Hid (Bk V8 gx 34 (cwA 6 0 hd0 z1)) := Lib.hid (by rw [hV8]; exact Bk.setRow T8.out.kx _)
              have O9 := Lib.hid T8.out.xy
              have B9 : Hid (Below w.heap.size w V8) := Lib.hid (by rw [hV8]; exact below_row B8.out HWX.out _)
              clear hV8
              go_wp2_with (first
                | (with_reducible refine ld_cw gy T8.out.ky _ rfl rfl rfl ?_)
                | (with_reducible refine st_cw gx T8.out.kx rfl 6 0 hd0 z1 _ _ rfl rfl rfl rfl ?_; rw [HV8.out]))
              go_roundw
              case rel => exact ⟨i + 1, X2, z1, by omega, by go_num, HC2, I9, K9, O9, B9⟩
              case measure => simp [intOf]; omega
        · have hx2 := HNO.out hr0
          have hr1 : (r == 0) = false := beq_eq_false_iff_ne.2 hr0
          have hr2 : decide (r = 0) = false := decide_eq_false hr0
          have hr3 : (!(r == 0)) = true := by rw [hr1]; rfl
          have hr4 : (r != 0) = true := hr3
          have hsm : Hid (Calls Tryz.prog 11 #[.agg (cwA 6 0 hd0 zx), .agg (cwA 6 0 hd0 z1)] V1 fun e w' => e = .returned (.bool true) ∧ Below V1.heap.size V1 w') := Lib.hid (sameCw_yes 6 0 hd0 X zx z1 V1 T1.out.ix (by have := T1.out.iy; rwa [hx2] at this) (by decide) (by decide) (by have := HOK.out.few; omega) (by have := HOK.out.many; omega) HOK.out.outs)
          go_wp2_with (first
            | (refine ld_cwG gx T1.out.kx _ rfl rfl (by rfl) ?_)
            | (refine ld_cwG gy T1.out.ky _ rfl rfl (by rfl) ?_)
            | (go_at_call 11; go_must ((with_reducible refine hsm.out.mono ?_); rintro e w6 ⟨rfl, hb6⟩; have T6 := Lib.hid (T1.out.below hb6); have B6 := Lib.hid (bnext B1.out hb6); clear hb6)))
          have hln := T6.out.iy.tk.lenL
          have htn1 : z1.tn ≤ z1.tc := by have := T6.out.iy.tk.sl.cap; rw [T6.out.iy.tk.len] at this; exact this
          have htn9 : z1.tn ≤ 900 := by have := HOK2.out.few; omega
          have HLN := Lib.hid hln
          obtain ⟨M, hM⟩ : ∃ M, M = z1.tn := ⟨_, rfl⟩
          obtain ⟨MC, hMC⟩ : ∃ M, M = z1.tc := ⟨_, rfl⟩
          have HM := Lib.hid hM
          have HMC := Lib.hid hMC
          rw [← hM, ← hMC] at htn1
          rw [← hM] at htn9
          clear hln hM hMC
          go_loopw [9] (fun cc wr => ∃ v : Nat, v ≤ 3 ∧ cc = .int .i64 v ∧ Hid (Below w6.heap.size w6 wr)) (fun cc _ => 3 - (intOf cc).toNat)
          case atStart => exact ⟨0, by omega, rfl, Lib.hid (Below.refl _ _)⟩
          case round =>
            obtain ⟨v, hv, rfl, HQ⟩ := hrel
            by_cases hv3 : v < 3
            · have d3 : (v : Int) < 3 := by omega
              go_wp2
              go_loopw [10, 11] (fun nn cc wq => ∃ j : Nat, j ≤ M ∧ nn = .int .i64 (cntW X2.tasks v j : Nat) ∧ cc = .int .i64 j ∧ Hid (Below w6.heap.size w6 wq)) (fun _ cc _ => M - (intOf cc).toNat)
              case atStart => exact ⟨0, Nat.zero_le _, rfl, rfl, HQ⟩
              case round =>
                clear HQ
                obtain ⟨j, hj, rfl, rfl, HQ⟩ := hrel
                obtain ⟨-, -, p2, -, pl, -⟩ := (T6.out.ky.below HQ.out).crew
                rw [← HM.out, ← HMC.out] at p2
                have hc1 := cntW_one HC2.out.one (by omega : (0 : Int) ≤ (v : Int)) j
                by_cases hjn : j < M
                · have d4 : (j : Int) < (M : Int) := by omega
                  have d5 : (j : Int) < (MC : Int) := by omega
                  have hjl : j < X2.tasks.length := by rw [HLN.out, ← HM.out]; exact hjn
                  obtain ⟨t, ht, hts, -, -⟩ := tk_is T6.out.iy.tk hjl
                  obtain ⟨tb1, to1, hA1, hat1⟩ := T6.out.iy.tk.sl.lies ht
                  have hcl := hat1 wr (HQ.out)
                  have y17 := hcl.wk
                  have hbl := hcl.lt
                  have HMA := Lib.hid hcl.mac
                  have hnx := cntW_next (v := (v : Int)) (tskAt_lt hjl)
                  have hwk : (tskAt X2.tasks j).worker = t.wk := by rw [← hts]; rfl
                  rw [hwk] at hnx
                  have HBZ : Hid (0 ≤ t.wk → ¬ (t.m.pc = 0 ∧ t.m.fuel = 0)) := Lib.hid (fun h0 => by
                    have := HC2.out.busy HCS.out goodT6 (List.mem_of_getElem? (tskAt_lt hjl)) (by rw [hwk]; exact h0)
                    rw [← hts] at this
                    exact this)
                  rw [hA1] at p2
                  obtain ⟨q0, hq0⟩ : ∃ q, q = cntW X2.tasks (v : Int) j := ⟨_, rfl⟩
                  rw [← hq0] at hnx hc1 ⊢
                  have HNX := Lib.hid hnx
                  clear hjl ht hts hat1 hcl hnx hwk hA1 hq0
                  by_cases hwv : t.wk = (v : Int)
                  · have HNX2 : Hid (cntW X2.tasks (v : Int) (j + 1) = q0 + 1) := Lib.hid (by rw [HNX.out, if_pos hwv])
                    have hsm := Lib.hid (fun W => rsameMc_no t.m.pc t.m.fuel (rg t.m.regs 0) (rg t.m.regs 1) (rg t.m.regs 2) (rg t.m.regs 3) t.m.over t.m.told t.sA t.sn t.sc t.oA t.on t.oc W (HBZ.out (by omega)))
                    rw [hwv] at y17
                    have d6 : (0 : Int) ≤ (v : Int) := by omega
                    clear hwv
                    obtain ⟨m0, m1, m2, m3, m4, m5, m6, m7, m8, m9⟩ := mac_cells HMA.out
                    go_wp2_with (first
                      | (go_at_call 23; go_must ((with_reducible refine (hsm.out _).mono ?_); rintro e w7 ⟨rfl, hb7⟩; have B7 := Lib.hid (bnext HQ.out hb7); clear hb7)))
                    go_roundw
                    case rel => exact ⟨j + 1, by omega, by rw [HNX2.out]; rfl, by go_num, B7⟩
                    case measure => simp [intOf]; omega
                  · have HNX2 : Hid (cntW X2.tasks (v : Int) (j + 1) = q0) := Lib.hid (by rw [HNX.out, if_neg hwv]; rfl)
                    have HWV := Lib.hid hwv
                    by_cases hw0 : 0 ≤ t.wk
                    · have hsm := Lib.hid (fun W => rsameMc_no t.m.pc t.m.fuel (rg t.m.regs 0) (rg t.m.regs 1) (rg t.m.regs 2) (rg t.m.regs 3) t.m.over t.m.told t.sA t.sn t.sc t.oA t.on t.oc W (HBZ.out hw0))
                      obtain ⟨m0, m1, m2, m3, m4, m5, m6, m7, m8, m9⟩ := mac_cells HMA.out
                      go_wp2_with (first
                        | (go_at_call 23; go_must ((with_reducible refine (hsm.out _).mono ?_); rintro e w7 ⟨rfl, hb7⟩; have B7 := Lib.hid (bnext HQ.out hb7); clear hb7)))
                      go_roundw
                      case rel => exact ⟨j + 1, by omega, by rw [HNX2.out], by go_num, B7⟩
                      case measure => simp [intOf]; omega
                    · go_wp2
                      go_roundw
                      case rel => exact ⟨j + 1, by omega, by rw [HNX2.out], by go_num, HQ⟩
                      case measure => simp [intOf]; omega
                · obtain rfl : j = M := by omega
                  have d4 : ¬ (j : Int) < (j : Int) := by omega
                  obtain ⟨q0, hq0⟩ : ∃ q, q = cntW X2.tasks (v : Int) j := ⟨_, rfl⟩
                  rw [← hq0] at hc1 ⊢
                  clear hq0
                  have d6 : ¬ (1 : Int) < (q0 : Int) := by omega
                  go_wp2
                  go_roundw
                  case rel => exact ⟨v + 1, by omega, by go_num, HQ⟩
                  case measure => simp [intOf]; omega
            · obtain rfl : v = 3 := by omega
              have d3 : ¬ ((3 : Nat) : Int) < 3 := by decide
              have T8 := Lib.hid (T6.out.below HQ.out)
              have B8 := Lib.hid (bnext B6.out HQ.out)
              obtain ⟨V8, hV8⟩ : ∃ W, W = wr.setRow gx (cwA 6 0 hd0 z1) := ⟨_, rfl⟩
              have HV8 := Lib.hid hV8.symm
              have I9 : Hid (CwIs 6 0 X2 V8 z1) := Lib.hid (by rw [hV8]; exact T8.out.iy.keep T8.out.xy (OneOff.setRow wr gx _) T8.out.kx (by decide) (by decide))
              have K9 : Hid (Bk V8 gx 34 (cwA 6 0 hd0 z1)) := Lib.hid (by rw [hV8]; exact Bk.setRow T8.out.kx _)
              have O9 := Lib.hid T8.out.xy
              have B9 : Hid (Below w.heap.size w V8) := Lib.hid (by rw [hV8]; exact below_row B8.out HWX.out _)
              clear hV8
              go_wp2_with (first
                | (with_reducible refine ld_cw gy T8.out.ky _ rfl rfl rfl ?_)
                | (with_reducible refine st_cw gx T8.out.kx rfl 6 0 hd0 z1 _ _ rfl rfl rfl rfl ?_; rw [HV8.out]))
              go_roundw
              case rel => exact ⟨i + 1, X2, z1, by omega, by go_num, HC2, I9, K9, O9, B9⟩
              case measure => simp [intOf]; omega
    · obtain rfl : i = tn := by omega
      have f1 : ¬ (i : Int) < (i : Int) := by omega
      go_wp2_with (go_at_call 7; go_must ((with_reducible refine (aw.out _).mono ?_); rintro e w9 ⟨rfl, hb9⟩; have B9 := Lib.hid (bnext HB.out hb9); clear hb9))
      go_ret
      exact ⟨rfl, B9.out⟩

theorem crewErrors_walk (hz : n ≤ 9223372036854775807) (w : World) (h : Cmds w A c l) (hN : l.length = n) (hts : Trns w tA tc ts) (htn : ts.length = tn) :
    Calls Tryz.prog 5 #[.slice A n c, .slice tA tn tc] w fun e w' => e = .returned (.bool true) ∧ Below w.heap.size w w' := by
  by_cases hr : R17 l
  · by_cases hm : 100 < tn
    · exact crewErrors_many l A n c tA tn tc w h hN hr hm
    · exact crewErrors_main l A n c ts tA tn tc w h hN hr (by omega) hts htn
  · exact crewErrors_no l A n c tA tn tc hz w h hN hr

end
end Go.Proofs.YtpaocjpjlogkgaaGreat
