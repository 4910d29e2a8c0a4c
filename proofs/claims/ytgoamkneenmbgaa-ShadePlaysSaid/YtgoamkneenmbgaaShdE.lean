/-
  What foremanref13.Same answers of marks that read the same: true, in whatever memory. No conditions but those that stand there.
-/
import Derived.Test.YtgoamkneenmbgaaShdC
import Derived.Deep.QuietTactic
import Derived.BigQuiet
namespace Go.Proofs.Ytgoamkneenmbgaa
open Go.RowKit

section
variable (on : Bool) (a1 a2 a3 a4 a5 a6 : Int) (oA : Option Addr) (no oc : Nat) (kA : Option Addr) (kc : Nat) (oB : Option Addr) (od : Nat) (kB' : Option Addr) (kd : Nat)

set_option maxHeartbeats 8000000 in
theorem rsameM_yes (old : List Ent) (kept : List Bool) (w : World) (hM : MkIn w old kept oA no oc kA no kc) (hN : MkIn w old kept oB no od kB' no kd) (hz : no ≤ 1000) :
    Calls Try.prog 12 #[.agg (mkC on a1 a2 a3 a4 a5 a6 (.slice oA no oc) (.slice kA no kc)), .agg (mkC on a1 a2 a3 a4 a5 a6 (.slice oB no od) (.slice kB' no kd))] w fun e w' => e = .returned (.bool true) ∧ Below w.heap.size w w' := by
  have h1 : no ≤ oc := hM.so.2.1
  have h2 : no ≤ kc := hM.sk.2.1
  have h3 : no ≤ od := hN.so.2.1
  have h4 : no ≤ kd := hN.sk.2.1
  have H8 := Lib.hid hM.e8
  have HN := Lib.hid hM.lo
  have HK := Lib.hid hM.lk
  obtain ⟨wz, hW⟩ : ∃ W, W = (w.alloc (.cells (mkC on a1 a2 a3 a4 a5 a6 (.slice oA no oc) (.slice kA no kc)) 25)).alloc (.cells (mkC on a1 a2 a3 a4 a5 a6 (.slice oB no od) (.slice kB' no kd)) 25) := ⟨_, rfl⟩
  have B0 : Hid (Below w.heap.size w wz) := Lib.hid (by rw [hW]; exact bnext (below_alloc1 _ _) (below_alloc1 _ _))
  have X0 : Hid (Bk wz w.heap.size 25 (mkC on a1 a2 a3 a4 a5 a6 (.slice oA no oc) (.slice kA no kc))) := Lib.hid (by rw [hW]; exact (Bk.new w _ _).alloc _)
  have Y0 : Hid (Bk wz (w.heap.size + 1) 25 (mkC on a1 a2 a3 a4 a5 a6 (.slice oB no od) (.slice kB' no kd))) := Lib.hid (by
    rw [hW]
    have := Bk.new (w.alloc (.cells (mkC on a1 a2 a3 a4 a5 a6 (.slice oA no oc) (.slice kA no kc)) 25)) 25 (mkC on a1 a2 a3 a4 a5 a6 (.slice oB no od) (.slice kB' no kd))
    rwa [World.size_alloc] at this)
  have HM := Lib.hid (hM.below B0.out)
  have HM' := Lib.hid (hN.below B0.out)
  clear hM hN
  go_enter Try.func12, Try.ntmps12
  go_wp2
  rw [← hW]
  clear hW
  go_loopw [5] (fun cc wr => ∃ k : Nat, k ≤ no ∧ cc = .int .i64 k ∧ Hid (Below wz.heap.size wz wr)) (fun cc _ => no - (intOf cc).toNat)
  case atStart => exact ⟨0, Nat.zero_le _, rfl, Lib.hid (Below.refl _ _)⟩
  case round =>
    obtain ⟨k, hk, rfl, HB⟩ := hrel
    have XB := Lib.hid (X0.out.below HB.out)
    have YB := Lib.hid (Y0.out.below HB.out)
    obtain ⟨c0, c1, c2, c3, c4, c5, c6, c7, c8, cf⟩ := XB.out.all9
    have cl := XB.out.lt
    obtain ⟨e0, e1, e2, e3, e4, e5, e6, e7, e8, ef⟩ := YB.out.all9
    have el := YB.out.lt
    by_cases hlt : k < no
    · have d1 : (k : Int) < (no : Int) := by omega
      have d2 : (k : Int) < (oc : Int) := by omega
      have d3 : (k : Int) < (od : Int) := by omega
      obtain ⟨g, off, rfl, hg, hl⟩ := HM.out.ents.load H8.out (i := k) (by rw [HN.out]; exact hlt)
      obtain ⟨g', off', rfl, hg', hl'⟩ := HM'.out.ents.load H8.out (i := k) (by rw [HN.out]; exact hlt)
      have L : Hid (∀ w', (∃ n, w' = wr.drewN n) → (loadVar 34 ⟨g, off + k * 9, none⟩).run Try.prog w' = .ok (.agg (bkC (entI (old[k]?.getD entZ)))) w') := Lib.hid (by
        rintro _ ⟨q, rfl⟩
        exact (hl _ (bnext HB.out (drewN_below _ _))).1)
      have L' : Hid (∀ w', (∃ n, w' = wr.drewN n) → (loadVar 34 ⟨g', off' + k * 9, none⟩).run Try.prog w' = .ok (.agg (bkC (entI (old[k]?.getD entZ)))) w') := Lib.hid (by
        rintro _ ⟨q, rfl⟩
        exact (hl' _ (bnext HB.out (drewN_below _ _))).1)
      have NE : Hid (∀ W, (binOp .neq 34 (.agg (bkC (entI (old[k]?.getD entZ)))) (.agg (bkC (entI (old[k]?.getD entZ))))).run Try.prog W = .ok (.bool false) W) := Lib.hid (fun W => by rw [neq_ent W (H8.out.at k) (H8.out.at k), decide_eq_true rfl]; rfl)
      clear hl hl'
      generalize bkC (entI (old[k]?.getD entZ)) = cs at *
      go_wp2
      try simp only [List.append_eq, List.cons_append, List.nil_append]
      refine wp_region_quiet_lit (by kernel_rfl) (by kernel_rfl) ?_
      repeat (first
        | (go_big_quiet_want; (first | refine quiet_load_at _ g (off + k * 9) L.out _ rfl rfl ?_ | refine quiet_load_at _ g' (off' + k * 9) L'.out _ rfl rfl ?_ | refine quiet_neq_at _ false eqGuardEnt NE.out _ _ _ rfl rfl rfl ?_); go_simp; go_big_quiet_on)
        | go_big_quiet_step (fail))
      refine wpQuiet_nil ?_
      rintro _ ⟨nq, rfl⟩
      go_wp2
      go_roundw
      case rel => exact ⟨k + 1, by omega, by go_num, Lib.hid (bnext HB.out (drewN_below _ _))⟩
      case measure => simp [intOf]; omega
    · obtain rfl : k = no := by omega
      clear hlt
      obtain ⟨k0, hk0⟩ : ∃ k0, k0 = k := ⟨_, rfl⟩
      subst hk0
      go_wp2
      go_loopw [6] (fun cc wr => ∃ k : Nat, k ≤ k0 ∧ cc = .int .i64 k ∧ Hid (Below wz.heap.size wz wr)) (fun cc _ => k0 - (intOf cc).toNat)
      case atStart => exact ⟨0, Nat.zero_le _, rfl, HB⟩
      case round =>
        clear HB XB YB c0 c1 c2 c3 c4 c5 c6 c7 c8 cf cl e0 e1 e2 e3 e4 e5 e6 e7 e8 ef el
        obtain ⟨k, hk, rfl, HB⟩ := hrel
        have XB := Lib.hid (X0.out.below HB.out)
        have YB := Lib.hid (Y0.out.below HB.out)
        obtain ⟨c0, c1, c2, c3, c4, c5, c6, c7, c8, cf⟩ := XB.out.all9
        have cl := XB.out.lt
        obtain ⟨e0, e1, e2, e3, e4, e5, e6, e7, e8, ef⟩ := YB.out.all9
        have el := YB.out.lt
        by_cases hlt : k < k0
        · have d1 : (k : Int) < (k0 : Int) := by omega
          have d2 : (k : Int) < (kc : Int) := by omega
          have d3 : (k : Int) < (kd : Int) := by omega
          obtain ⟨b, off, rfl, hb, hv⟩ := (HM.out.below HB.out).sk.bool (j := k) hlt
          obtain ⟨b', off', rfl, hb', hv'⟩ := (HM'.out.below HB.out).sk.bool (j := k) hlt
          generalize kept[k]?.getD false = q at *
          go_wp2
          try simp only [List.append_eq, List.cons_append, List.nil_append]
          refine wp_region_quiet_lit (by kernel_rfl) (by kernel_rfl) ?_
          repeat (first
            | go_big_quiet_step (fail))
          refine wpQuiet_nil ?_
          rintro _ ⟨nq, rfl⟩
          go_wp2
          go_roundw
          case rel => exact ⟨k + 1, by omega, by go_num, Lib.hid (bnext HB.out (drewN_below _ _))⟩
          case measure => simp [intOf]; omega
        · obtain rfl : k = k0 := by omega
          clear hlt
          go_wp2
          go_ret
          exact ⟨rfl, bnext B0.out HB.out⟩

end
end Go.Proofs.Ytgoamkneenmbgaa
