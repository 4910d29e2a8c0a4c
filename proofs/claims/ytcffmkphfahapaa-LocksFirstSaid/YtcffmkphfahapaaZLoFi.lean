/-
  LocksFirst, walked: true of any commands and any order, in whatever memory.
-/
import Derived.Test.YtcffmkphfahapaaZLckV
import Derived.Test.YtcffmkphfahapaaZLckF
import Derived.Test.YtcffmkphfahapaaQRely
import Derived.Test.YtcffmkphfahapaaZOpenU8
import Derived.Deep.QuietTactic
import Derived.BigQuiet
namespace Go.Proofs.Ytcffmkphfahapaa
open Go.RowKit Go.Shelf
attribute [local go_sem] look findAt
attribute [local simp] depsOf isV Region.binds

section
variable (l : List CmL) (A : Option Addr) (n c : Nat) (o : List Int) (oA : Option Addr) (on oc : Nat)

set_option maxHeartbeats 4000000 in
theorem locksFirst_no (hz : n ≤ 9223372036854775807) (w : World) (h : Cmds w A c l) (hN : l.length = n) (hr : ¬ RightL l 6) :
    Calls Try.prog 4 #[.slice A n c, .slice oA on oc] w fun e w' => e = .returned (.bool true) ∧ Below w.heap.size w w' := by
  have aw := Lib.hid (fun W => awake15 W)
  have hri := Lib.hid (right_no l A n c w h hN hz hr)
  clear h hN hr
  go_enter Try.func4, Try.ntmps4
  go_wp2_with (first
    | (go_at_call 8; go_must ((with_reducible refine hri.out.mono ?_); rintro e w1 ⟨rfl, hb1⟩; have B1 := Lib.hid hb1; clear hb1))
    | (go_at_call 9; go_must ((with_reducible refine (aw.out _).mono ?_); rintro e w2 ⟨rfl, hb2⟩; have B2 := Lib.hid (bnext B1.out hb2); clear hb2)))
  go_ret
  exact ⟨rfl, B2.out⟩

set_option maxHeartbeats 4000000 in
theorem locksFirst_long (w : World) (h : Cmds w A c l) (hN : l.length = n) (hr : RightL l 6) (h60 : 60 < on) :
    Calls Try.prog 4 #[.slice A n c, .slice oA on oc] w fun e w' => e = .returned (.bool true) ∧ Below w.heap.size w w' := by
  have aw := Lib.hid (fun W => awake15 W)
  have hri := Lib.hid (right_yes l A n c w h hN hr)
  have d1 : (60 : Int) < (on : Int) := by omega
  clear h hN hr
  go_enter Try.func4, Try.ntmps4
  go_wp2_with (first
    | (go_at_call 8; go_must ((with_reducible refine hri.out.mono ?_); rintro e w1 ⟨rfl, hb1⟩; have B1 := Lib.hid hb1; clear hb1))
    | (go_at_call 9; go_must ((with_reducible refine (aw.out _).mono ?_); rintro e w2 ⟨rfl, hb2⟩; have B2 := Lib.hid (bnext B1.out hb2); clear hb2)))
  go_ret
  exact ⟨rfl, B2.out⟩

set_option maxHeartbeats 64000000 in
set_option maxRecDepth 100000 in
theorem locksFirst_main (w : World) (h : Cmds w A c l) (hN : l.length = n) (hr : RightL l 6) (ho : U8s w oA oc o) (hon : o.length = on) (h60 : on ≤ 60) (hob : ∀ b ∈ o, 0 ≤ b ∧ b ≤ 255) :
    Calls Try.prog 4 #[.slice A n c, .slice oA on oc] w fun e w' => e = .returned (.bool true) ∧ Below w.heap.size w w' := by
  have aw := Lib.hid (fun W => awake15 W)
  have hri := Lib.hid (right_yes l A n c w h hN hr)
  have hne : Hid (∀ W, Calls Try.prog 10 #[.int .i64 6] W (LkPost (lksW [] 6) 6 W)) := Lib.hid (fun W => new_who 6 W (by decide) (by decide))
  obtain ⟨i0, hi0, hz0, hz1, hz2⟩ := infoIntF
  have H := Lib.hid h
  have HN := Lib.hid hN
  have HR := Lib.hid hr
  have HO8 := Lib.hid ho
  have HON := Lib.hid hon
  have HOB := Lib.hid hob
  have hcap := h.cap
  rw [hN] at hcap
  have h30 := hr.2
  rw [hN] at h30
  have hoc : on ≤ oc := by have := ho.2.1; omega
  have d60 : ¬ (60 : Int) < (on : Int) := by omega
  have d60' : decide ((60 : Int) < (on : Int)) = false := decide_eq_false d60
  clear h hN hr ho hon hob
  go_enter Try.func4, Try.ntmps4
  go_wp2_with (first
    | (go_at_call 8; go_must ((with_reducible refine hri.out.mono ?_); rintro e w1 ⟨rfl, hb1⟩; have B1 := Lib.hid hb1; clear hb1))
    | (go_at_call 10; go_must ((with_reducible refine (hne.out _).mono ?_); rintro e w2 ⟨P0, k0, rfl, hO, hb2⟩; have O0 := Lib.hid (hO.lower B1.out.size); have B0 := Lib.hid (bnext B1.out hb2); clear hO hb2)))
  go_loopw [5, 6, 7] (fun xs ls cc wr => ∃ (i k q : Nat) (P M : Option Addr), i ≤ n ∧ xs = .slice P 6 k ∧ ls = .slice M i q ∧ cc = .int .i64 i ∧ Hid (LkOwn w.heap.size wr P 6 k (lksW (whoN l i) 6)) ∧ Hid (OwnN w.heap.size wr M i q (List.range i)) ∧ Hid (Below w.heap.size w wr)) (fun _ _ cc _ => n - (intOf cc).toNat)
  case atStart => exact ⟨0, k0, 0, P0, none, Nat.zero_le _, rfl, rfl, rfl, O0, Lib.hid (OwnN.nil _ _), B0⟩
  case round =>
    obtain ⟨i, k, q, P, M, hi, rfl, rfl, rfl, HP, HM, HB⟩ := hrel
    by_cases hlt : i < n
    · have d1 : (i : Int) < (n : Int) := by omega
      have d2 : (i : Int) < (c : Int) := by omega
      have dw : IntKind.i64.wrap ((i : Int) + 1) = (i : Int) + 1 := by rw [IntKind.wrap_i64]; omega
      obtain ⟨x, hx⟩ := cml_at (l := l) (i := i) (by rw [HN.out]; exact hlt)
      have hmf := HR.out.at hx
      have hask := Lib.hid (ask_who x.c x.ra x.nr x.rc x.wa x.nw x.wc x.aa x.na x.ac x.c.fuel x.ca x.nc x.cc (whoN l i) P 6 k ((i : Int) + 1) wr HP.out.sl (by decide) (by rw [whoN_length]; omega) hmf.1.sets (CmL.lkR (H.out.below HB.out) HR.out hx))
      rw [← whoN_succ hx] at hask
      obtain ⟨bb, off, rfl, hA⟩ := (H.out.below HB.out).lies hx
      obtain ⟨c0, c1, c2, c3, c4, cl⟩ := hA _ (Below.refl _ _)
      clear hx hA hmf
      go_wp2_with (first
        | (go_at_call 12; go_must ((with_reducible refine hask.out.mono ?_); rintro e w3 ⟨P3, k3, rfl, hO3, hb3⟩; have B3 := Lib.hid (HB.out.trans (hb3.mono HB.out.size)); have BA := Lib.hid (below_alloc1 w3 (.cells #[.int .i64 (i : Int)] 3)); have L1 := Lib.hid ((hO3.lower HB.out.size).below BA.out); have O1 := Lib.hid ((HM.out.below hb3).below BA.out); have C1 := Lib.hid (B3.out.trans (BA.out.mono B3.out.size)); have V1 := Lib.hid (Bk.new w3 3 #[.int .i64 (i : Int)]); have Z1 := C1.out.size; clear hO3 hb3 c0 c1 c2 c3 c4 cl))
        | (at_builtin; go_must (refine append_row rfl _ _ _ rfl w.heap.size 3 i0 _ 1 8 Try.underlying29 hi0 hz0 hz1 hz2 rfl (by decide) _ i _ rfl O1.out.2 w3.heap.size #[.int .i64 (i : Int)] rfl V1.out rfl rfl (by unfold maxLen; omega) (by omega) Z1 ?_; intro g2 k2 w4 hown hgr; have B4 := Lib.hid (C1.out.grown hgr Z1 (fun b hb => own_ge O1.out.2 hb)); have L4 := Lib.hid (L1.out.grown hgr (own_other O1.out.2 (by decide)) (own_other O1.out.2 (by decide))); have O4 : Hid (OwnN w.heap.size w4 (some ⟨g2, 0, none⟩) (i + 1) k2 (List.range (i + 1))) := Lib.hid ⟨(by simp), (by rw [List.range_succ, nats_append]; exact hown)⟩; clear hown hgr)))
      go_roundw
      case rel => exact ⟨i + 1, k3, k2, P3, _, by omega, rfl, rfl, by go_num, L4, O4, B4⟩
      case measure => simp [intOf]; omega
    · obtain rfl : n = i := by omega
      have HL0 : Hid ((List.range n).Nodup ∧ ∀ j ∈ List.range n, j < n) := Lib.hid ⟨List.nodup_range, fun j hj => List.mem_range.1 hj⟩
      have HP0 : Hid (LkOwn w.heap.size wr P 6 k (lksW (whoF l (List.range n)) 6)) := Lib.hid (by rw [whoF_range]; exact HP.out)
      clear hlt
      go_wp2
      go_loopw [5, 6, 8] (fun xs ls cc wr => ∃ (t m k q : Nat) (P M : Option Addr) (lf : List Nat), t + m = n ∧ xs = .slice P 6 k ∧ ls = .slice M m q ∧ cc = .int .i64 t ∧ Hid (LkOwn w.heap.size wr P 6 k (lksW (whoF l lf) 6)) ∧ Hid (OwnN w.heap.size wr M m q lf) ∧ Hid (lf.Nodup ∧ ∀ j ∈ lf, j < n) ∧ Hid (Below w.heap.size w wr)) (fun _ _ cc _ => n - (intOf cc).toNat)
      case atStart => exact ⟨0, n, k, q, P, M, List.range n, by omega, rfl, rfl, rfl, HP0, HM, HL0, HB⟩
      case round =>
        clear HP HP0 HM HL0 HB
        obtain ⟨t, m, k, q, P, M, lf, htm, rfl, rfl, rfl, HP, HM, HL, HB⟩ := hrel
        obtain ⟨wo, rfl⟩ : ∃ wo : World, wo = wr := ⟨_, rfl⟩
        have HTM := Lib.hid htm
        by_cases hpos : 0 < m
        · have htn : t < n := by omega
          have hmn : m ≤ 30 := by omega
          clear htm
          have p1 : (0 : Int) < (m : Int) := by omega
          have hcapM := HM.out.cap
          have p2 : (0 : Int) < (q : Int) := by omega
          obtain ⟨b, rfl, hLb⟩ := HM.out.lies hpos
          have HLB := Lib.hid hLb
          have hlen := HM.out.1
          obtain ⟨f, hf⟩ : ∃ f, lf[0]? = some f := ⟨_, List.getElem?_eq_getElem (by omega)⟩
          have hfn := HL.out.2 f (List.mem_of_getElem? hf)
          obtain ⟨x, hx⟩ := cml_at (l := l) (i := f) (by rw [HN.out]; exact hfn)
          have hmf := HR.out.at hx
          obtain ⟨bb, off, rfl, hA⟩ := (H.out.below HB.out).lies hx
          have HA := Lib.hid hA
          have d1 : (f : Int) < (n : Int) := by omega
          have d2 : (f : Int) < (c : Int) := by omega
          have dw : IntKind.i64.wrap ((f : Int) + 1) = (f : Int) + 1 := by rw [IntKind.wrap_i64]; omega
          have hQ : Hid (∀ X, Below wo.heap.size wo X → X.cell? ⟨b, 0, none⟩ = some (.int .i64 (f : Int)) ∧ b < X.heap.size) := Lib.hid (fun X hX => ⟨(hLb X hX).2 0 f hf, (hLb X hX).1⟩)
          have hr1 : Hid (∀ X, Below wo.heap.size wo X → Calls Try.prog 15 #[.slice P 6 k, cmV x.ra x.nr x.rc x.wa x.nw x.wc x.aa x.na x.ac x.c.fuel x.ca x.nc x.cc, .int .i64 ((f : Int) + 1)] X fun e X' => e = .returned (.bool true) ∧ Below X.heap.size X X') := Lib.hid (fun X hX => by
            have := ready_who x.c x.ra x.nr x.rc x.wa x.nw x.wc x.aa x.na x.ac x.c.fuel x.ca x.nc x.cc (whoF l lf) P 6 k ((f : Int) + 1) X (HP.out.below hX).sl (by rw [whoF_length]; omega) (CmL.lkR (H.out.below (HB.out.trans (hX.mono HB.out.size))) HR.out hx)
            rwa [firstF_ready hf hx hmf.1 hmf.2] at this)
          clear hf hfn hx hmf hA hLb
          go_wp2
          try simp only [List.append_eq, List.cons_append, List.nil_append]
          refine wp_region_saysK 12 (fun x y => Below x.heap.size x y) (fun _ _ _ h k => bnext h k) wo (below_drew1 wo) (by kernel_rfl) (by kernel_rfl) (by kernel_rfl) (by kernel_rfl) (by rfl) ?_
          simp only [List.take_succ_cons, List.take_zero, List.drop_succ_cons, List.drop_zero]
          refine walkK_is ?_ (by first | exact gs0 rfl | exact gs1 rfl rfl rfl) (fun _ => Below.refl _ _) (fun u X hX hd => ?_) ?_
          rotate_left
          · obtain ⟨q0, q1, q2, q3, q4, q5⟩ := HA.out X hX
            obtain ⟨r0, r1⟩ := hQ.out X hX
            try simp at hd
            go_simp
            try rfl
          apply walkK_norm
          · first | (simp only [List.nil_append]; rfl) | simp only [List.nil_append]
          refine walkK_is ?_ (by first | exact gs0 rfl | exact gs1 rfl rfl rfl) (fun _ => Below.refl _ _) (fun u X hX hd => ?_) ?_
          rotate_left
          · obtain ⟨q0, q1, q2, q3, q4, q5⟩ := HA.out X hX
            obtain ⟨r0, r1⟩ := hQ.out X hX
            try simp at hd
            go_simp
            try rfl
          apply walkK_norm
          · first | (simp only [List.nil_append, List.cons_append]; rfl) | simp only [List.nil_append, List.cons_append]
          refine walkK_is ?_ (by first | exact gs0 rfl | exact gs1 rfl rfl rfl) (fun _ => Below.refl _ _) (fun u X hX hd => ?_) ?_
          rotate_left
          · obtain ⟨q0, q1, q2, q3, q4, q5⟩ := HA.out X hX
            obtain ⟨r0, r1⟩ := hQ.out X hX
            try simp at hd
            go_simp
            try rfl
          apply walkK_norm
          · first | (simp only [List.nil_append, List.cons_append]; rfl) | simp only [List.nil_append, List.cons_append]
          refine walkK_is ?_ (by first | exact gs0 rfl | exact gs1 rfl rfl rfl) (fun _ => Below.refl _ _) (fun u X hX hd => ?_) ?_
          rotate_left
          · obtain ⟨q0, q1, q2, q3, q4, q5⟩ := HA.out X hX
            obtain ⟨r0, r1⟩ := hQ.out X hX
            try simp at hd
            go_simp
            try rfl
          apply walkK_norm
          · first | (simp only [List.nil_append, List.cons_append]; rfl) | simp only [List.nil_append, List.cons_append]
          refine walkK_is ?_ (by first | exact gs0 rfl | exact gs1 rfl rfl rfl) (fun _ => Below.refl _ _) (fun u X hX hd => ?_) ?_
          rotate_left
          · obtain ⟨q0, q1, q2, q3, q4, q5⟩ := HA.out X hX
            obtain ⟨r0, r1⟩ := hQ.out X hX
            try simp at hd
            go_simp
            try rfl
          apply walkK_norm
          · first | (simp only [List.nil_append, List.cons_append]; rfl) | simp only [List.nil_append, List.cons_append]
          refine walkK_is ?_ (by first | exact gs0 rfl | exact gs1 rfl rfl rfl) (fun _ => Below.refl _ _) (fun u X hX hd => ?_) ?_
          rotate_left
          · obtain ⟨q0, q1, q2, q3, q4, q5⟩ := HA.out X hX
            obtain ⟨r0, r1⟩ := hQ.out X hX
            try simp at hd
            go_simp
            try rfl
          apply walkK_norm
          · first | (simp only [List.nil_append, List.cons_append]; rfl) | simp only [List.nil_append, List.cons_append]
          refine walkK_is (cmV x.ra x.nr x.rc x.wa x.nw x.wc x.aa x.na x.ac x.c.fuel x.ca x.nc x.cc) (by first | exact gs0 rfl | exact gs1 rfl rfl rfl) (fun _ => Below.refl _ _) (fun u X hX hd => ?_) ?_
          · obtain ⟨q0, q1, q2, q3, q4, q5⟩ := HA.out X hX
            obtain ⟨r0, r1⟩ := hQ.out X hX
            try simp at hd
            go_simp
            try rfl
          apply walkK_norm
          · first | (simp only [List.nil_append, List.cons_append]; rfl) | simp only [List.nil_append, List.cons_append]
          refine walkK_is ?_ (by first | exact gs0 rfl | exact gs1 rfl rfl rfl) (fun _ => Below.refl _ _) (fun u X hX hd => ?_) ?_
          rotate_left
          · obtain ⟨q0, q1, q2, q3, q4, q5⟩ := HA.out X hX
            obtain ⟨r0, r1⟩ := hQ.out X hX
            try simp at hd
            go_simp
            try rfl
          apply walkK_norm
          · first | (simp only [List.nil_append, List.cons_append]; rfl) | simp only [List.nil_append, List.cons_append]
          refine walkK_is ?_ (by first | exact gs0 rfl | exact gs1 rfl rfl rfl) (fun _ => Below.refl _ _) (fun u X hX hd => ?_) ?_
          rotate_left
          · obtain ⟨q0, q1, q2, q3, q4, q5⟩ := HA.out X hX
            obtain ⟨r0, r1⟩ := hQ.out X hX
            try simp at hd
            go_simp
            try rfl
          apply walkK_norm
          · first | (simp only [List.nil_append, List.cons_append]; rfl) | simp only [List.nil_append, List.cons_append]
          refine walkK_is ?_ (by first | exact gs0 rfl | exact gs1 rfl rfl rfl) (fun _ => Below.refl _ _) (fun u X hX hd => ?_) ?_
          rotate_left
          · obtain ⟨q0, q1, q2, q3, q4, q5⟩ := HA.out X hX
            obtain ⟨r0, r1⟩ := hQ.out X hX
            try simp at hd
            go_simp
            try rfl
          apply walkK_norm
          · first | (simp only [List.nil_append, List.cons_append]; rfl) | simp only [List.nil_append, List.cons_append]
          refine walkK_is (.int .i64 ((f : Int) + 1)) (by first | exact gs0 rfl | exact gs1 rfl rfl rfl) (fun _ => Below.refl _ _) (fun u X hX hd => ?_) ?_
          · obtain ⟨q0, q1, q2, q3, q4, q5⟩ := HA.out X hX
            obtain ⟨r0, r1⟩ := hQ.out X hX
            try simp at hd
            go_simp
            try rfl
          apply walkK_norm
          · first | (simp only [List.nil_append, List.cons_append]; rfl) | simp only [List.nil_append, List.cons_append]
          refine walkK_call (isV (.bool true)) 15 ?_ (by first | exact gs0 rfl | exact gs1 rfl rfl rfl) (fun _ _ _ _ h => h) (fun u X hX hd => ?_) (fun X hX => ?_) ?_
          rotate_left
          · obtain ⟨q0, q1, q2, q3, q4, q5⟩ := HA.out X hX
            obtain ⟨r0, r1⟩ := hQ.out X hX
            try simp at hd
            go_simp
            try rfl
          · exact (hr1.out X hX).mono fun e X' ⟨he, hb⟩ => ⟨_, he, hb, rfl⟩
          apply walkK_norm
          · first | (simp only [List.nil_append, List.cons_append]; rfl) | simp only [List.nil_append, List.cons_append]
          intro u X hX hsay
          simp only [sayAll, isV] at hsay
          obtain ⟨-, -, -, -, -, -, -, -, -, -, -, v11, -⟩ := hsay
          simp only [putAll, Act.put, v11, List.setIfInBounds_toArray, List.set_cons_succ, List.set_cons_zero, Nat.zero_add, Nat.reduceAdd]
          obtain ⟨wz, hWZ⟩ : ∃ W, W = X := ⟨_, rfl⟩
          rw [← hWZ] at hX ⊢
          have BZ := Lib.hid hX
          clear v11 hX hWZ HA hQ hr1 d1 d2 dw
          by_cases hto : t < on
          · have t1 : (t : Int) < (on : Int) := by omega
            have t2 : (t : Int) < (oc : Int) := by omega
            obtain ⟨ob, hobx, hobm⟩ := int_at (l := o) (i := t) (by rw [HON.out]; exact hto)
            obtain ⟨ob0, ob255⟩ := HOB.out ob hobm
            obtain ⟨b8, o8, rfl, hl8, x8⟩ := (HO8.out.below (HB.out.trans (BZ.out.mono HB.out.size))).at hobx
            obtain ⟨J, hJ⟩ : ∃ J : Nat, ob % (m : Int) = (J : Int) := ⟨(ob % (m : Int)).toNat, by have := Int.emod_nonneg ob (show (m : Int) ≠ 0 by omega); omega⟩
            have hJm : J < m := by have := Int.emod_lt_of_pos ob (show 0 < (m : Int) by omega); omega
            have hJt : ob.tmod (m : Int) = (J : Int) := by rw [Int.tmod_eq_emod_of_nonneg ob0]; exact hJ
            have hww : wrap64 ob = ob := by unfold wrap64; omega
            have hm0 : ¬ (m : Int) = 0 := by omega
            have hm1 : ¬ m = 0 := by omega
            have hm0' : ((m : Int) == 0) = false := by simpa using hm0
            clear hobx hobm
            go_wp2
            clear hl8 x8
            go_loopw [9, 10] (fun kk cc wc => ∃ J : Nat, J < m ∧ kk = .int .i64 0 ∧ cc = .int .i64 J ∧ Hid (Below wo.heap.size wo wc)) (fun _ cc _ => (intOf cc).toNat)
            case atStart => exact ⟨J, hJm, rfl, by first | rfl | simp only [hJt, hww], BZ⟩
            case round =>
              clear hJm hJt hJ hww ob0 ob255
              obtain ⟨J, hJm, rfl, rfl, HJ⟩ := hrel
              obtain ⟨wx, rfl⟩ : ∃ wx : World, wx = wr := ⟨_, rfl⟩
              by_cases hJ0 : 0 < J
              · have j1 : (0 : Int) < (J : Int) := by omega
                have j2 : (J : Int) < (m : Int) := by omega
                have j3 : (J : Int) < (q : Int) := by omega
                obtain ⟨j, hj⟩ : ∃ j, lf[J]? = some j := ⟨_, List.getElem?_eq_getElem (by omega)⟩
                have hjn := HL.out.2 j (List.mem_of_getElem? hj)
                obtain ⟨x2, hx2⟩ := cml_at (l := l) (i := j) (by rw [HN.out]; exact hjn)
                obtain ⟨bb2, off2, hAA, hA⟩ := (H.out.below HB.out).lies hx2
                injection hAA with hAA
                injection hAA with hA3 hA4
                subst hA3
                subst hA4
                have HA2 := Lib.hid hA
                have g1 : (j : Int) < (n : Int) := by omega
                have g2 : (j : Int) < (c : Int) := by omega
                have gw : IntKind.i64.wrap ((j : Int) + 1) = (j : Int) + 1 := by rw [IntKind.wrap_i64]; omega
                have hQ2 : Hid (∀ X, Below wx.heap.size wx X → X.cell? ⟨b, J, none⟩ = some (.int .i64 (j : Int)) ∧ b < X.heap.size) := Lib.hid (fun X hX => ⟨(HLB.out X (bnext HJ.out hX)).2 J j hj, (HLB.out X (bnext HJ.out hX)).1⟩)
                obtain ⟨rb, hrb⟩ : ∃ r, r = readyL (lksW (whoF l lf) 6) x2.c ((j : Int) + 1) := ⟨_, rfl⟩
                have hr2 : Hid (∀ X, Below wx.heap.size wx X → Calls Try.prog 15 #[.slice P 6 k, cmV x2.ra x2.nr x2.rc x2.wa x2.nw x2.wc x2.aa x2.na x2.ac x2.c.fuel x2.ca x2.nc x2.cc, .int .i64 ((j : Int) + 1)] X fun e X' => e = .returned (.bool rb) ∧ Below X.heap.size X X') := Lib.hid (fun X hX => by
                  rw [hrb]
                  have hXr := bnext HJ.out hX
                  exact ready_who x2.c x2.ra x2.nr x2.rc x2.wa x2.nw x2.wc x2.aa x2.na x2.ac x2.c.fuel x2.ca x2.nc x2.cc (whoF l lf) P 6 k ((j : Int) + 1) X (HP.out.below hXr).sl (by rw [whoF_length]; omega) (CmL.lkR (H.out.below (HB.out.trans (hXr.mono HB.out.size))) HR.out hx2))
                clear hj hjn hx2 hA hrb
                go_wp2
                try simp only [List.append_eq, List.cons_append, List.nil_append]
                refine wp_region_saysK 13 (fun x y => Below x.heap.size x y) (fun _ _ _ h k => bnext h k) wx (below_drew1 wx) (by kernel_rfl) (by kernel_rfl) (by kernel_rfl) (by kernel_rfl) (by rfl) ?_
                simp only [List.take_succ_cons, List.take_zero, List.drop_succ_cons, List.drop_zero]
                refine walkK_is ?_ (by first | exact gs0 rfl | exact gs1 rfl rfl rfl) (fun _ => Below.refl _ _) (fun u X hX hd => ?_) ?_
                rotate_left
                · obtain ⟨q0, q1, q2, q3, q4, q5⟩ := HA2.out X (bnext HJ.out hX)
                  obtain ⟨r0, r1⟩ := hQ2.out X hX
                  try simp at hd
                  go_simp
                  try rfl
                apply walkK_norm
                · first | (simp only [List.nil_append]; rfl) | simp only [List.nil_append]
                refine walkK_is ?_ (by first | exact gs0 rfl | exact gs1 rfl rfl rfl) (fun _ => Below.refl _ _) (fun u X hX hd => ?_) ?_
                rotate_left
                · obtain ⟨q0, q1, q2, q3, q4, q5⟩ := HA2.out X (bnext HJ.out hX)
                  obtain ⟨r0, r1⟩ := hQ2.out X hX
                  try simp at hd
                  go_simp
                  try rfl
                apply walkK_norm
                · first | (simp only [List.nil_append, List.cons_append]; rfl) | simp only [List.nil_append, List.cons_append]
                refine walkK_is ?_ (by first | exact gs0 rfl | exact gs1 rfl rfl rfl) (fun _ => Below.refl _ _) (fun u X hX hd => ?_) ?_
                rotate_left
                · obtain ⟨q0, q1, q2, q3, q4, q5⟩ := HA2.out X (bnext HJ.out hX)
                  obtain ⟨r0, r1⟩ := hQ2.out X hX
                  try simp at hd
                  go_simp
                  try rfl
                apply walkK_norm
                · first | (simp only [List.nil_append, List.cons_append]; rfl) | simp only [List.nil_append, List.cons_append]
                refine walkK_is ?_ (by first | exact gs0 rfl | exact gs1 rfl rfl rfl) (fun _ => Below.refl _ _) (fun u X hX hd => ?_) ?_
                rotate_left
                · obtain ⟨q0, q1, q2, q3, q4, q5⟩ := HA2.out X (bnext HJ.out hX)
                  obtain ⟨r0, r1⟩ := hQ2.out X hX
                  try simp at hd
                  go_simp
                  try rfl
                apply walkK_norm
                · first | (simp only [List.nil_append, List.cons_append]; rfl) | simp only [List.nil_append, List.cons_append]
                refine walkK_is ?_ (by first | exact gs0 rfl | exact gs1 rfl rfl rfl) (fun _ => Below.refl _ _) (fun u X hX hd => ?_) ?_
                rotate_left
                · obtain ⟨q0, q1, q2, q3, q4, q5⟩ := HA2.out X (bnext HJ.out hX)
                  obtain ⟨r0, r1⟩ := hQ2.out X hX
                  try simp at hd
                  go_simp
                  try rfl
                apply walkK_norm
                · first | (simp only [List.nil_append, List.cons_append]; rfl) | simp only [List.nil_append, List.cons_append]
                refine walkK_is ?_ (by first | exact gs0 rfl | exact gs1 rfl rfl rfl) (fun _ => Below.refl _ _) (fun u X hX hd => ?_) ?_
                rotate_left
                · obtain ⟨q0, q1, q2, q3, q4, q5⟩ := HA2.out X (bnext HJ.out hX)
                  obtain ⟨r0, r1⟩ := hQ2.out X hX
                  try simp at hd
                  go_simp
                  try rfl
                apply walkK_norm
                · first | (simp only [List.nil_append, List.cons_append]; rfl) | simp only [List.nil_append, List.cons_append]
                refine walkK_is ?_ (by first | exact gs0 rfl | exact gs1 rfl rfl rfl) (fun _ => Below.refl _ _) (fun u X hX hd => ?_) ?_
                rotate_left
                · obtain ⟨q0, q1, q2, q3, q4, q5⟩ := HA2.out X (bnext HJ.out hX)
                  obtain ⟨r0, r1⟩ := hQ2.out X hX
                  try simp at hd
                  go_simp
                  try rfl
                apply walkK_norm
                · first | (simp only [List.nil_append, List.cons_append]; rfl) | simp only [List.nil_append, List.cons_append]
                refine walkK_is (cmV x2.ra x2.nr x2.rc x2.wa x2.nw x2.wc x2.aa x2.na x2.ac x2.c.fuel x2.ca x2.nc x2.cc) (by first | exact gs0 rfl | exact gs1 rfl rfl rfl) (fun _ => Below.refl _ _) (fun u X hX hd => ?_) ?_
                · obtain ⟨q0, q1, q2, q3, q4, q5⟩ := HA2.out X (bnext HJ.out hX)
                  obtain ⟨r0, r1⟩ := hQ2.out X hX
                  try simp at hd
                  go_simp
                  try rfl
                apply walkK_norm
                · first | (simp only [List.nil_append, List.cons_append]; rfl) | simp only [List.nil_append, List.cons_append]
                refine walkK_is ?_ (by first | exact gs0 rfl | exact gs1 rfl rfl rfl) (fun _ => Below.refl _ _) (fun u X hX hd => ?_) ?_
                rotate_left
                · obtain ⟨q0, q1, q2, q3, q4, q5⟩ := HA2.out X (bnext HJ.out hX)
                  obtain ⟨r0, r1⟩ := hQ2.out X hX
                  try simp at hd
                  go_simp
                  try rfl
                apply walkK_norm
                · first | (simp only [List.nil_append, List.cons_append]; rfl) | simp only [List.nil_append, List.cons_append]
                refine walkK_is ?_ (by first | exact gs0 rfl | exact gs1 rfl rfl rfl) (fun _ => Below.refl _ _) (fun u X hX hd => ?_) ?_
                rotate_left
                · obtain ⟨q0, q1, q2, q3, q4, q5⟩ := HA2.out X (bnext HJ.out hX)
                  obtain ⟨r0, r1⟩ := hQ2.out X hX
                  try simp at hd
                  go_simp
                  try rfl
                apply walkK_norm
                · first | (simp only [List.nil_append, List.cons_append]; rfl) | simp only [List.nil_append, List.cons_append]
                refine walkK_is ?_ (by first | exact gs0 rfl | exact gs1 rfl rfl rfl) (fun _ => Below.refl _ _) (fun u X hX hd => ?_) ?_
                rotate_left
                · obtain ⟨q0, q1, q2, q3, q4, q5⟩ := HA2.out X (bnext HJ.out hX)
                  obtain ⟨r0, r1⟩ := hQ2.out X hX
                  try simp at hd
                  go_simp
                  try rfl
                apply walkK_norm
                · first | (simp only [List.nil_append, List.cons_append]; rfl) | simp only [List.nil_append, List.cons_append]
                refine walkK_is ?_ (by first | exact gs0 rfl | exact gs1 rfl rfl rfl) (fun _ => Below.refl _ _) (fun u X hX hd => ?_) ?_
                rotate_left
                · obtain ⟨q0, q1, q2, q3, q4, q5⟩ := HA2.out X (bnext HJ.out hX)
                  obtain ⟨r0, r1⟩ := hQ2.out X hX
                  try simp at hd
                  go_simp
                  try rfl
                apply walkK_norm
                · first | (simp only [List.nil_append, List.cons_append]; rfl) | simp only [List.nil_append, List.cons_append]
                refine walkK_is (.int .i64 ((j : Int) + 1)) (by first | exact gs0 rfl | exact gs1 rfl rfl rfl) (fun _ => Below.refl _ _) (fun u X hX hd => ?_) ?_
                · obtain ⟨q0, q1, q2, q3, q4, q5⟩ := HA2.out X (bnext HJ.out hX)
                  obtain ⟨r0, r1⟩ := hQ2.out X hX
                  try simp at hd
                  go_simp
                  try rfl
                apply walkK_norm
                · first | (simp only [List.nil_append, List.cons_append]; rfl) | simp only [List.nil_append, List.cons_append]
                intro u X hX hsay
                simp only [sayAll, isV] at hsay
                obtain ⟨v0, -, -, -, -, -, -, v7, -, -, -, -, v12, -⟩ := hsay
                simp only [putAll, Act.put, v0, v7, v12, List.setIfInBounds_toArray, List.set_cons_succ, List.set_cons_zero, Nat.zero_add, Nat.reduceAdd]
                have hcall := Lib.hid (hr2.out X hX)
                have BX3 := Lib.hid (bnext HJ.out hX)
                clear hX v0 v7 v12 HA2 hQ2 hr2 g1 g2 gw
                cases rb with
                | true =>
                  go_wp2_with (go_at_call 15; go_must ((with_reducible refine hcall.out.mono ?_); rintro e w7 ⟨rfl, hb7⟩; have B7 := Lib.hid (bnext BX3.out hb7); clear hb7))
                  obtain ⟨j, hj⟩ : ∃ j, lf[J]? = some j := ⟨_, List.getElem?_eq_getElem (by omega)⟩
                  have hjn := HL.out.2 j (List.mem_of_getElem? hj)
                  obtain ⟨x, hx⟩ := cml_at (l := l) (i := j) (by rw [HN.out]; exact hjn)
                  have hmf := HR.out.at hx
                  obtain ⟨bb2, off2, hAA, hA⟩ := (H.out.below HB.out).lies hx
                  injection hAA with hAA
                  injection hAA with hA3 hA4
                  subst hA3
                  subst hA4
                  have HA := Lib.hid hA
                  have g1 : (j : Int) < (n : Int) := by omega
                  have g2 : (j : Int) < (c : Int) := by omega
                  have g3 : (J : Int) < (m : Int) := by omega
                  have g4 : (J : Int) < (q : Int) := by omega
                  have g5 : (J : Int) + 1 ≤ (m : Int) := by omega
                  have g6 : (J : Int) + 1 ≤ (q : Int) := by omega
                  have gw : IntKind.i64.wrap ((j : Int) + 1) = (j : Int) + 1 := by rw [IntKind.wrap_i64]; omega
                  have gw2 : IntKind.i64.wrap ((J : Int) + 1) = (J : Int) + 1 := by rw [IntKind.wrap_i64]; omega
                  have n1 : ¬ q < J := by omega
                  have n2 : ¬ m < J + 1 := by omega
                  have n3 : ¬ q < J + 1 := by omega
                  have hQ2 : Hid (∀ X, Below w7.heap.size w7 X → X.cell? ⟨b, J, none⟩ = some (.int .i64 (j : Int)) ∧ b < X.heap.size) := Lib.hid (fun X hX => ⟨(HLB.out X (bnext B7.out hX)).2 J j hj, (HLB.out X (bnext B7.out hX)).1⟩)
                  have hg : Hid (∀ X, Below w7.heap.size w7 X → Calls Try.prog 17 #[.slice P 6 k, cmV x.ra x.nr x.rc x.wa x.nw x.wc x.aa x.na x.ac x.c.fuel x.ca x.nc x.cc, .int .i64 ((j : Int) + 1)] X fun e X' => ∃ v, e = .returned v ∧ Below X.heap.size X X' ∧ lkoV w.heap.size 6 (lksW (whoF l (lf.take J ++ lf.drop (J + 1))) 6) v X') := Lib.hid (fun X hX => by
                    have hXr := bnext B7.out hX
                    have := (give_who x.c x.ra x.nr x.rc x.wa x.nw x.wc x.aa x.na x.ac x.c.fuel x.ca x.nc x.cc (whoF l lf) P 6 k ((j : Int) + 1) X (HP.out.below hXr).sl (by decide) (by rw [whoF_length]; omega) hmf.1.sets (fun z hz e => whoF_one hz hx e) (CmL.lkR (H.out.below (HB.out.trans (hXr.mono HB.out.size))) HR.out hx)).mono fun _ _ h => h.saysO (B := w.heap.size) (Nat.le_trans HB.out.size hXr.size)
                    rwa [whoF_gone hj HL.out.1] at this)
                  have HL2 : Hid ((lf.take J ++ lf.drop (J + 1)).Nodup ∧ ∀ y ∈ lf.take J ++ lf.drop (J + 1), y < n) := Lib.hid ⟨(left_nodup hj HL.out.1).1, fun y hy => HL.out.2 y (by
                    rcases List.mem_append.1 hy with hy | hy
                    · exact List.mem_of_mem_take hy
                    · exact List.mem_of_mem_drop hy)⟩
                  have hll : (lf.take J ++ lf.drop (J + 1)).length + 1 = lf.length := left_length hj
                  have HLL := Lib.hid hll
                  clear hj hjn hx hmf hA hll
                  go_wp2
                  try simp only [List.append_eq, List.cons_append, List.nil_append]
                  refine wp_region_saysK 14 (fun x y => Below x.heap.size x y) (fun _ _ _ h k => bnext h k) w7 (below_drew1 w7) (by kernel_rfl) (by kernel_rfl) (by kernel_rfl) (by kernel_rfl) (by rfl) ?_
                  simp only [List.take_succ_cons, List.take_zero, List.drop_succ_cons, List.drop_zero]
                  refine walkK_is ?_ (by first | exact gs0 rfl | exact gs1 rfl rfl rfl) (fun _ => Below.refl _ _) (fun u X hX hd => ?_) ?_
                  rotate_left
                  · obtain ⟨q0, q1, q2, q3, q4, q5⟩ := HA.out X (bnext B7.out hX)
                    obtain ⟨r0, r1⟩ := hQ2.out X hX
                    try simp at hd
                    go_simp
                    try rfl
                  apply walkK_norm
                  · first | (simp only [List.nil_append]; rfl) | simp only [List.nil_append]
                  refine walkK_is ?_ (by first | exact gs0 rfl | exact gs1 rfl rfl rfl) (fun _ => Below.refl _ _) (fun u X hX hd => ?_) ?_
                  rotate_left
                  · obtain ⟨q0, q1, q2, q3, q4, q5⟩ := HA.out X (bnext B7.out hX)
                    obtain ⟨r0, r1⟩ := hQ2.out X hX
                    try simp at hd
                    go_simp
                    try rfl
                  apply walkK_norm
                  · first | (simp only [List.nil_append, List.cons_append]; rfl) | simp only [List.nil_append, List.cons_append]
                  refine walkK_is ?_ (by first | exact gs0 rfl | exact gs1 rfl rfl rfl) (fun _ => Below.refl _ _) (fun u X hX hd => ?_) ?_
                  rotate_left
                  · obtain ⟨q0, q1, q2, q3, q4, q5⟩ := HA.out X (bnext B7.out hX)
                    obtain ⟨r0, r1⟩ := hQ2.out X hX
                    try simp at hd
                    go_simp
                    try rfl
                  apply walkK_norm
                  · first | (simp only [List.nil_append, List.cons_append]; rfl) | simp only [List.nil_append, List.cons_append]
                  refine walkK_is ?_ (by first | exact gs0 rfl | exact gs1 rfl rfl rfl) (fun _ => Below.refl _ _) (fun u X hX hd => ?_) ?_
                  rotate_left
                  · obtain ⟨q0, q1, q2, q3, q4, q5⟩ := HA.out X (bnext B7.out hX)
                    obtain ⟨r0, r1⟩ := hQ2.out X hX
                    try simp at hd
                    go_simp
                    try rfl
                  apply walkK_norm
                  · first | (simp only [List.nil_append, List.cons_append]; rfl) | simp only [List.nil_append, List.cons_append]
                  refine walkK_is ?_ (by first | exact gs0 rfl | exact gs1 rfl rfl rfl) (fun _ => Below.refl _ _) (fun u X hX hd => ?_) ?_
                  rotate_left
                  · obtain ⟨q0, q1, q2, q3, q4, q5⟩ := HA.out X (bnext B7.out hX)
                    obtain ⟨r0, r1⟩ := hQ2.out X hX
                    try simp at hd
                    go_simp
                    try rfl
                  apply walkK_norm
                  · first | (simp only [List.nil_append, List.cons_append]; rfl) | simp only [List.nil_append, List.cons_append]
                  refine walkK_is ?_ (by first | exact gs0 rfl | exact gs1 rfl rfl rfl) (fun _ => Below.refl _ _) (fun u X hX hd => ?_) ?_
                  rotate_left
                  · obtain ⟨q0, q1, q2, q3, q4, q5⟩ := HA.out X (bnext B7.out hX)
                    obtain ⟨r0, r1⟩ := hQ2.out X hX
                    try simp at hd
                    go_simp
                    try rfl
                  apply walkK_norm
                  · first | (simp only [List.nil_append, List.cons_append]; rfl) | simp only [List.nil_append, List.cons_append]
                  refine walkK_is ?_ (by first | exact gs0 rfl | exact gs1 rfl rfl rfl) (fun _ => Below.refl _ _) (fun u X hX hd => ?_) ?_
                  rotate_left
                  · obtain ⟨q0, q1, q2, q3, q4, q5⟩ := HA.out X (bnext B7.out hX)
                    obtain ⟨r0, r1⟩ := hQ2.out X hX
                    try simp at hd
                    go_simp
                    try rfl
                  apply walkK_norm
                  · first | (simp only [List.nil_append, List.cons_append]; rfl) | simp only [List.nil_append, List.cons_append]
                  refine walkK_is (cmV x.ra x.nr x.rc x.wa x.nw x.wc x.aa x.na x.ac x.c.fuel x.ca x.nc x.cc) (by first | exact gs0 rfl | exact gs1 rfl rfl rfl) (fun _ => Below.refl _ _) (fun u X hX hd => ?_) ?_
                  · obtain ⟨q0, q1, q2, q3, q4, q5⟩ := HA.out X (bnext B7.out hX)
                    obtain ⟨r0, r1⟩ := hQ2.out X hX
                    try simp at hd
                    go_simp
                    try rfl
                  apply walkK_norm
                  · first | (simp only [List.nil_append, List.cons_append]; rfl) | simp only [List.nil_append, List.cons_append]
                  refine walkK_is ?_ (by first | exact gs0 rfl | exact gs1 rfl rfl rfl) (fun _ => Below.refl _ _) (fun u X hX hd => ?_) ?_
                  rotate_left
                  · obtain ⟨q0, q1, q2, q3, q4, q5⟩ := HA.out X (bnext B7.out hX)
                    obtain ⟨r0, r1⟩ := hQ2.out X hX
                    try simp at hd
                    go_simp
                    try rfl
                  apply walkK_norm
                  · first | (simp only [List.nil_append, List.cons_append]; rfl) | simp only [List.nil_append, List.cons_append]
                  refine walkK_is ?_ (by first | exact gs0 rfl | exact gs1 rfl rfl rfl) (fun _ => Below.refl _ _) (fun u X hX hd => ?_) ?_
                  rotate_left
                  · obtain ⟨q0, q1, q2, q3, q4, q5⟩ := HA.out X (bnext B7.out hX)
                    obtain ⟨r0, r1⟩ := hQ2.out X hX
                    try simp at hd
                    go_simp
                    try rfl
                  apply walkK_norm
                  · first | (simp only [List.nil_append, List.cons_append]; rfl) | simp only [List.nil_append, List.cons_append]
                  refine walkK_is ?_ (by first | exact gs0 rfl | exact gs1 rfl rfl rfl) (fun _ => Below.refl _ _) (fun u X hX hd => ?_) ?_
                  rotate_left
                  · obtain ⟨q0, q1, q2, q3, q4, q5⟩ := HA.out X (bnext B7.out hX)
                    obtain ⟨r0, r1⟩ := hQ2.out X hX
                    try simp at hd
                    go_simp
                    try rfl
                  apply walkK_norm
                  · first | (simp only [List.nil_append, List.cons_append]; rfl) | simp only [List.nil_append, List.cons_append]
                  refine walkK_is ?_ (by first | exact gs0 rfl | exact gs1 rfl rfl rfl) (fun _ => Below.refl _ _) (fun u X hX hd => ?_) ?_
                  rotate_left
                  · obtain ⟨q0, q1, q2, q3, q4, q5⟩ := HA.out X (bnext B7.out hX)
                    obtain ⟨r0, r1⟩ := hQ2.out X hX
                    try simp at hd
                    go_simp
                    try rfl
                  apply walkK_norm
                  · first | (simp only [List.nil_append, List.cons_append]; rfl) | simp only [List.nil_append, List.cons_append]
                  refine walkK_is (.int .i64 ((j : Int) + 1)) (by first | exact gs0 rfl | exact gs1 rfl rfl rfl) (fun _ => Below.refl _ _) (fun u X hX hd => ?_) ?_
                  · obtain ⟨q0, q1, q2, q3, q4, q5⟩ := HA.out X (bnext B7.out hX)
                    obtain ⟨r0, r1⟩ := hQ2.out X hX
                    try simp at hd
                    go_simp
                    try rfl
                  apply walkK_norm
                  · first | (simp only [List.nil_append, List.cons_append]; rfl) | simp only [List.nil_append, List.cons_append]
                  refine walkK_call (lkoV w.heap.size 6 (lksW (whoF l (lf.take J ++ lf.drop (J + 1))) 6)) 17 ?_ (by first | exact gs0 rfl | exact gs1 rfl rfl rfl) (fun v x y hb h => lkoV_keep v x y hb h) (fun u X hX hd => ?_) (fun X hX => ?_) ?_
                  rotate_left
                  · obtain ⟨q0, q1, q2, q3, q4, q5⟩ := HA.out X (bnext B7.out hX)
                    obtain ⟨r0, r1⟩ := hQ2.out X hX
                    try simp at hd
                    go_simp
                    try rfl
                  · exact hg.out X hX
                  apply walkK_norm
                  · first | (simp only [List.nil_append, List.cons_append]; rfl) | simp only [List.nil_append, List.cons_append]
                  intro u X hX hsay
                  simp only [sayAll, isV] at hsay
                  obtain ⟨-, -, -, -, -, -, -, -, -, -, -, -, -, v13, -⟩ := hsay
                  obtain ⟨P3, k3, v13, hS⟩ := v13
                  simp only [putAll, Act.put, v13, List.setIfInBounds_toArray, List.set_cons_succ, List.set_cons_zero, Nat.zero_add, Nat.reduceAdd]
                  obtain ⟨wy, hWY⟩ : ∃ W, W = X := ⟨_, rfl⟩
                  rw [← hWY] at hX hS ⊢
                  have SX := Lib.hid hS
                  have BY := Lib.hid (bnext B7.out hX)
                  have hBX : Hid (∀ X, Below wy.heap.size wy X → w.heap.size ≤ X.heap.size) := Lib.hid (fun X hX => Nat.le_trans HB.out.size (bnext BY.out hX).size)
                  have SLf : Hid (∀ X, Below wy.heap.size wy X → Sl X 1 (some ⟨b, 0, none⟩) J q (nats (lf.take J))) := Lib.hid (fun X hX => by
                    have h1 := Sl.own' (own_below HM.out.2 (bnext BY.out hX))
                    obtain ⟨d, hd⟩ : ∃ d, m = J + (d + 1) := ⟨m - J - 1, by omega⟩
                    rw [hd] at h1
                    have := h1.front (by omega)
                    unfold nats at this ⊢
                    rwa [← List.map_take] at this)
                  have n1 : ¬ q < J := by omega
                  have n2 : ¬ m < J + 1 := by omega
                  have n3 : ¬ q < m := by omega
                  have n4 : 0 ≤ (J : Int) + 1 := by omega
                  clear hX hS v13 hWY
                  go_wp2
                  try simp only [List.append_eq, List.cons_append, List.nil_append]
                  refine wp_region_saysK 9 (fun x y => Below x.heap.size x y) (fun _ _ _ h k => bnext h k) wy (below_drew1 wy) (by kernel_rfl) (by kernel_rfl) (by kernel_rfl) (by kernel_rfl) (by rfl) ?_
                  simp only [List.take_succ_cons, List.take_zero, List.drop_succ_cons, List.drop_zero]
                  refine walkK_new (noneV w.heap.size 3) (by first | exact gs0 rfl | exact gs1 rfl rfl rfl) (fun v x y hb h => noneV_below v x y hb h) (fun u X hX hd => ⟨_, _, exec_none _ _ _ rfl, below_alloc1 _ _, _, rfl, World.ownsRow_lit X #[] 0 (hBX.out X hX) (by decide) rfl⟩) ?_
                  apply walkK_norm
                  · first | (simp only [List.nil_append]; rfl) | simp only [List.nil_append]
                  refine walkK_is ?_ (by first | exact gs0 rfl | exact gs1 rfl rfl rfl) (fun _ => Below.refl _ _) (fun u X hX hd => ?_) ?_
                  rotate_left
                  · skip
                    try simp at hd
                    go_simp
                    try rfl
                  apply walkK_norm
                  · first | (simp only [List.nil_append, List.cons_append]; rfl) | simp only [List.nil_append, List.cons_append]
                  refine walkK_is ?_ (by first | exact gs0 rfl | exact gs1 rfl rfl rfl) (fun _ => Below.refl _ _) (fun u X hX hd => ?_) ?_
                  rotate_left
                  · skip
                    try simp at hd
                    go_simp
                    try rfl
                  apply walkK_norm
                  · first | (simp only [List.nil_append, List.cons_append]; rfl) | simp only [List.nil_append, List.cons_append]
                  refine walkK_is (.slice (some ⟨b, 0, none⟩) J q) (by first | exact gs0 rfl | exact gs1 rfl rfl rfl) (fun _ => Below.refl _ _) (fun u X hX hd => ?_) ?_
                  · skip
                    try simp at hd
                    go_simp
                    try rfl
                  apply walkK_norm
                  · first | (simp only [List.nil_append, List.cons_append]; rfl) | simp only [List.nil_append, List.cons_append]
                  refine walkK_new (listV w.heap.size 3 J (nats (lf.take J))) (by first | exact gs0 rfl | exact gs1 rfl rfl rfl) (fun v x y hb h => listV_below v x y hb h) (fun u X hX hd => ?_) ?_
                  · simp at hd
                    obtain ⟨⟨g, hg, ho⟩, h4⟩ := hd
                    obtain ⟨v, w', hr, hb, hl⟩ := run_append_none (P := Try.prog) X 29 29 w.heap.size 3 i0 _ 8 Try.underlying29 hi0 hz0 hz1 hz2 rfl (hBX.out X hX) g ho _ _ _ _ (SLf.out X hX) (nats_one _) (by unfold maxLen; omega) (by omega)
                    exact ⟨v, w', exec_append _ _ _ _ _ _ rfl (by go_simp) (by go_simp) hr, hb, hl⟩
                  apply walkK_norm
                  · first | (simp only [List.nil_append, List.cons_append]; rfl) | simp only [List.nil_append, List.cons_append]
                  refine walkK_is ?_ (by first | exact gs0 rfl | exact gs1 rfl rfl rfl) (fun _ => Below.refl _ _) (fun u X hX hd => ?_) ?_
                  rotate_left
                  · skip
                    try simp at hd
                    go_simp
                    try rfl
                  apply walkK_norm
                  · first | (simp only [List.nil_append, List.cons_append]; rfl) | simp only [List.nil_append, List.cons_append]
                  refine walkK_is ?_ (by first | exact gs0 rfl | exact gs1 rfl rfl rfl) (fun _ => Below.refl _ _) (fun u X hX hd => ?_) ?_
                  rotate_left
                  · skip
                    try simp at hd
                    go_simp
                    try rfl
                  apply walkK_norm
                  · first | (simp only [List.nil_append, List.cons_append]; rfl) | simp only [List.nil_append, List.cons_append]
                  refine walkK_is (.int .i64 ((J : Int) + 1)) (by first | exact gs0 rfl | exact gs1 rfl rfl rfl) (fun _ => Below.refl _ _) (fun u X hX hd => ?_) ?_
                  · skip
                    try simp at hd
                    go_simp
                    try rfl
                  apply walkK_norm
                  · first | (simp only [List.nil_append, List.cons_append]; rfl) | simp only [List.nil_append, List.cons_append]
                  refine walkK_is (.slice (restA b q (J + 1)) (m - (J + 1)) (q - (J + 1))) (by first | exact gs0 rfl | exact gs1 rfl rfl rfl) (fun _ => Below.refl _ _) (fun u X hX hd => ?_) ?_
                  · try simp at hd
                    go_simp
                    try rfl
                  apply walkK_norm
                  · first | (simp only [List.nil_append, List.cons_append]; rfl) | simp only [List.nil_append, List.cons_append]
                  intro u X hX hsay
                  simp only [sayAll, isV] at hsay
                  obtain ⟨-, -, -, -, v4, -, -, -, v8, -⟩ := hsay
                  obtain ⟨A4, q4, v4, hO4, -⟩ := v4
                  simp only [putAll, Act.put, v4, v8, List.setIfInBounds_toArray, List.set_cons_succ, List.set_cons_zero, Nat.zero_add, Nat.reduceAdd]
                  have BX := Lib.hid (bnext BY.out hX)
                  have BW := Lib.hid (HB.out.trans (BX.out.mono HB.out.size))
                  have SR := Lib.hid ((Sl.own' (own_below HM.out.2 BX.out)).restA (k := J + 1) (by omega))
                  have SX2 := Lib.hid (SX.out.below hX)
                  have O4 := Lib.hid hO4
                  have Z4 := BW.out.size
                  clear hX hO4 v4 v8
                  go_wp2_with (at_builtin; go_must (refine append_sl rfl _ _ _ rfl w.heap.size 3 i0 _ 1 8 Try.underlying29 hi0 hz0 hz1 hz2 rfl (by decide) _ J _ rfl O4.out (restA b q (J + 1)) (m - (J + 1)) (q - (J + 1)) _ rfl SR.out (fun u hu => nats_one lf u (List.mem_of_mem_drop hu)) (by unfold maxLen; omega) (by omega) Z4 ?_; intro v' w6 hown hgr; obtain ⟨A6, q6, rfl, -⟩ := Sl.own hown; have B6 := Lib.hid (BW.out.grown hgr Z4 (fun b hb => own_ge O4.out hb)); have L6 := Lib.hid (SX2.out.grown hgr (own_other O4.out (by decide)) (own_other O4.out (by decide))); have O6 : Hid (OwnN w.heap.size w6 A6 (m - 1) q6 (lf.take J ++ lf.drop (J + 1))) := Lib.hid (OwnN.joined (k := J) rfl hown HLL.out HM.out.1 (by omega)); clear hown hgr))
                  rw [show J + (m - (J + 1)) = m - 1 by omega]
                  go_roundw
                  case rel => exact ⟨t + 1, m - 1, k3, q6, P3, A6, _, by have := HTM.out; omega, rfl, rfl, by go_num, L6, O6, HL2, B6⟩
                  case measure => simp [intOf]; omega
                | false =>
                  go_wp2_with (go_at_call 15; go_must ((with_reducible refine hcall.out.mono ?_); rintro e w7 ⟨rfl, hb7⟩; have B7 := Lib.hid (bnext BX3.out hb7); clear hb7))
                  go_roundw
                  case rel => exact ⟨J - 1, by omega, rfl, by go_num, B7⟩
                  case measure => simp [intOf]; omega
              · obtain rfl : J = 0 := by omega
                clear hJ0
                go_wp2
                obtain ⟨j, hj⟩ : ∃ j, lf[0]? = some j := ⟨_, List.getElem?_eq_getElem (by omega)⟩
                have hjn := HL.out.2 j (List.mem_of_getElem? hj)
                obtain ⟨x, hx⟩ := cml_at (l := l) (i := j) (by rw [HN.out]; exact hjn)
                have hmf := HR.out.at hx
                obtain ⟨bb2, off2, hAA, hA⟩ := (H.out.below HB.out).lies hx
                injection hAA with hAA
                injection hAA with hA3 hA4
                subst hA3
                subst hA4
                have HA := Lib.hid hA
                have g1 : (j : Int) < (n : Int) := by omega
                have g2 : (j : Int) < (c : Int) := by omega
                have g3 : (0 : Int) < (m : Int) := by omega
                have g4 : (0 : Int) < (q : Int) := by omega
                have g5 : 1 ≤ (m : Int) := by omega
                have g6 : 1 ≤ (q : Int) := by omega
                have gw : IntKind.i64.wrap ((j : Int) + 1) = (j : Int) + 1 := by rw [IntKind.wrap_i64]; omega
                have n1 : ¬ q < 0 := by omega
                have n2 : ¬ m < 1 := by omega
                have n3 : ¬ q < 1 := by omega
                have hQ2 : Hid (∀ X, Below wx.heap.size wx X → X.cell? ⟨b, 0, none⟩ = some (.int .i64 (j : Int)) ∧ b < X.heap.size) := Lib.hid (fun X hX => ⟨(HLB.out X (bnext HJ.out hX)).2 0 j hj, (HLB.out X (bnext HJ.out hX)).1⟩)
                have hg : Hid (∀ X, Below wx.heap.size wx X → Calls Try.prog 17 #[.slice P 6 k, cmV x.ra x.nr x.rc x.wa x.nw x.wc x.aa x.na x.ac x.c.fuel x.ca x.nc x.cc, .int .i64 ((j : Int) + 1)] X fun e X' => ∃ v, e = .returned v ∧ Below X.heap.size X X' ∧ lkoV w.heap.size 6 (lksW (whoF l (lf.take 0 ++ lf.drop (1))) 6) v X') := Lib.hid (fun X hX => by
                  have hXr := bnext HJ.out hX
                  have := (give_who x.c x.ra x.nr x.rc x.wa x.nw x.wc x.aa x.na x.ac x.c.fuel x.ca x.nc x.cc (whoF l lf) P 6 k ((j : Int) + 1) X (HP.out.below hXr).sl (by decide) (by rw [whoF_length]; omega) hmf.1.sets (fun z hz e => whoF_one hz hx e) (CmL.lkR (H.out.below (HB.out.trans (hXr.mono HB.out.size))) HR.out hx)).mono fun _ _ h => h.saysO (B := w.heap.size) (Nat.le_trans HB.out.size hXr.size)
                  rwa [whoF_gone hj HL.out.1] at this)
                have HL2 : Hid ((lf.take 0 ++ lf.drop (1)).Nodup ∧ ∀ y ∈ lf.take 0 ++ lf.drop (1), y < n) := Lib.hid ⟨(left_nodup hj HL.out.1).1, fun y hy => HL.out.2 y (by
                  rcases List.mem_append.1 hy with hy | hy
                  · exact List.mem_of_mem_take hy
                  · exact List.mem_of_mem_drop hy)⟩
                have hll : (lf.take 0 ++ lf.drop (1)).length + 1 = lf.length := left_length hj
                have HLL := Lib.hid hll
                clear hj hjn hx hmf hA hll
                go_wp2
                try simp only [List.append_eq, List.cons_append, List.nil_append]
                refine wp_region_saysK 14 (fun x y => Below x.heap.size x y) (fun _ _ _ h k => bnext h k) wx (below_drew1 wx) (by kernel_rfl) (by kernel_rfl) (by kernel_rfl) (by kernel_rfl) (by rfl) ?_
                simp only [List.take_succ_cons, List.take_zero, List.drop_succ_cons, List.drop_zero]
                refine walkK_is ?_ (by first | exact gs0 rfl | exact gs1 rfl rfl rfl) (fun _ => Below.refl _ _) (fun u X hX hd => ?_) ?_
                rotate_left
                · obtain ⟨q0, q1, q2, q3, q4, q5⟩ := HA.out X (bnext HJ.out hX)
                  obtain ⟨r0, r1⟩ := hQ2.out X hX
                  try simp at hd
                  go_simp
                  try rfl
                apply walkK_norm
                · first | (simp only [List.nil_append]; rfl) | simp only [List.nil_append]
                refine walkK_is ?_ (by first | exact gs0 rfl | exact gs1 rfl rfl rfl) (fun _ => Below.refl _ _) (fun u X hX hd => ?_) ?_
                rotate_left
                · obtain ⟨q0, q1, q2, q3, q4, q5⟩ := HA.out X (bnext HJ.out hX)
                  obtain ⟨r0, r1⟩ := hQ2.out X hX
                  try simp at hd
                  go_simp
                  try rfl
                apply walkK_norm
                · first | (simp only [List.nil_append, List.cons_append]; rfl) | simp only [List.nil_append, List.cons_append]
                refine walkK_is ?_ (by first | exact gs0 rfl | exact gs1 rfl rfl rfl) (fun _ => Below.refl _ _) (fun u X hX hd => ?_) ?_
                rotate_left
                · obtain ⟨q0, q1, q2, q3, q4, q5⟩ := HA.out X (bnext HJ.out hX)
                  obtain ⟨r0, r1⟩ := hQ2.out X hX
                  try simp at hd
                  go_simp
                  try rfl
                apply walkK_norm
                · first | (simp only [List.nil_append, List.cons_append]; rfl) | simp only [List.nil_append, List.cons_append]
                refine walkK_is ?_ (by first | exact gs0 rfl | exact gs1 rfl rfl rfl) (fun _ => Below.refl _ _) (fun u X hX hd => ?_) ?_
                rotate_left
                · obtain ⟨q0, q1, q2, q3, q4, q5⟩ := HA.out X (bnext HJ.out hX)
                  obtain ⟨r0, r1⟩ := hQ2.out X hX
                  try simp at hd
                  go_simp
                  try rfl
                apply walkK_norm
                · first | (simp only [List.nil_append, List.cons_append]; rfl) | simp only [List.nil_append, List.cons_append]
                refine walkK_is ?_ (by first | exact gs0 rfl | exact gs1 rfl rfl rfl) (fun _ => Below.refl _ _) (fun u X hX hd => ?_) ?_
                rotate_left
                · obtain ⟨q0, q1, q2, q3, q4, q5⟩ := HA.out X (bnext HJ.out hX)
                  obtain ⟨r0, r1⟩ := hQ2.out X hX
                  try simp at hd
                  go_simp
                  try rfl
                apply walkK_norm
                · first | (simp only [List.nil_append, List.cons_append]; rfl) | simp only [List.nil_append, List.cons_append]
                refine walkK_is ?_ (by first | exact gs0 rfl | exact gs1 rfl rfl rfl) (fun _ => Below.refl _ _) (fun u X hX hd => ?_) ?_
                rotate_left
                · obtain ⟨q0, q1, q2, q3, q4, q5⟩ := HA.out X (bnext HJ.out hX)
                  obtain ⟨r0, r1⟩ := hQ2.out X hX
                  try simp at hd
                  go_simp
                  try rfl
                apply walkK_norm
                · first | (simp only [List.nil_append, List.cons_append]; rfl) | simp only [List.nil_append, List.cons_append]
                refine walkK_is ?_ (by first | exact gs0 rfl | exact gs1 rfl rfl rfl) (fun _ => Below.refl _ _) (fun u X hX hd => ?_) ?_
                rotate_left
                · obtain ⟨q0, q1, q2, q3, q4, q5⟩ := HA.out X (bnext HJ.out hX)
                  obtain ⟨r0, r1⟩ := hQ2.out X hX
                  try simp at hd
                  go_simp
                  try rfl
                apply walkK_norm
                · first | (simp only [List.nil_append, List.cons_append]; rfl) | simp only [List.nil_append, List.cons_append]
                refine walkK_is (cmV x.ra x.nr x.rc x.wa x.nw x.wc x.aa x.na x.ac x.c.fuel x.ca x.nc x.cc) (by first | exact gs0 rfl | exact gs1 rfl rfl rfl) (fun _ => Below.refl _ _) (fun u X hX hd => ?_) ?_
                · obtain ⟨q0, q1, q2, q3, q4, q5⟩ := HA.out X (bnext HJ.out hX)
                  obtain ⟨r0, r1⟩ := hQ2.out X hX
                  try simp at hd
                  go_simp
                  try rfl
                apply walkK_norm
                · first | (simp only [List.nil_append, List.cons_append]; rfl) | simp only [List.nil_append, List.cons_append]
                refine walkK_is ?_ (by first | exact gs0 rfl | exact gs1 rfl rfl rfl) (fun _ => Below.refl _ _) (fun u X hX hd => ?_) ?_
                rotate_left
                · obtain ⟨q0, q1, q2, q3, q4, q5⟩ := HA.out X (bnext HJ.out hX)
                  obtain ⟨r0, r1⟩ := hQ2.out X hX
                  try simp at hd
                  go_simp
                  try rfl
                apply walkK_norm
                · first | (simp only [List.nil_append, List.cons_append]; rfl) | simp only [List.nil_append, List.cons_append]
                refine walkK_is ?_ (by first | exact gs0 rfl | exact gs1 rfl rfl rfl) (fun _ => Below.refl _ _) (fun u X hX hd => ?_) ?_
                rotate_left
                · obtain ⟨q0, q1, q2, q3, q4, q5⟩ := HA.out X (bnext HJ.out hX)
                  obtain ⟨r0, r1⟩ := hQ2.out X hX
                  try simp at hd
                  go_simp
                  try rfl
                apply walkK_norm
                · first | (simp only [List.nil_append, List.cons_append]; rfl) | simp only [List.nil_append, List.cons_append]
                refine walkK_is ?_ (by first | exact gs0 rfl | exact gs1 rfl rfl rfl) (fun _ => Below.refl _ _) (fun u X hX hd => ?_) ?_
                rotate_left
                · obtain ⟨q0, q1, q2, q3, q4, q5⟩ := HA.out X (bnext HJ.out hX)
                  obtain ⟨r0, r1⟩ := hQ2.out X hX
                  try simp at hd
                  go_simp
                  try rfl
                apply walkK_norm
                · first | (simp only [List.nil_append, List.cons_append]; rfl) | simp only [List.nil_append, List.cons_append]
                refine walkK_is ?_ (by first | exact gs0 rfl | exact gs1 rfl rfl rfl) (fun _ => Below.refl _ _) (fun u X hX hd => ?_) ?_
                rotate_left
                · obtain ⟨q0, q1, q2, q3, q4, q5⟩ := HA.out X (bnext HJ.out hX)
                  obtain ⟨r0, r1⟩ := hQ2.out X hX
                  try simp at hd
                  go_simp
                  try rfl
                apply walkK_norm
                · first | (simp only [List.nil_append, List.cons_append]; rfl) | simp only [List.nil_append, List.cons_append]
                refine walkK_is (.int .i64 ((j : Int) + 1)) (by first | exact gs0 rfl | exact gs1 rfl rfl rfl) (fun _ => Below.refl _ _) (fun u X hX hd => ?_) ?_
                · obtain ⟨q0, q1, q2, q3, q4, q5⟩ := HA.out X (bnext HJ.out hX)
                  obtain ⟨r0, r1⟩ := hQ2.out X hX
                  try simp at hd
                  go_simp
                  try rfl
                apply walkK_norm
                · first | (simp only [List.nil_append, List.cons_append]; rfl) | simp only [List.nil_append, List.cons_append]
                refine walkK_call (lkoV w.heap.size 6 (lksW (whoF l (lf.take 0 ++ lf.drop (1))) 6)) 17 ?_ (by first | exact gs0 rfl | exact gs1 rfl rfl rfl) (fun v x y hb h => lkoV_keep v x y hb h) (fun u X hX hd => ?_) (fun X hX => ?_) ?_
                rotate_left
                · obtain ⟨q0, q1, q2, q3, q4, q5⟩ := HA.out X (bnext HJ.out hX)
                  obtain ⟨r0, r1⟩ := hQ2.out X hX
                  try simp at hd
                  go_simp
                  try rfl
                · exact hg.out X hX
                apply walkK_norm
                · first | (simp only [List.nil_append, List.cons_append]; rfl) | simp only [List.nil_append, List.cons_append]
                intro u X hX hsay
                simp only [sayAll, isV] at hsay
                obtain ⟨-, -, -, -, -, -, -, -, -, -, -, -, -, v13, -⟩ := hsay
                obtain ⟨P3, k3, v13, hS⟩ := v13
                simp only [putAll, Act.put, v13, List.setIfInBounds_toArray, List.set_cons_succ, List.set_cons_zero, Nat.zero_add, Nat.reduceAdd]
                obtain ⟨wy, hWY⟩ : ∃ W, W = X := ⟨_, rfl⟩
                rw [← hWY] at hX hS ⊢
                have SX := Lib.hid hS
                have BY := Lib.hid (bnext HJ.out hX)
                have hBX : Hid (∀ X, Below wy.heap.size wy X → w.heap.size ≤ X.heap.size) := Lib.hid (fun X hX => Nat.le_trans HB.out.size (bnext BY.out hX).size)
                have SLf : Hid (∀ X, Below wy.heap.size wy X → Sl X 1 (some ⟨b, 0, none⟩) 0 q (nats (lf.take 0))) := Lib.hid (fun X hX => by
                  have h1 := Sl.own' (own_below HM.out.2 (bnext BY.out hX))
                  obtain ⟨d, hd⟩ : ∃ d, m = 0 + (d + 1) := ⟨m - 0 - 1, by omega⟩
                  rw [hd] at h1
                  have := h1.front (by omega)
                  unfold nats at this ⊢
                  rwa [← List.map_take] at this)
                have n1 : ¬ q < 0 := by omega
                have n2 : ¬ m < 1 := by omega
                have n3 : ¬ q < m := by omega
                have n4 : 0 ≤ 1 := by omega
                clear hX hS v13 hWY
                go_wp2
                try simp only [List.append_eq, List.cons_append, List.nil_append]
                refine wp_region_saysK 9 (fun x y => Below x.heap.size x y) (fun _ _ _ h k => bnext h k) wy (below_drew1 wy) (by kernel_rfl) (by kernel_rfl) (by kernel_rfl) (by kernel_rfl) (by rfl) ?_
                simp only [List.take_succ_cons, List.take_zero, List.drop_succ_cons, List.drop_zero]
                refine walkK_new (noneV w.heap.size 3) (by first | exact gs0 rfl | exact gs1 rfl rfl rfl) (fun v x y hb h => noneV_below v x y hb h) (fun u X hX hd => ⟨_, _, exec_none _ _ _ rfl, below_alloc1 _ _, _, rfl, World.ownsRow_lit X #[] 0 (hBX.out X hX) (by decide) rfl⟩) ?_
                apply walkK_norm
                · first | (simp only [List.nil_append]; rfl) | simp only [List.nil_append]
                refine walkK_is ?_ (by first | exact gs0 rfl | exact gs1 rfl rfl rfl) (fun _ => Below.refl _ _) (fun u X hX hd => ?_) ?_
                rotate_left
                · skip
                  try simp at hd
                  go_simp
                  try rfl
                apply walkK_norm
                · first | (simp only [List.nil_append, List.cons_append]; rfl) | simp only [List.nil_append, List.cons_append]
                refine walkK_is ?_ (by first | exact gs0 rfl | exact gs1 rfl rfl rfl) (fun _ => Below.refl _ _) (fun u X hX hd => ?_) ?_
                rotate_left
                · skip
                  try simp at hd
                  go_simp
                  try rfl
                apply walkK_norm
                · first | (simp only [List.nil_append, List.cons_append]; rfl) | simp only [List.nil_append, List.cons_append]
                refine walkK_is (.slice (some ⟨b, 0, none⟩) 0 q) (by first | exact gs0 rfl | exact gs1 rfl rfl rfl) (fun _ => Below.refl _ _) (fun u X hX hd => ?_) ?_
                · skip
                  try simp at hd
                  go_simp
                  try rfl
                apply walkK_norm
                · first | (simp only [List.nil_append, List.cons_append]; rfl) | simp only [List.nil_append, List.cons_append]
                refine walkK_new (listV w.heap.size 3 0 (nats (lf.take 0))) (by first | exact gs0 rfl | exact gs1 rfl rfl rfl) (fun v x y hb h => listV_below v x y hb h) (fun u X hX hd => ?_) ?_
                · simp at hd
                  obtain ⟨⟨g, hg, ho⟩, h4⟩ := hd
                  obtain ⟨v, w', hr, hb, hl⟩ := run_append_none (P := Try.prog) X 29 29 w.heap.size 3 i0 _ 8 Try.underlying29 hi0 hz0 hz1 hz2 rfl (hBX.out X hX) g ho _ _ _ _ (SLf.out X hX) (nats_one _) (by unfold maxLen; omega) (by omega)
                  exact ⟨v, w', exec_append _ _ _ _ _ _ rfl (by go_simp) (by go_simp) hr, hb, hl⟩
                apply walkK_norm
                · first | (simp only [List.nil_append, List.cons_append]; rfl) | simp only [List.nil_append, List.cons_append]
                refine walkK_is ?_ (by first | exact gs0 rfl | exact gs1 rfl rfl rfl) (fun _ => Below.refl _ _) (fun u X hX hd => ?_) ?_
                rotate_left
                · skip
                  try simp at hd
                  go_simp
                  try rfl
                apply walkK_norm
                · first | (simp only [List.nil_append, List.cons_append]; rfl) | simp only [List.nil_append, List.cons_append]
                refine walkK_is ?_ (by first | exact gs0 rfl | exact gs1 rfl rfl rfl) (fun _ => Below.refl _ _) (fun u X hX hd => ?_) ?_
                rotate_left
                · skip
                  try simp at hd
                  go_simp
                  try rfl
                apply walkK_norm
                · first | (simp only [List.nil_append, List.cons_append]; rfl) | simp only [List.nil_append, List.cons_append]
                refine walkK_is (.int .i64 (1)) (by first | exact gs0 rfl | exact gs1 rfl rfl rfl) (fun _ => Below.refl _ _) (fun u X hX hd => ?_) ?_
                · skip
                  try simp at hd
                  go_simp
                  try rfl
                apply walkK_norm
                · first | (simp only [List.nil_append, List.cons_append]; rfl) | simp only [List.nil_append, List.cons_append]
                refine walkK_is (.slice (restA b q (1)) (m - (1)) (q - (1))) (by first | exact gs0 rfl | exact gs1 rfl rfl rfl) (fun _ => Below.refl _ _) (fun u X hX hd => ?_) ?_
                · try simp at hd
                  go_simp
                  try rfl
                apply walkK_norm
                · first | (simp only [List.nil_append, List.cons_append]; rfl) | simp only [List.nil_append, List.cons_append]
                intro u X hX hsay
                simp only [sayAll, isV] at hsay
                obtain ⟨-, -, -, -, v4, -, -, -, v8, -⟩ := hsay
                obtain ⟨A4, q4, v4, hO4, -⟩ := v4
                simp only [putAll, Act.put, v4, v8, List.setIfInBounds_toArray, List.set_cons_succ, List.set_cons_zero, Nat.zero_add, Nat.reduceAdd]
                have BX := Lib.hid (bnext BY.out hX)
                have BW := Lib.hid (HB.out.trans (BX.out.mono HB.out.size))
                have SR := Lib.hid ((Sl.own' (own_below HM.out.2 BX.out)).restA (k := 1) (by omega))
                have SX2 := Lib.hid (SX.out.below hX)
                have O4 := Lib.hid hO4
                have Z4 := BW.out.size
                clear hX hO4 v4 v8
                go_wp2_with (at_builtin; go_must (refine append_sl rfl _ _ _ rfl w.heap.size 3 i0 _ 1 8 Try.underlying29 hi0 hz0 hz1 hz2 rfl (by decide) _ 0 _ rfl O4.out (restA b q (1)) (m - (1)) (q - (1)) _ rfl SR.out (fun u hu => nats_one lf u (List.mem_of_mem_drop hu)) (by unfold maxLen; omega) (by omega) Z4 ?_; intro v' w6 hown hgr; obtain ⟨A6, q6, rfl, -⟩ := Sl.own hown; have B6 := Lib.hid (BW.out.grown hgr Z4 (fun b hb => own_ge O4.out hb)); have L6 := Lib.hid (SX2.out.grown hgr (own_other O4.out (by decide)) (own_other O4.out (by decide))); have O6 : Hid (OwnN w.heap.size w6 A6 (m - 1) q6 (lf.take 0 ++ lf.drop (1))) := Lib.hid (OwnN.joined (k := 0) rfl hown HLL.out HM.out.1 (by omega)); clear hown hgr))
                go_roundw
                case rel => exact ⟨t + 1, m - 1, k3, q6, P3, A6, _, by have := HTM.out; omega, rfl, rfl, by go_num, L6, O6, HL2, B6⟩
                case measure => simp [intOf]; omega
          · have t1 : ¬ (t : Int) < (on : Int) := by omega
            go_wp2
            obtain ⟨j, hj⟩ : ∃ j, lf[0]? = some j := ⟨_, List.getElem?_eq_getElem (by omega)⟩
            have hjn := HL.out.2 j (List.mem_of_getElem? hj)
            obtain ⟨x, hx⟩ := cml_at (l := l) (i := j) (by rw [HN.out]; exact hjn)
            have hmf := HR.out.at hx
            obtain ⟨bb2, off2, hAA, hA⟩ := (H.out.below HB.out).lies hx
            injection hAA with hAA
            injection hAA with hA3 hA4
            subst hA3
            subst hA4
            have HA := Lib.hid hA
            have g1 : (j : Int) < (n : Int) := by omega
            have g2 : (j : Int) < (c : Int) := by omega
            have g3 : (0 : Int) < (m : Int) := by omega
            have g4 : (0 : Int) < (q : Int) := by omega
            have g5 : 1 ≤ (m : Int) := by omega
            have g6 : 1 ≤ (q : Int) := by omega
            have gw : IntKind.i64.wrap ((j : Int) + 1) = (j : Int) + 1 := by rw [IntKind.wrap_i64]; omega
            have n1 : ¬ q < 0 := by omega
            have n2 : ¬ m < 1 := by omega
            have n3 : ¬ q < 1 := by omega
            have hQ2 : Hid (∀ X, Below wz.heap.size wz X → X.cell? ⟨b, 0, none⟩ = some (.int .i64 (j : Int)) ∧ b < X.heap.size) := Lib.hid (fun X hX => ⟨(HLB.out X (bnext BZ.out hX)).2 0 j hj, (HLB.out X (bnext BZ.out hX)).1⟩)
            have hg : Hid (∀ X, Below wz.heap.size wz X → Calls Try.prog 17 #[.slice P 6 k, cmV x.ra x.nr x.rc x.wa x.nw x.wc x.aa x.na x.ac x.c.fuel x.ca x.nc x.cc, .int .i64 ((j : Int) + 1)] X fun e X' => ∃ v, e = .returned v ∧ Below X.heap.size X X' ∧ lkoV w.heap.size 6 (lksW (whoF l (lf.take 0 ++ lf.drop (1))) 6) v X') := Lib.hid (fun X hX => by
              have hXr := bnext BZ.out hX
              have := (give_who x.c x.ra x.nr x.rc x.wa x.nw x.wc x.aa x.na x.ac x.c.fuel x.ca x.nc x.cc (whoF l lf) P 6 k ((j : Int) + 1) X (HP.out.below hXr).sl (by decide) (by rw [whoF_length]; omega) hmf.1.sets (fun z hz e => whoF_one hz hx e) (CmL.lkR (H.out.below (HB.out.trans (hXr.mono HB.out.size))) HR.out hx)).mono fun _ _ h => h.saysO (B := w.heap.size) (Nat.le_trans HB.out.size hXr.size)
              rwa [whoF_gone hj HL.out.1] at this)
            have HL2 : Hid ((lf.take 0 ++ lf.drop (1)).Nodup ∧ ∀ y ∈ lf.take 0 ++ lf.drop (1), y < n) := Lib.hid ⟨(left_nodup hj HL.out.1).1, fun y hy => HL.out.2 y (by
              rcases List.mem_append.1 hy with hy | hy
              · exact List.mem_of_mem_take hy
              · exact List.mem_of_mem_drop hy)⟩
            have hll : (lf.take 0 ++ lf.drop (1)).length + 1 = lf.length := left_length hj
            have HLL := Lib.hid hll
            clear hj hjn hx hmf hA hll
            go_wp2
            try simp only [List.append_eq, List.cons_append, List.nil_append]
            refine wp_region_saysK 14 (fun x y => Below x.heap.size x y) (fun _ _ _ h k => bnext h k) wz (below_drew1 wz) (by kernel_rfl) (by kernel_rfl) (by kernel_rfl) (by kernel_rfl) (by rfl) ?_
            simp only [List.take_succ_cons, List.take_zero, List.drop_succ_cons, List.drop_zero]
            refine walkK_is ?_ (by first | exact gs0 rfl | exact gs1 rfl rfl rfl) (fun _ => Below.refl _ _) (fun u X hX hd => ?_) ?_
            rotate_left
            · obtain ⟨q0, q1, q2, q3, q4, q5⟩ := HA.out X (bnext BZ.out hX)
              obtain ⟨r0, r1⟩ := hQ2.out X hX
              try simp at hd
              go_simp
              try rfl
            apply walkK_norm
            · first | (simp only [List.nil_append]; rfl) | simp only [List.nil_append]
            refine walkK_is ?_ (by first | exact gs0 rfl | exact gs1 rfl rfl rfl) (fun _ => Below.refl _ _) (fun u X hX hd => ?_) ?_
            rotate_left
            · obtain ⟨q0, q1, q2, q3, q4, q5⟩ := HA.out X (bnext BZ.out hX)
              obtain ⟨r0, r1⟩ := hQ2.out X hX
              try simp at hd
              go_simp
              try rfl
            apply walkK_norm
            · first | (simp only [List.nil_append, List.cons_append]; rfl) | simp only [List.nil_append, List.cons_append]
            refine walkK_is ?_ (by first | exact gs0 rfl | exact gs1 rfl rfl rfl) (fun _ => Below.refl _ _) (fun u X hX hd => ?_) ?_
            rotate_left
            · obtain ⟨q0, q1, q2, q3, q4, q5⟩ := HA.out X (bnext BZ.out hX)
              obtain ⟨r0, r1⟩ := hQ2.out X hX
              try simp at hd
              go_simp
              try rfl
            apply walkK_norm
            · first | (simp only [List.nil_append, List.cons_append]; rfl) | simp only [List.nil_append, List.cons_append]
            refine walkK_is ?_ (by first | exact gs0 rfl | exact gs1 rfl rfl rfl) (fun _ => Below.refl _ _) (fun u X hX hd => ?_) ?_
            rotate_left
            · obtain ⟨q0, q1, q2, q3, q4, q5⟩ := HA.out X (bnext BZ.out hX)
              obtain ⟨r0, r1⟩ := hQ2.out X hX
              try simp at hd
              go_simp
              try rfl
            apply walkK_norm
            · first | (simp only [List.nil_append, List.cons_append]; rfl) | simp only [List.nil_append, List.cons_append]
            refine walkK_is ?_ (by first | exact gs0 rfl | exact gs1 rfl rfl rfl) (fun _ => Below.refl _ _) (fun u X hX hd => ?_) ?_
            rotate_left
            · obtain ⟨q0, q1, q2, q3, q4, q5⟩ := HA.out X (bnext BZ.out hX)
              obtain ⟨r0, r1⟩ := hQ2.out X hX
              try simp at hd
              go_simp
              try rfl
            apply walkK_norm
            · first | (simp only [List.nil_append, List.cons_append]; rfl) | simp only [List.nil_append, List.cons_append]
            refine walkK_is ?_ (by first | exact gs0 rfl | exact gs1 rfl rfl rfl) (fun _ => Below.refl _ _) (fun u X hX hd => ?_) ?_
            rotate_left
            · obtain ⟨q0, q1, q2, q3, q4, q5⟩ := HA.out X (bnext BZ.out hX)
              obtain ⟨r0, r1⟩ := hQ2.out X hX
              try simp at hd
              go_simp
              try rfl
            apply walkK_norm
            · first | (simp only [List.nil_append, List.cons_append]; rfl) | simp only [List.nil_append, List.cons_append]
            refine walkK_is ?_ (by first | exact gs0 rfl | exact gs1 rfl rfl rfl) (fun _ => Below.refl _ _) (fun u X hX hd => ?_) ?_
            rotate_left
            · obtain ⟨q0, q1, q2, q3, q4, q5⟩ := HA.out X (bnext BZ.out hX)
              obtain ⟨r0, r1⟩ := hQ2.out X hX
              try simp at hd
              go_simp
              try rfl
            apply walkK_norm
            · first | (simp only [List.nil_append, List.cons_append]; rfl) | simp only [List.nil_append, List.cons_append]
            refine walkK_is (cmV x.ra x.nr x.rc x.wa x.nw x.wc x.aa x.na x.ac x.c.fuel x.ca x.nc x.cc) (by first | exact gs0 rfl | exact gs1 rfl rfl rfl) (fun _ => Below.refl _ _) (fun u X hX hd => ?_) ?_
            · obtain ⟨q0, q1, q2, q3, q4, q5⟩ := HA.out X (bnext BZ.out hX)
              obtain ⟨r0, r1⟩ := hQ2.out X hX
              try simp at hd
              go_simp
              try rfl
            apply walkK_norm
            · first | (simp only [List.nil_append, List.cons_append]; rfl) | simp only [List.nil_append, List.cons_append]
            refine walkK_is ?_ (by first | exact gs0 rfl | exact gs1 rfl rfl rfl) (fun _ => Below.refl _ _) (fun u X hX hd => ?_) ?_
            rotate_left
            · obtain ⟨q0, q1, q2, q3, q4, q5⟩ := HA.out X (bnext BZ.out hX)
              obtain ⟨r0, r1⟩ := hQ2.out X hX
              try simp at hd
              go_simp
              try rfl
            apply walkK_norm
            · first | (simp only [List.nil_append, List.cons_append]; rfl) | simp only [List.nil_append, List.cons_append]
            refine walkK_is ?_ (by first | exact gs0 rfl | exact gs1 rfl rfl rfl) (fun _ => Below.refl _ _) (fun u X hX hd => ?_) ?_
            rotate_left
            · obtain ⟨q0, q1, q2, q3, q4, q5⟩ := HA.out X (bnext BZ.out hX)
              obtain ⟨r0, r1⟩ := hQ2.out X hX
              try simp at hd
              go_simp
              try rfl
            apply walkK_norm
            · first | (simp only [List.nil_append, List.cons_append]; rfl) | simp only [List.nil_append, List.cons_append]
            refine walkK_is ?_ (by first | exact gs0 rfl | exact gs1 rfl rfl rfl) (fun _ => Below.refl _ _) (fun u X hX hd => ?_) ?_
            rotate_left
            · obtain ⟨q0, q1, q2, q3, q4, q5⟩ := HA.out X (bnext BZ.out hX)
              obtain ⟨r0, r1⟩ := hQ2.out X hX
              try simp at hd
              go_simp
              try rfl
            apply walkK_norm
            · first | (simp only [List.nil_append, List.cons_append]; rfl) | simp only [List.nil_append, List.cons_append]
            refine walkK_is ?_ (by first | exact gs0 rfl | exact gs1 rfl rfl rfl) (fun _ => Below.refl _ _) (fun u X hX hd => ?_) ?_
            rotate_left
            · obtain ⟨q0, q1, q2, q3, q4, q5⟩ := HA.out X (bnext BZ.out hX)
              obtain ⟨r0, r1⟩ := hQ2.out X hX
              try simp at hd
              go_simp
              try rfl
            apply walkK_norm
            · first | (simp only [List.nil_append, List.cons_append]; rfl) | simp only [List.nil_append, List.cons_append]
            refine walkK_is (.int .i64 ((j : Int) + 1)) (by first | exact gs0 rfl | exact gs1 rfl rfl rfl) (fun _ => Below.refl _ _) (fun u X hX hd => ?_) ?_
            · obtain ⟨q0, q1, q2, q3, q4, q5⟩ := HA.out X (bnext BZ.out hX)
              obtain ⟨r0, r1⟩ := hQ2.out X hX
              try simp at hd
              go_simp
              try rfl
            apply walkK_norm
            · first | (simp only [List.nil_append, List.cons_append]; rfl) | simp only [List.nil_append, List.cons_append]
            refine walkK_call (lkoV w.heap.size 6 (lksW (whoF l (lf.take 0 ++ lf.drop (1))) 6)) 17 ?_ (by first | exact gs0 rfl | exact gs1 rfl rfl rfl) (fun v x y hb h => lkoV_keep v x y hb h) (fun u X hX hd => ?_) (fun X hX => ?_) ?_
            rotate_left
            · obtain ⟨q0, q1, q2, q3, q4, q5⟩ := HA.out X (bnext BZ.out hX)
              obtain ⟨r0, r1⟩ := hQ2.out X hX
              try simp at hd
              go_simp
              try rfl
            · exact hg.out X hX
            apply walkK_norm
            · first | (simp only [List.nil_append, List.cons_append]; rfl) | simp only [List.nil_append, List.cons_append]
            intro u X hX hsay
            simp only [sayAll, isV] at hsay
            obtain ⟨-, -, -, -, -, -, -, -, -, -, -, -, -, v13, -⟩ := hsay
            obtain ⟨P3, k3, v13, hS⟩ := v13
            simp only [putAll, Act.put, v13, List.setIfInBounds_toArray, List.set_cons_succ, List.set_cons_zero, Nat.zero_add, Nat.reduceAdd]
            obtain ⟨wy, hWY⟩ : ∃ W, W = X := ⟨_, rfl⟩
            rw [← hWY] at hX hS ⊢
            have SX := Lib.hid hS
            have BY := Lib.hid (bnext BZ.out hX)
            have hBX : Hid (∀ X, Below wy.heap.size wy X → w.heap.size ≤ X.heap.size) := Lib.hid (fun X hX => Nat.le_trans HB.out.size (bnext BY.out hX).size)
            have SLf : Hid (∀ X, Below wy.heap.size wy X → Sl X 1 (some ⟨b, 0, none⟩) 0 q (nats (lf.take 0))) := Lib.hid (fun X hX => by
              have h1 := Sl.own' (own_below HM.out.2 (bnext BY.out hX))
              obtain ⟨d, hd⟩ : ∃ d, m = 0 + (d + 1) := ⟨m - 0 - 1, by omega⟩
              rw [hd] at h1
              have := h1.front (by omega)
              unfold nats at this ⊢
              rwa [← List.map_take] at this)
            have n1 : ¬ q < 0 := by omega
            have n2 : ¬ m < 1 := by omega
            have n3 : ¬ q < m := by omega
            have n4 : 0 ≤ 1 := by omega
            clear hX hS v13 hWY
            go_wp2
            try simp only [List.append_eq, List.cons_append, List.nil_append]
            refine wp_region_saysK 9 (fun x y => Below x.heap.size x y) (fun _ _ _ h k => bnext h k) wy (below_drew1 wy) (by kernel_rfl) (by kernel_rfl) (by kernel_rfl) (by kernel_rfl) (by rfl) ?_
            simp only [List.take_succ_cons, List.take_zero, List.drop_succ_cons, List.drop_zero]
            refine walkK_new (noneV w.heap.size 3) (by first | exact gs0 rfl | exact gs1 rfl rfl rfl) (fun v x y hb h => noneV_below v x y hb h) (fun u X hX hd => ⟨_, _, exec_none _ _ _ rfl, below_alloc1 _ _, _, rfl, World.ownsRow_lit X #[] 0 (hBX.out X hX) (by decide) rfl⟩) ?_
            apply walkK_norm
            · first | (simp only [List.nil_append]; rfl) | simp only [List.nil_append]
            refine walkK_is ?_ (by first | exact gs0 rfl | exact gs1 rfl rfl rfl) (fun _ => Below.refl _ _) (fun u X hX hd => ?_) ?_
            rotate_left
            · skip
              try simp at hd
              go_simp
              try rfl
            apply walkK_norm
            · first | (simp only [List.nil_append, List.cons_append]; rfl) | simp only [List.nil_append, List.cons_append]
            refine walkK_is ?_ (by first | exact gs0 rfl | exact gs1 rfl rfl rfl) (fun _ => Below.refl _ _) (fun u X hX hd => ?_) ?_
            rotate_left
            · skip
              try simp at hd
              go_simp
              try rfl
            apply walkK_norm
            · first | (simp only [List.nil_append, List.cons_append]; rfl) | simp only [List.nil_append, List.cons_append]
            refine walkK_is (.slice (some ⟨b, 0, none⟩) 0 q) (by first | exact gs0 rfl | exact gs1 rfl rfl rfl) (fun _ => Below.refl _ _) (fun u X hX hd => ?_) ?_
            · skip
              try simp at hd
              go_simp
              try rfl
            apply walkK_norm
            · first | (simp only [List.nil_append, List.cons_append]; rfl) | simp only [List.nil_append, List.cons_append]
            refine walkK_new (listV w.heap.size 3 0 (nats (lf.take 0))) (by first | exact gs0 rfl | exact gs1 rfl rfl rfl) (fun v x y hb h => listV_below v x y hb h) (fun u X hX hd => ?_) ?_
            · simp at hd
              obtain ⟨⟨g, hg, ho⟩, h4⟩ := hd
              obtain ⟨v, w', hr, hb, hl⟩ := run_append_none (P := Try.prog) X 29 29 w.heap.size 3 i0 _ 8 Try.underlying29 hi0 hz0 hz1 hz2 rfl (hBX.out X hX) g ho _ _ _ _ (SLf.out X hX) (nats_one _) (by unfold maxLen; omega) (by omega)
              exact ⟨v, w', exec_append _ _ _ _ _ _ rfl (by go_simp) (by go_simp) hr, hb, hl⟩
            apply walkK_norm
            · first | (simp only [List.nil_append, List.cons_append]; rfl) | simp only [List.nil_append, List.cons_append]
            refine walkK_is ?_ (by first | exact gs0 rfl | exact gs1 rfl rfl rfl) (fun _ => Below.refl _ _) (fun u X hX hd => ?_) ?_
            rotate_left
            · skip
              try simp at hd
              go_simp
              try rfl
            apply walkK_norm
            · first | (simp only [List.nil_append, List.cons_append]; rfl) | simp only [List.nil_append, List.cons_append]
            refine walkK_is ?_ (by first | exact gs0 rfl | exact gs1 rfl rfl rfl) (fun _ => Below.refl _ _) (fun u X hX hd => ?_) ?_
            rotate_left
            · skip
              try simp at hd
              go_simp
              try rfl
            apply walkK_norm
            · first | (simp only [List.nil_append, List.cons_append]; rfl) | simp only [List.nil_append, List.cons_append]
            refine walkK_is (.int .i64 (1)) (by first | exact gs0 rfl | exact gs1 rfl rfl rfl) (fun _ => Below.refl _ _) (fun u X hX hd => ?_) ?_
            · skip
              try simp at hd
              go_simp
              try rfl
            apply walkK_norm
            · first | (simp only [List.nil_append, List.cons_append]; rfl) | simp only [List.nil_append, List.cons_append]
            refine walkK_is (.slice (restA b q (1)) (m - (1)) (q - (1))) (by first | exact gs0 rfl | exact gs1 rfl rfl rfl) (fun _ => Below.refl _ _) (fun u X hX hd => ?_) ?_
            · try simp at hd
              go_simp
              try rfl
            apply walkK_norm
            · first | (simp only [List.nil_append, List.cons_append]; rfl) | simp only [List.nil_append, List.cons_append]
            intro u X hX hsay
            simp only [sayAll, isV] at hsay
            obtain ⟨-, -, -, -, v4, -, -, -, v8, -⟩ := hsay
            obtain ⟨A4, q4, v4, hO4, -⟩ := v4
            simp only [putAll, Act.put, v4, v8, List.setIfInBounds_toArray, List.set_cons_succ, List.set_cons_zero, Nat.zero_add, Nat.reduceAdd]
            have BX := Lib.hid (bnext BY.out hX)
            have BW := Lib.hid (HB.out.trans (BX.out.mono HB.out.size))
            have SR := Lib.hid ((Sl.own' (own_below HM.out.2 BX.out)).restA (k := 1) (by omega))
            have SX2 := Lib.hid (SX.out.below hX)
            have O4 := Lib.hid hO4
            have Z4 := BW.out.size
            clear hX hO4 v4 v8
            go_wp2_with (at_builtin; go_must (refine append_sl rfl _ _ _ rfl w.heap.size 3 i0 _ 1 8 Try.underlying29 hi0 hz0 hz1 hz2 rfl (by decide) _ 0 _ rfl O4.out (restA b q (1)) (m - (1)) (q - (1)) _ rfl SR.out (fun u hu => nats_one lf u (List.mem_of_mem_drop hu)) (by unfold maxLen; omega) (by omega) Z4 ?_; intro v' w6 hown hgr; obtain ⟨A6, q6, rfl, -⟩ := Sl.own hown; have B6 := Lib.hid (BW.out.grown hgr Z4 (fun b hb => own_ge O4.out hb)); have L6 := Lib.hid (SX2.out.grown hgr (own_other O4.out (by decide)) (own_other O4.out (by decide))); have O6 : Hid (OwnN w.heap.size w6 A6 (m - 1) q6 (lf.take 0 ++ lf.drop (1))) := Lib.hid (OwnN.joined (k := 0) rfl hown HLL.out HM.out.1 (by omega)); clear hown hgr))
            go_roundw
            case rel => exact ⟨t + 1, m - 1, k3, q6, P3, A6, _, by have := HTM.out; omega, rfl, rfl, by go_num, L6, O6, HL2, B6⟩
            case measure => simp [intOf]; omega
        · obtain rfl : m = 0 := by omega
          obtain rfl : lf = [] := List.eq_nil_of_length_eq_zero HM.out.1
          clear hpos htm
          have HP1 : Hid (LkOwn w.heap.size wo P 6 k (lksW [] 6)) := HP
          have hcapP := HP.out.cap
          clear HP HM HL
          go_wp2
          go_loopw [11] (fun cc wr => ∃ i : Nat, i ≤ 6 ∧ cc = .int .i64 i ∧ wr = wo) (fun cc _ => 6 - (intOf cc).toNat)
          case atStart => exact ⟨0, by omega, rfl, rfl⟩
          case round =>
            obtain ⟨i, hi, rfl, hwe⟩ := hrel
            have e := hwe.symm
            subst e
            by_cases hlt : i < 6
            · obtain ⟨g, A4, m4, k4, rfl, hg, hgl, hfz, x0, hm4, -⟩ := HP1.out.at hlt
              rw [lksW_at _ hlt] at hm4
              obtain rfl : m4 = 0 := by rw [← hm4]; rfl
              have d1 : (i : Int) < 6 := by omega
              have d2 : (i : Int) < (k : Int) := by omega
              clear hm4
              go_wp2
              go_roundw
              case rel => exact ⟨i + 1, by omega, by go_num, trivial⟩
              case measure => simp [intOf]; omega
            · obtain rfl : i = 6 := by omega
              clear hlt
              go_wp2_with (go_at_call 9; go_must ((with_reducible refine (aw.out _).mono ?_); rintro e w9 ⟨rfl, hb9⟩; have B9 := Lib.hid (HB.out.trans (hb9.mono HB.out.size)); clear hb9))
              go_ret
              exact ⟨rfl, B9.out⟩

theorem locksFirst_walk (hz : n ≤ 9223372036854775807) (w : World) (h : Cmds w A c l) (hN : l.length = n) (ho : U8s w oA oc o) (hon : o.length = on) (hob : ∀ b ∈ o, 0 ≤ b ∧ b ≤ 255) :
    Calls Try.prog 4 #[.slice A n c, .slice oA on oc] w fun e w' => e = .returned (.bool true) ∧ Below w.heap.size w w' := by
  by_cases hr : RightL l 6
  · by_cases h60 : 60 < on
    · exact locksFirst_long l A n c oA on oc w h hN hr h60
    · exact locksFirst_main l A n c o oA on oc w h hN hr ho hon (by omega) hob
  · exact locksFirst_no l A n c oA on oc hz w h hN hr

end
end Go.Proofs.Ytcffmkphfahapaa
