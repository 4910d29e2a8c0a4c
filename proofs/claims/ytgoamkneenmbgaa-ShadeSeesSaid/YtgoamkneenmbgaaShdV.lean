/-
  ShadeSees, walked: true of any blocks and any changes, in whatever memory.
-/
import Derived.Test.YtgoamkneenmbgaaShdS
namespace Go.Proofs.Ytgoamkneenmbgaa
open Go.RowKit
attribute [local go_sem] look findAt
attribute [local simp] depsOf isV Region.binds

section
variable (l : List Ent) (lA : Option Addr) (ln lc : Nat) (cs : List Chg) (cA : Option Addr) (cn cc : Nat)

set_option maxHeartbeats 4000000 in
theorem shadeSees_no (hno : 70 < ln ∨ 60 < cn) (w : World) :
    Calls Try.prog 4 #[.slice lA ln lc, .slice cA cn cc] w fun e w' => e = .returned (.bool true) ∧ Below w.heap.size w w' := by
  have aw := Lib.hid (fun W => awake13 W)
  by_cases h1 : 70 < ln
  · have d1 : decide ((70 : Int) < (ln : Int)) = true := decide_eq_true (by omega)
    have d2 : decide (70 < ln) = true := decide_eq_true h1
    clear hno
    go_enter Try.func4, Try.ntmps4
    go_wp2_with (go_at_call 7; go_must ((with_reducible refine (aw.out _).mono ?_); rintro e w2 ⟨rfl, hb2⟩; have B2 := Lib.hid hb2))
    go_ret
    exact ⟨rfl, B2.out⟩
  · have h2 : 60 < cn := by omega
    have d1 : decide ((70 : Int) < (ln : Int)) = false := decide_eq_false (by omega)
    have d2 : decide (70 < ln) = false := decide_eq_false h1
    have d3 : decide ((60 : Int) < (cn : Int)) = true := decide_eq_true (by omega)
    have d4 : decide (60 < cn) = true := decide_eq_true h2
    clear hno
    go_enter Try.func4, Try.ntmps4
    go_wp2_with (go_at_call 7; go_must ((with_reducible refine (aw.out _).mono ?_); rintro e w2 ⟨rfl, hb2⟩; have B2 := Lib.hid hb2))
    go_ret
    exact ⟨rfl, B2.out⟩

set_option maxHeartbeats 32000000 in
set_option maxRecDepth 100000 in
theorem shadeSees_main (hl : ln ≤ 70) (hc : cn ≤ 60) (w : World) (hL : Ents w lA lc l) (h8 : Eight l) (hln : l.length = ln) (hC : Chgs w cA cc cs) (h8c : EightC cs) (hcn : cs.length = cn) :
    Calls Try.prog 4 #[.slice lA ln lc, .slice cA cn cc] w fun e w' => e = .returned (.bool true) ∧ Below w.heap.size w w' := by
  have aw := Lib.hid (fun W => awake13 W)
  have d1 : decide ((70 : Int) < (ln : Int)) = false := decide_eq_false (by omega)
  have d2 : decide (70 < ln) = false := decide_eq_false (by omega)
  have d3 : decide ((60 : Int) < (cn : Int)) = false := decide_eq_false (by omega)
  have d4 : decide (60 < cn) = false := decide_eq_false (by omega)
  have hlc : ln ≤ lc := by have := hL.2.1; omega
  have hcc : cn ≤ cc := by have := hC.2.1; omega
  have be : Hid (∀ W : World, Calls Try.prog 8 #[.agg (mkC false 0 0 0 0 0 0 (.slice none 0 0) (.slice none 0 0)), .int .i64 (ln : Int)] W (MkPost true 0 0 0 0 0 0 ln (beginS (ln : Int)) W)) := Lib.hid (fun W => begin_any false 0 0 0 0 0 0 _ _ ln (by omega) W)
  have kp : Hid (∀ (W : World) (old : List Ent) (kept : List Bool) (x : List Ent) (xA : Option Addr) (xc : Nat) (i : Int) (oA : Option Addr) (oc : Nat) (kA : Option Addr) (kc : Nat), MkIn W old kept oA ln oc kA ln kc → Ents W xA xc x → Eight x → x.length = ln → Calls Try.prog 10 #[.agg (mkC true 0 0 0 0 0 0 (.slice oA ln oc) (.slice kA ln kc)), .slice xA ln xc, .int .i64 i] W (MkPost true 0 0 0 0 0 0 ln (keepS ⟨true, old, kept⟩ x i) W)) := Lib.hid (fun W old kept x xA xc i oA oc kA kc hM hX hx8 hxl => keep_any true 0 0 0 0 0 0 oA ln oc kA kc old kept x xA ln xc i W hM hX hx8 hxl (by omega))
  have se : Hid (∀ (W : World) (old : List Ent) (kept : List Bool) (x : List Ent) (xA : Option Addr) (xc : Nat) (i : Int) (oA : Option Addr) (oc : Nat) (kA : Option Addr) (kc : Nat), MkIn W old kept oA ln oc kA ln kc → Ents W xA xc x → Eight x → x.length = ln → Calls Try.prog 13 #[.agg (mkC true 0 0 0 0 0 0 (.slice oA ln oc) (.slice kA ln kc)), .slice xA ln xc, .int .i64 i] W fun e w' => e = .returned (.agg (bkC (entI (seeS ⟨true, old, kept⟩ x i)))) ∧ Below W.heap.size W w') := Lib.hid (fun W old kept x xA xc i oA oc kA kc hM hX hx8 hxl => see_any true 0 0 0 0 0 0 oA ln oc kA kc old kept x xA ln xc i W hM hX hx8 hxl)
  obtain ⟨iE, hie, he0, hes, heb⟩ := infoEntZ
  have HL := Lib.hid hL
  have H8 := Lib.hid h8
  have HLN := Lib.hid hln
  have HC := Lib.hid hC
  have H8C := Lib.hid h8c
  have HCN := Lib.hid hcn
  have HE1 := Lib.hid (entsW_one l)
  have HLS : Hid (Sl w 9 lA ln lc (entsW l)) := Lib.hid (by have := hL; unfold Ents at this; rwa [hln] at this)
  clear hL h8 hln hC h8c hcn
  go_enter Try.func4, Try.ntmps4
  go_wp2_with (first
    | (go_at_call 8; go_must ((with_reducible refine (be.out _).mono ?_); rintro e w1 ⟨oA0, oc0, kA0, kc0, rfl, hM, hb⟩; have B1 := Lib.hid (bnext hb (varK_below w1 (mkC true 0 0 0 0 0 0 (.slice oA0 ln oc0) (.slice kA0 ln kc0)))); have M1 := Lib.hid (hM.below (varK_below w1 (mkC true 0 0 0 0 0 0 (.slice oA0 ln oc0) (.slice kA0 ln kc0)))); have V1 := Lib.hid (varK_bk w1 (mkC true 0 0 0 0 0 0 (.slice oA0 ln oc0) (.slice kA0 ln kc0))); have N1 := Lib.hid (Bk.new w1 25 mkZ); have Z1 : w.heap.size ≤ w1.heap.size := hb.size; clear hM hb))
    | (with_reducible refine st_mk w1.heap.size N1.out rfl rfl rfl _ _ rfl rfl rfl rfl ?_; go_must (obtain ⟨wz, hW⟩ : ∃ W, W = (w1.alloc (.cells mkZ 25)).setRow w1.heap.size (mkC true 0 0 0 0 0 0 (.slice oA0 ln oc0) (.slice kA0 ln kc0)) := ⟨_, rfl⟩; rw [← hW] at B1 M1 V1; rw [← hW]; clear hW N1; have EM : Hid ((wz.alloc (.cells #[] 34)).ownsRow wz.heap.size 34 9 (.slice (some ⟨wz.heap.size, 0, none⟩) 0 0) 0 []) := Lib.hid (World.ownsRow_lit wz #[] 0 (Nat.le_refl _) (by decide) rfl)))
    | (at_builtin; go_must (refine append_sl rfl (.tmp 22) (.tmp 23) _ rfl wz.heap.size 34 iE _ 9 72 Try.underlying22 hie he0 hes heb rfl (by decide) _ 0 [] rfl EM.out lA ln lc _ rfl (HLS.out.below (bnext B1.out (below_alloc1 _ _))) HE1.out (by unfold maxLen; omega) (by omega) (by simp) ?_; intro v' w3 ho3 hg3; have B3 : Hid (Below wz.heap.size wz w3) := Lib.hid (((Below.refl _ _).alloc (Nat.le_refl _) _).grown hg3 (by simp) (fun q hq => by have := own_ge EM.out hq; omega)); obtain ⟨xA, xc, rfl, -⟩ := Sl.own ho3; simp only [Nat.zero_add, List.nil_append] at ho3; have O3 : Hid (w3.ownsRow wz.heap.size 34 9 (.slice xA ln xc) ln (entsW l)) := Lib.hid ho3; clear ho3 hg3)))
  have S3 : Hid (ShS w w3 w1.heap.size ln xA xc true 0 0 0 0 0 0 (beginS (ln : Int)).old (beginS (ln : Int)).kept l ln oA0 oc0 kA0 kc0) := Lib.hid ⟨bnext B1.out B3.out, V1.out.below B3.out, Z1, M1.out.below B3.out, own_lower O3.out B1.out.size, fun g hg hq => by
    have h1 := own_ge O3.out hg
    have h2 := own_lt M1.out.oo hq
    omega, H8.out, HLN.out⟩
  have W3 : Hid (Saw (beginS (ln : Int)) l l) := Lib.hid (by have := saw_begin l; rwa [HLN.out] at this)
  clear B1 M1 V1 B3 O3 EM HE1 HLS be
  generalize w1.heap.size = gm at *
  go_loopw [7] (fun ii wr => ∃ (q : Nat) (old : List Ent) (kept : List Bool) (x : List Ent) (oA : Option Addr) (oc : Nat) (kA : Option Addr) (kc : Nat), q ≤ cn ∧ ii = .int .i64 (q : Int) ∧ Hid (ShS w wr gm ln xA xc true 0 0 0 0 0 0 old kept x ln oA oc kA kc) ∧ Hid (Saw ⟨true, old, kept⟩ x l)) (fun ii _ => cn - (intOf ii).toNat)
  case atStart => exact ⟨0, _, _, _, _, _, _, _, Nat.zero_le _, rfl, S3, W3⟩
  case round =>
    clear S3 W3
    obtain ⟨q, old, kept, x, oA, oc, kA, kc, hq, rfl, HS, HW⟩ := hrel
    by_cases hlt : q < cn
    · have t1 : (q : Int) < (cn : Int) := by omega
      have t2 : (q : Int) < (cc : Int) := by omega
      obtain ⟨bc, fc, rfl, hbc, hcr⟩ := HC.out.range H8C.out (i := q) (by rw [HCN.out]; exact hlt)
      have HT8 := Lib.hid (H8C.out.at q)
      generalize cs[q]?.getD chZ = ch at *
      obtain ⟨i, to⟩ := ch
      have HCR := Lib.hid hcr
      clear hcr
      have hQ : Hid (∀ X, Below wr.heap.size wr X → X.cell? ⟨bc, fc + q * 10, none⟩ = some (.int .i64 i)) := Lib.hid (fun X hX => (HCR.out X (bnext HS.out.below hX)).1)
      have hMk : Hid (∀ X, Below wr.heap.size wr X → (loadVar 25 ⟨gm, 0, none⟩).run Try.prog X = .ok (.agg (mkC true 0 0 0 0 0 0 (.slice oA ln oc) (.slice kA ln kc))) X) := Lib.hid (fun X hX => load_mk (HS.out.var.below hX))
      have kq : Hid (∀ X, Below wr.heap.size wr X → Calls Try.prog 10 #[.agg (mkC true 0 0 0 0 0 0 (.slice oA ln oc) (.slice kA ln kc)), .slice xA ln xc, .int .i64 i] X fun e w' => ∃ v, e = .returned v ∧ Below X.heap.size X w' ∧ keptV wr.heap.size true 0 0 0 0 0 0 ln (keepS ⟨true, old, kept⟩ x i) v w') := Lib.hid (fun X hX => keptV_call hX.size (kp.out X old kept x xA xc i oA oc kA kc (HS.out.own.inn.below hX) (HS.out.ents.below hX) HS.out.x8 HS.out.xl))
      go_wp2
      try simp only [List.append_eq, List.cons_append, List.nil_append]
      refine wp_region_saysK 8 (fun x y => Below x.heap.size x y) (fun _ _ _ h k => bnext h k) wr (below_drew1 wr) (by kernel_rfl) (by kernel_rfl) (by kernel_rfl) (by kernel_rfl) (by rfl) ?_
      simp only [List.take_succ_cons, List.take_zero, List.drop_succ_cons, List.drop_zero]
      refine walkK_is (.agg (mkC true 0 0 0 0 0 0 (.slice oA ln oc) (.slice kA ln kc))) (by first | exact gs0 rfl | exact gs1 rfl rfl rfl) (fun _ => Below.refl _ _) (fun u X hX hd => ?_) ?_
      · have hl := hMk.out X hX
        try simp at hd
        refine op_load_at 25 gm 0 hl _ rfl ?_
        go_simp
      apply walkK_norm
      · first | (simp only [List.nil_append]; rfl) | simp only [List.nil_append]
      refine walkK_is ?_ (by first | exact gs0 rfl | exact gs1 rfl rfl rfl) (fun _ => Below.refl _ _) (fun u X hX hd => ?_) ?_
      rotate_left
      · have q0 := hQ.out X hX
        try simp at hd
        go_simp
        try rfl
      apply walkK_norm
      · first | (simp only [List.nil_append, List.cons_append]; rfl) | simp only [List.nil_append, List.cons_append]
      refine walkK_is ?_ (by first | exact gs0 rfl | exact gs1 rfl rfl rfl) (fun _ => Below.refl _ _) (fun u X hX hd => ?_) ?_
      rotate_left
      · have q0 := hQ.out X hX
        try simp at hd
        go_simp
        try rfl
      apply walkK_norm
      · first | (simp only [List.nil_append, List.cons_append]; rfl) | simp only [List.nil_append, List.cons_append]
      refine walkK_is ?_ (by first | exact gs0 rfl | exact gs1 rfl rfl rfl) (fun _ => Below.refl _ _) (fun u X hX hd => ?_) ?_
      rotate_left
      · have q0 := hQ.out X hX
        try simp at hd
        go_simp
        try rfl
      apply walkK_norm
      · first | (simp only [List.nil_append, List.cons_append]; rfl) | simp only [List.nil_append, List.cons_append]
      refine walkK_is ?_ (by first | exact gs0 rfl | exact gs1 rfl rfl rfl) (fun _ => Below.refl _ _) (fun u X hX hd => ?_) ?_
      rotate_left
      · have q0 := hQ.out X hX
        try simp at hd
        go_simp
        try rfl
      apply walkK_norm
      · first | (simp only [List.nil_append, List.cons_append]; rfl) | simp only [List.nil_append, List.cons_append]
      refine walkK_is ?_ (by first | exact gs0 rfl | exact gs1 rfl rfl rfl) (fun _ => Below.refl _ _) (fun u X hX hd => ?_) ?_
      rotate_left
      · have q0 := hQ.out X hX
        try simp at hd
        go_simp
        try rfl
      apply walkK_norm
      · first | (simp only [List.nil_append, List.cons_append]; rfl) | simp only [List.nil_append, List.cons_append]
      refine walkK_is ?_ (by first | exact gs0 rfl | exact gs1 rfl rfl rfl) (fun _ => Below.refl _ _) (fun u X hX hd => ?_) ?_
      rotate_left
      · have q0 := hQ.out X hX
        try simp at hd
        go_simp
        try rfl
      apply walkK_norm
      · first | (simp only [List.nil_append, List.cons_append]; rfl) | simp only [List.nil_append, List.cons_append]
      refine walkK_call (keptV wr.heap.size true 0 0 0 0 0 0 ln (keepS ⟨true, old, kept⟩ x i)) 10 ?_ (by first | exact gs0 rfl | exact gs1 rfl rfl rfl) (fun v x y hb h => keptV_keep v x y hb h) (fun u X hX hd => ?_) (fun X hX => ?_) ?_
      rotate_left
      · have q0 := hQ.out X hX
        try simp at hd
        go_simp
        try rfl
      · exact kq.out X hX
      apply walkK_norm
      · first | (simp only [List.nil_append, List.cons_append]; rfl) | simp only [List.nil_append, List.cons_append]
      intro u X hX hsay
      simp only [sayAll, isV] at hsay
      obtain ⟨-, -, -, -, -, -, -, v7, -⟩ := hsay
      obtain ⟨oA', oc', kA', kc', v7, hM'⟩ := v7
      simp only [putAll, Act.put, v7, List.setIfInBounds_toArray, List.set_cons_succ, List.set_cons_zero]
      have S4 := Lib.hid (HS.out.keep hX hM')
      have VX := Lib.hid (HS.out.var.below hX)
      obtain ⟨M', hM2⟩ : ∃ M', M' = keepS ⟨true, old, kept⟩ x i := ⟨_, rfl⟩
      have HW' : Hid (Saw M' (turnS x i to) l) := Lib.hid (by rw [hM2]; exact HW.out.keep i to)
      have hon : M'.on = true := by rw [hM2, keepS_on]
      rw [← hM2] at S4
      obtain ⟨on', old', kept'⟩ := M'
      obtain rfl : on' = true := hon
      simp only at S4
      have hxl : x.length = ln := HS.out.xl
      clear hM' HS HW hM2 hMk kq hQ v7 hX
      obtain ⟨wa, hWA⟩ : ∃ W, W = X.setRow gm (mkC true 0 0 0 0 0 0 (.slice oA' ln oc') (.slice kA' ln kc')) := ⟨_, rfl⟩
      rw [← hWA] at S4
      have HWA := Lib.hid hWA
      clear hWA
      have HCC : Hid (∀ W, Below wa.heap.size wa W → W.cell? ⟨bc, fc + q * 10, none⟩ = some (.int .i64 i) ∧ (loadVar 34 ⟨bc, fc + q * 10 + 1, none⟩).run Try.prog W = .ok (.agg (bkC (entI to))) W) := Lib.hid (fun W hW => HCR.out W (bnext S4.out.below hW))
      have ca := (HCC.out wa (Below.refl _ _)).1
      have hbca : bc < wa.heap.size := Nat.lt_of_lt_of_le hbc S4.out.below.size
      clear HCR
      by_cases hin : 0 ≤ i ∧ i < (ln : Int)
      · obtain ⟨j, rfl⟩ : ∃ j : Nat, i = (j : Int) := ⟨i.toNat, by omega⟩
        have hj : j < ln := by omega
        have e1 : (j : Int) < (ln : Int) := by omega
        have e2 : (0 : Int) ≤ (j : Int) := by omega
        have HWx : Hid (Saw ⟨true, old', kept'⟩ (x.set j to) l) := Lib.hid (by have := HW'.out; rwa [turnS_in (by omega)] at this)
        have hxc : ln ≤ xc := by have := S4.out.ents.2.1; omega
        have e3 : (j : Int) < (xc : Int) := by omega
        obtain ⟨gx, curx, rfl, -, hkx, -, -, hsx, -⟩ := own_pos S4.out.row (by omega)
        have HKX := Lib.hid hkx
        have HSX := Lib.hid hsx
        clear HW' hkx hsx hxl
        go_wp2_with (first
          | (with_reducible refine st_mk gm VX.out rfl rfl rfl _ _ rfl rfl rfl rfl ?_; go_must (rw [← HWA.out])))
        have hQ : Hid (∀ X, Below wa.heap.size wa X → X.cell? ⟨bc, fc + q * 10, none⟩ = some (.int .i64 (j : Int))) := Lib.hid (fun X hX => (HCC.out X hX).1)
        obtain ⟨E, hE⟩ : ∃ E : Array Value, E = bkC (entI to) := ⟨_, rfl⟩
        have E9 : E.size = 9 := by rw [hE, bkC_size, entI_length HT8.out]
        have EI : (Try.prog.info? 34).map (·.size) = some E.size := by rw [E9]; exact infoEnt9
        have EA : E.all (·.oneCell') = true := by rw [hE]; exact bkC_all _
        have hLE : Hid (∀ X, Below wa.heap.size wa X → (loadVar 34 ⟨bc, fc + q * 10 + 1, none⟩).run Try.prog X = .ok (.agg E) X) := Lib.hid (fun X hX => by rw [hE]; exact (HCC.out X hX).2)
        have HEE := Lib.hid hE
        clear hE
        try simp only [List.append_eq, List.cons_append, List.nil_append]
        refine wp_region_saysK 12 (fun x y => Below x.heap.size x y) (fun _ _ _ h k => bnext h k) wa (below_drew1 wa) (by kernel_rfl) (by kernel_rfl) (by kernel_rfl) (by kernel_rfl) (by rfl) ?_
        simp only [List.take_succ_cons, List.take_zero, List.drop_succ_cons, List.drop_zero]
        refine walkK_is ?_ (by first | exact gs0 rfl | exact gs1 rfl rfl rfl) (fun _ => Below.refl _ _) (fun u X hX hd => ?_) ?_
        rotate_left
        · have q0 := hQ.out X hX
          try simp at hd
          go_simp
          try rfl
        apply walkK_norm
        · first | (simp only [List.nil_append]; rfl) | simp only [List.nil_append]
        refine walkK_is ?_ (by first | exact gs0 rfl | exact gs1 rfl rfl rfl) (fun _ => Below.refl _ _) (fun u X hX hd => ?_) ?_
        rotate_left
        · have q0 := hQ.out X hX
          try simp at hd
          go_simp
          try rfl
        apply walkK_norm
        · first | (simp only [List.nil_append, List.cons_append]; rfl) | simp only [List.nil_append, List.cons_append]
        refine walkK_is ?_ (by first | exact gs0 rfl | exact gs1 rfl rfl rfl) (fun _ => Below.refl _ _) (fun u X hX hd => ?_) ?_
        rotate_left
        · have q0 := hQ.out X hX
          try simp at hd
          go_simp
          try rfl
        apply walkK_norm
        · first | (simp only [List.nil_append, List.cons_append]; rfl) | simp only [List.nil_append, List.cons_append]
        refine walkK_is ?_ (by first | exact gs0 rfl | exact gs1 rfl rfl rfl) (fun _ => Below.refl _ _) (fun u X hX hd => ?_) ?_
        rotate_left
        · have q0 := hQ.out X hX
          try simp at hd
          go_simp
          try rfl
        apply walkK_norm
        · first | (simp only [List.nil_append, List.cons_append]; rfl) | simp only [List.nil_append, List.cons_append]
        refine walkK_is ?_ (by first | exact gs0 rfl | exact gs1 rfl rfl rfl) (fun _ => Below.refl _ _) (fun u X hX hd => ?_) ?_
        rotate_left
        · have q0 := hQ.out X hX
          try simp at hd
          go_simp
          try rfl
        apply walkK_norm
        · first | (simp only [List.nil_append, List.cons_append]; rfl) | simp only [List.nil_append, List.cons_append]
        refine walkK_is ?_ (by first | exact gs0 rfl | exact gs1 rfl rfl rfl) (fun _ => Below.refl _ _) (fun u X hX hd => ?_) ?_
        rotate_left
        · have q0 := hQ.out X hX
          try simp at hd
          go_simp
          try rfl
        apply walkK_norm
        · first | (simp only [List.nil_append, List.cons_append]; rfl) | simp only [List.nil_append, List.cons_append]
        refine walkK_is ?_ (by first | exact gs0 rfl | exact gs1 rfl rfl rfl) (fun _ => Below.refl _ _) (fun u X hX hd => ?_) ?_
        rotate_left
        · have q0 := hQ.out X hX
          try simp at hd
          go_simp
          try rfl
        apply walkK_norm
        · first | (simp only [List.nil_append, List.cons_append]; rfl) | simp only [List.nil_append, List.cons_append]
        refine walkK_is ?_ (by first | exact gs0 rfl | exact gs1 rfl rfl rfl) (fun _ => Below.refl _ _) (fun u X hX hd => ?_) ?_
        rotate_left
        · have q0 := hQ.out X hX
          try simp at hd
          go_simp
          try rfl
        apply walkK_norm
        · first | (simp only [List.nil_append, List.cons_append]; rfl) | simp only [List.nil_append, List.cons_append]
        refine walkK_is ?_ (by first | exact gs0 rfl | exact gs1 rfl rfl rfl) (fun _ => Below.refl _ _) (fun u X hX hd => ?_) ?_
        rotate_left
        · have q0 := hQ.out X hX
          try simp at hd
          go_simp
          try rfl
        apply walkK_norm
        · first | (simp only [List.nil_append, List.cons_append]; rfl) | simp only [List.nil_append, List.cons_append]
        refine walkK_is ?_ (by first | exact gs0 rfl | exact gs1 rfl rfl rfl) (fun _ => Below.refl _ _) (fun u X hX hd => ?_) ?_
        rotate_left
        · have q0 := hQ.out X hX
          try simp at hd
          go_simp
          try rfl
        apply walkK_norm
        · first | (simp only [List.nil_append, List.cons_append]; rfl) | simp only [List.nil_append, List.cons_append]
        refine walkK_is (.agg (E)) (by first | exact gs0 rfl | exact gs1 rfl rfl rfl) (fun _ => Below.refl _ _) (fun u X hX hd => ?_) ?_
        · have hl := hLE.out X hX
          try simp at hd
          refine op_load_at 34 (bc) (fc + q * 10 + 1) hl _ rfl ?_
          go_simp
        apply walkK_norm
        · first | (simp only [List.nil_append, List.cons_append]; rfl) | simp only [List.nil_append, List.cons_append]
        refine walkK_is ?_ (by first | exact gs0 rfl | exact gs1 rfl rfl rfl) (fun _ => Below.refl _ _) (fun u X hX hd => ?_) ?_
        rotate_left
        · have q0 := hQ.out X hX
          try simp at hd
          go_simp
          try rfl
        apply walkK_norm
        · first | (simp only [List.nil_append, List.cons_append]; rfl) | simp only [List.nil_append, List.cons_append]
        intro u X hX hsay
        simp only [sayAll, isV] at hsay
        obtain ⟨-, -, -, -, -, -, -, -, -, -, v10, v11, -⟩ := hsay
        simp only [putAll, Act.put, v10, v11, List.setIfInBounds_toArray, List.set_cons_succ, List.set_cons_zero]
        have GT : Hid (X.there gx (j * 9) E.size) := Lib.hid ((HKX.out.below hX).there (by rw [HSX.out, E9]; omega))
        have S5 := Lib.hid ((S4.out.next hX).turn hj HT8.out)
        rw [← HEE.out] at S5
        obtain ⟨wb, hWB⟩ : ∃ W, W = X.setCells gx (j * 9) E.toList := ⟨_, rfl⟩
        rw [← hWB] at S5
        have HWB := Lib.hid hWB
        clear hWB v10 v11 hLE hQ HCC S4 HKX HSX VX HEE ca hbca
        go_wp2_with (refine wpList_store_mid rfl 34 _ _ rfl gx (j * 9) E rfl rfl GT.out EI EA ?_; go_must (rw [← HWB.out]))
        go_loopw [8] (fun kk wq => ∃ k : Nat, k ≤ ln ∧ kk = .int .i64 (k : Int) ∧ Hid (Below wb.heap.size wb wq)) (fun kk _ => ln - (intOf kk).toNat)
        case atStart => exact ⟨0, Nat.zero_le _, rfl, Lib.hid (Below.refl _ _)⟩
        case round =>
          obtain ⟨k, hk, rfl, HB⟩ := hrel
          have SB := Lib.hid (S5.out.next HB.out)
          by_cases hkl : k < ln
          · have u1 : (k : Int) < (ln : Int) := by omega
            have u2 : (k : Int) < (lc : Int) := by omega
            have hsee : seeS ⟨true, old', kept'⟩ (x.set j to) (k : Int) = l[k]?.getD entZ := HWx.out.sees k (by rw [HLN.out]; exact hkl)
            have sj : Hid (∀ W : World, Below wr.heap.size wr W → Calls Try.prog 13 #[.agg (mkC true 0 0 0 0 0 0 (.slice oA' ln oc') (.slice kA' ln kc')), .slice (some ⟨gx, 0, none⟩) ln xc, .int .i64 (k : Int)] W fun e w' => e = .returned (.agg (bkC (entI (l[k]?.getD entZ)))) ∧ Below W.heap.size W w') := Lib.hid (fun W hW => by
              have := se.out W old' kept' (x.set j to) (some ⟨gx, 0, none⟩) xc (k : Int) oA' oc' kA' kc' (SB.out.own.inn.below hW) (SB.out.ents.below hW) SB.out.x8 SB.out.xl
              rwa [hsee] at this)
            obtain ⟨g, og, rfl, hg, hl0⟩ := HL.out.load H8.out (i := k) (by rw [HLN.out]; exact hkl)
            have hx8 := H8.out.at k
            clear hsee
            generalize l[k]?.getD entZ = y at *
            have EQ : Hid (∀ W : World, (binOp .neq 34 (.agg (bkC (entI y))) (.agg (bkC (entI y)))).run Try.prog W = .ok (.bool false) W) := Lib.hid (fun W => by rw [neq_ent W hx8 hx8, decide_eq_true rfl]; rfl)
            have hLE : Hid (∀ X, Below wr.heap.size wr X → (loadVar 34 ⟨g, og + k * 9, none⟩).run Try.prog X = .ok (.agg (bkC (entI y))) X) := Lib.hid (fun X hX => (hl0 X (bnext SB.out.below hX)).1)
            have hMk : Hid (∀ X, Below wr.heap.size wr X → (loadVar 25 ⟨gm, 0, none⟩).run Try.prog X = .ok (.agg (mkC true 0 0 0 0 0 0 (.slice oA' ln oc') (.slice kA' ln kc'))) X) := Lib.hid (fun X hX => load_mk (SB.out.var.below hX))
            clear hl0 hx8
            generalize bkC (entI y) = E at *
            go_wp2
            try simp only [List.append_eq, List.cons_append, List.nil_append]
            refine wp_region_saysK 8 (fun x y => Below x.heap.size x y) (fun _ _ _ h k => bnext h k) wr (below_drew1 wr) (by kernel_rfl) (by kernel_rfl) (by kernel_rfl) (by kernel_rfl) (by rfl) ?_
            simp only [List.take_succ_cons, List.take_zero, List.drop_succ_cons, List.drop_zero]
            refine walkK_is (.agg (mkC true 0 0 0 0 0 0 (.slice oA' ln oc') (.slice kA' ln kc'))) (by first | exact gs0 rfl | exact gs1 rfl rfl rfl) (fun _ => Below.refl _ _) (fun u X hX hd => ?_) ?_
            · have hl := hMk.out X hX
              try simp at hd
              refine op_load_at 25 gm 0 hl _ rfl ?_
              go_simp
            apply walkK_norm
            · first | (simp only [List.nil_append]; rfl) | simp only [List.nil_append]
            refine walkK_is ?_ (by first | exact gs0 rfl | exact gs1 rfl rfl rfl) (fun _ => Below.refl _ _) (fun u X hX hd => ?_) ?_
            rotate_left
            · skip
              try simp at hd
              go_simp
              try rfl
            apply walkK_norm
            · first | (simp only [List.nil_append, List.cons_append]; rfl) | simp only [List.nil_append, List.cons_append]
            refine walkK_is ?_ (by first | exact gs0 rfl | exact gs1 rfl rfl rfl) (fun _ => Below.refl _ _) (fun u X hX hd => ?_) ?_
            rotate_left
            · skip
              try simp at hd
              go_simp
              try rfl
            apply walkK_norm
            · first | (simp only [List.nil_append, List.cons_append]; rfl) | simp only [List.nil_append, List.cons_append]
            refine walkK_call (isV (.agg E)) 13 ?_ (by first | exact gs0 rfl | exact gs1 rfl rfl rfl) (fun _ _ _ _ h => h) (fun u X hX hd => ?_) (fun X hX => ?_) ?_
            rotate_left
            · skip
              try simp at hd
              go_simp
              try rfl
            · exact (sj.out X hX).mono fun e X' ⟨he, hb⟩ => ⟨_, he, hb, rfl⟩
            apply walkK_norm
            · first | (simp only [List.nil_append, List.cons_append]; rfl) | simp only [List.nil_append, List.cons_append]
            refine walkK_is ?_ (by first | exact gs0 rfl | exact gs1 rfl rfl rfl) (fun _ => Below.refl _ _) (fun u X hX hd => ?_) ?_
            rotate_left
            · skip
              try simp at hd
              go_simp
              try rfl
            apply walkK_norm
            · first | (simp only [List.nil_append, List.cons_append]; rfl) | simp only [List.nil_append, List.cons_append]
            refine walkK_is ?_ (by first | exact gs0 rfl | exact gs1 rfl rfl rfl) (fun _ => Below.refl _ _) (fun u X hX hd => ?_) ?_
            rotate_left
            · skip
              try simp at hd
              go_simp
              try rfl
            apply walkK_norm
            · first | (simp only [List.nil_append, List.cons_append]; rfl) | simp only [List.nil_append, List.cons_append]
            refine walkK_is ?_ (by first | exact gs0 rfl | exact gs1 rfl rfl rfl) (fun _ => Below.refl _ _) (fun u X hX hd => ?_) ?_
            rotate_left
            · skip
              try simp at hd
              go_simp
              try rfl
            apply walkK_norm
            · first | (simp only [List.nil_append, List.cons_append]; rfl) | simp only [List.nil_append, List.cons_append]
            refine walkK_is (.agg (E)) (by first | exact gs0 rfl | exact gs1 rfl rfl rfl) (fun _ => Below.refl _ _) (fun u X hX hd => ?_) ?_
            · have hl := hLE.out X hX
              try simp at hd
              refine op_load_at 34 (g) (og + k * 9) hl _ rfl ?_
              go_simp
            apply walkK_norm
            · first | (simp only [List.nil_append, List.cons_append]; rfl) | simp only [List.nil_append, List.cons_append]
            intro u X hX hsay
            simp only [sayAll, isV] at hsay
            obtain ⟨-, -, -, v3, -, -, -, v7, -⟩ := hsay
            simp only [putAll, Act.put, v3, v7, List.setIfInBounds_toArray, List.set_cons_succ, List.set_cons_zero]
            go_wp2_with (refine wpList_eqop_at .neq (.inr rfl) 34 false eqGuardEnt (EQ.out _) _ _ _ rfl rfl rfl rfl ?_)
            go_roundw
            case rel => exact ⟨k + 1, by omega, by go_num, Lib.hid (bnext HB.out hX)⟩
            case measure => simp [intOf]; omega
          · obtain rfl : ln = k := by omega
            clear hkl
            go_wp2
            go_roundw
            case rel => exact ⟨q + 1, _, _, _, _, _, _, _, by omega, by go_num, SB, HWx⟩
            case measure => simp [intOf]; omega
      · by_cases h0 : 0 ≤ i
        · have h1 : ¬ i < (ln : Int) := fun z => hin ⟨h0, z⟩
          have HWx : Hid (Saw ⟨true, old', kept'⟩ x l) := Lib.hid (by have := HW'.out; rwa [turnS_out (by rw [hxl]; exact hin)] at this)
          clear HW'
          clear hin hxl HCC
          go_wp2_with (first
            | (with_reducible refine st_mk gm VX.out rfl rfl rfl _ _ rfl rfl rfl rfl ?_; go_must (rw [← HWA.out])))
          go_loopw [8] (fun kk wq => ∃ k : Nat, k ≤ ln ∧ kk = .int .i64 (k : Int) ∧ Hid (Below wa.heap.size wa wq)) (fun kk _ => ln - (intOf kk).toNat)
          case atStart => exact ⟨0, Nat.zero_le _, rfl, Lib.hid (Below.refl _ _)⟩
          case round =>
            obtain ⟨k, hk, rfl, HB⟩ := hrel
            have SB := Lib.hid (S4.out.next HB.out)
            by_cases hkl : k < ln
            · have u1 : (k : Int) < (ln : Int) := by omega
              have u2 : (k : Int) < (lc : Int) := by omega
              have hsee : seeS ⟨true, old', kept'⟩ x (k : Int) = l[k]?.getD entZ := HWx.out.sees k (by rw [HLN.out]; exact hkl)
              have sj : Hid (∀ W : World, Below wr.heap.size wr W → Calls Try.prog 13 #[.agg (mkC true 0 0 0 0 0 0 (.slice oA' ln oc') (.slice kA' ln kc')), .slice xA ln xc, .int .i64 (k : Int)] W fun e w' => e = .returned (.agg (bkC (entI (l[k]?.getD entZ)))) ∧ Below W.heap.size W w') := Lib.hid (fun W hW => by
                have := se.out W old' kept' x xA xc (k : Int) oA' oc' kA' kc' (SB.out.own.inn.below hW) (SB.out.ents.below hW) SB.out.x8 SB.out.xl
                rwa [hsee] at this)
              obtain ⟨g, og, rfl, hg, hl0⟩ := HL.out.load H8.out (i := k) (by rw [HLN.out]; exact hkl)
              have hx8 := H8.out.at k
              clear hsee
              generalize l[k]?.getD entZ = y at *
              have EQ : Hid (∀ W : World, (binOp .neq 34 (.agg (bkC (entI y))) (.agg (bkC (entI y)))).run Try.prog W = .ok (.bool false) W) := Lib.hid (fun W => by rw [neq_ent W hx8 hx8, decide_eq_true rfl]; rfl)
              have hLE : Hid (∀ X, Below wr.heap.size wr X → (loadVar 34 ⟨g, og + k * 9, none⟩).run Try.prog X = .ok (.agg (bkC (entI y))) X) := Lib.hid (fun X hX => (hl0 X (bnext SB.out.below hX)).1)
              have hMk : Hid (∀ X, Below wr.heap.size wr X → (loadVar 25 ⟨gm, 0, none⟩).run Try.prog X = .ok (.agg (mkC true 0 0 0 0 0 0 (.slice oA' ln oc') (.slice kA' ln kc'))) X) := Lib.hid (fun X hX => load_mk (SB.out.var.below hX))
              clear hl0 hx8
              generalize bkC (entI y) = E at *
              go_wp2
              try simp only [List.append_eq, List.cons_append, List.nil_append]
              refine wp_region_saysK 8 (fun x y => Below x.heap.size x y) (fun _ _ _ h k => bnext h k) wr (below_drew1 wr) (by kernel_rfl) (by kernel_rfl) (by kernel_rfl) (by kernel_rfl) (by rfl) ?_
              simp only [List.take_succ_cons, List.take_zero, List.drop_succ_cons, List.drop_zero]
              refine walkK_is (.agg (mkC true 0 0 0 0 0 0 (.slice oA' ln oc') (.slice kA' ln kc'))) (by first | exact gs0 rfl | exact gs1 rfl rfl rfl) (fun _ => Below.refl _ _) (fun u X hX hd => ?_) ?_
              · have hl := hMk.out X hX
                try simp at hd
                refine op_load_at 25 gm 0 hl _ rfl ?_
                go_simp
              apply walkK_norm
              · first | (simp only [List.nil_append]; rfl) | simp only [List.nil_append]
              refine walkK_is ?_ (by first | exact gs0 rfl | exact gs1 rfl rfl rfl) (fun _ => Below.refl _ _) (fun u X hX hd => ?_) ?_
              rotate_left
              · skip
                try simp at hd
                go_simp
                try rfl
              apply walkK_norm
              · first | (simp only [List.nil_append, List.cons_append]; rfl) | simp only [List.nil_append, List.cons_append]
              refine walkK_is ?_ (by first | exact gs0 rfl | exact gs1 rfl rfl rfl) (fun _ => Below.refl _ _) (fun u X hX hd => ?_) ?_
              rotate_left
              · skip
                try simp at hd
                go_simp
                try rfl
              apply walkK_norm
              · first | (simp only [List.nil_append, List.cons_append]; rfl) | simp only [List.nil_append, List.cons_append]
              refine walkK_call (isV (.agg E)) 13 ?_ (by first | exact gs0 rfl | exact gs1 rfl rfl rfl) (fun _ _ _ _ h => h) (fun u X hX hd => ?_) (fun X hX => ?_) ?_
              rotate_left
              · skip
                try simp at hd
                go_simp
                try rfl
              · exact (sj.out X hX).mono fun e X' ⟨he, hb⟩ => ⟨_, he, hb, rfl⟩
              apply walkK_norm
              · first | (simp only [List.nil_append, List.cons_append]; rfl) | simp only [List.nil_append, List.cons_append]
              refine walkK_is ?_ (by first | exact gs0 rfl | exact gs1 rfl rfl rfl) (fun _ => Below.refl _ _) (fun u X hX hd => ?_) ?_
              rotate_left
              · skip
                try simp at hd
                go_simp
                try rfl
              apply walkK_norm
              · first | (simp only [List.nil_append, List.cons_append]; rfl) | simp only [List.nil_append, List.cons_append]
              refine walkK_is ?_ (by first | exact gs0 rfl | exact gs1 rfl rfl rfl) (fun _ => Below.refl _ _) (fun u X hX hd => ?_) ?_
              rotate_left
              · skip
                try simp at hd
                go_simp
                try rfl
              apply walkK_norm
              · first | (simp only [List.nil_append, List.cons_append]; rfl) | simp only [List.nil_append, List.cons_append]
              refine walkK_is ?_ (by first | exact gs0 rfl | exact gs1 rfl rfl rfl) (fun _ => Below.refl _ _) (fun u X hX hd => ?_) ?_
              rotate_left
              · skip
                try simp at hd
                go_simp
                try rfl
              apply walkK_norm
              · first | (simp only [List.nil_append, List.cons_append]; rfl) | simp only [List.nil_append, List.cons_append]
              refine walkK_is (.agg (E)) (by first | exact gs0 rfl | exact gs1 rfl rfl rfl) (fun _ => Below.refl _ _) (fun u X hX hd => ?_) ?_
              · have hl := hLE.out X hX
                try simp at hd
                refine op_load_at 34 (g) (og + k * 9) hl _ rfl ?_
                go_simp
              apply walkK_norm
              · first | (simp only [List.nil_append, List.cons_append]; rfl) | simp only [List.nil_append, List.cons_append]
              intro u X hX hsay
              simp only [sayAll, isV] at hsay
              obtain ⟨-, -, -, v3, -, -, -, v7, -⟩ := hsay
              simp only [putAll, Act.put, v3, v7, List.setIfInBounds_toArray, List.set_cons_succ, List.set_cons_zero]
              go_wp2_with (refine wpList_eqop_at .neq (.inr rfl) 34 false eqGuardEnt (EQ.out _) _ _ _ rfl rfl rfl rfl ?_)
              go_roundw
              case rel => exact ⟨k + 1, by omega, by go_num, Lib.hid (bnext HB.out hX)⟩
              case measure => simp [intOf]; omega
            · obtain rfl : ln = k := by omega
              clear hkl
              go_wp2
              go_roundw
              case rel => exact ⟨q + 1, _, _, _, _, _, _, _, by omega, by go_num, SB, HWx⟩
              case measure => simp [intOf]; omega
        · have HWx : Hid (Saw ⟨true, old', kept'⟩ x l) := Lib.hid (by have := HW'.out; rwa [turnS_out (by rw [hxl]; exact hin)] at this)
          clear HW'
          clear hin hxl HCC
          go_wp2_with (first
            | (with_reducible refine st_mk gm VX.out rfl rfl rfl _ _ rfl rfl rfl rfl ?_; go_must (rw [← HWA.out])))
          go_loopw [8] (fun kk wq => ∃ k : Nat, k ≤ ln ∧ kk = .int .i64 (k : Int) ∧ Hid (Below wa.heap.size wa wq)) (fun kk _ => ln - (intOf kk).toNat)
          case atStart => exact ⟨0, Nat.zero_le _, rfl, Lib.hid (Below.refl _ _)⟩
          case round =>
            obtain ⟨k, hk, rfl, HB⟩ := hrel
            have SB := Lib.hid (S4.out.next HB.out)
            by_cases hkl : k < ln
            · have u1 : (k : Int) < (ln : Int) := by omega
              have u2 : (k : Int) < (lc : Int) := by omega
              have hsee : seeS ⟨true, old', kept'⟩ x (k : Int) = l[k]?.getD entZ := HWx.out.sees k (by rw [HLN.out]; exact hkl)
              have sj : Hid (∀ W : World, Below wr.heap.size wr W → Calls Try.prog 13 #[.agg (mkC true 0 0 0 0 0 0 (.slice oA' ln oc') (.slice kA' ln kc')), .slice xA ln xc, .int .i64 (k : Int)] W fun e w' => e = .returned (.agg (bkC (entI (l[k]?.getD entZ)))) ∧ Below W.heap.size W w') := Lib.hid (fun W hW => by
                have := se.out W old' kept' x xA xc (k : Int) oA' oc' kA' kc' (SB.out.own.inn.below hW) (SB.out.ents.below hW) SB.out.x8 SB.out.xl
                rwa [hsee] at this)
              obtain ⟨g, og, rfl, hg, hl0⟩ := HL.out.load H8.out (i := k) (by rw [HLN.out]; exact hkl)
              have hx8 := H8.out.at k
              clear hsee
              generalize l[k]?.getD entZ = y at *
              have EQ : Hid (∀ W : World, (binOp .neq 34 (.agg (bkC (entI y))) (.agg (bkC (entI y)))).run Try.prog W = .ok (.bool false) W) := Lib.hid (fun W => by rw [neq_ent W hx8 hx8, decide_eq_true rfl]; rfl)
              have hLE : Hid (∀ X, Below wr.heap.size wr X → (loadVar 34 ⟨g, og + k * 9, none⟩).run Try.prog X = .ok (.agg (bkC (entI y))) X) := Lib.hid (fun X hX => (hl0 X (bnext SB.out.below hX)).1)
              have hMk : Hid (∀ X, Below wr.heap.size wr X → (loadVar 25 ⟨gm, 0, none⟩).run Try.prog X = .ok (.agg (mkC true 0 0 0 0 0 0 (.slice oA' ln oc') (.slice kA' ln kc'))) X) := Lib.hid (fun X hX => load_mk (SB.out.var.below hX))
              clear hl0 hx8
              generalize bkC (entI y) = E at *
              go_wp2
              try simp only [List.append_eq, List.cons_append, List.nil_append]
              refine wp_region_saysK 8 (fun x y => Below x.heap.size x y) (fun _ _ _ h k => bnext h k) wr (below_drew1 wr) (by kernel_rfl) (by kernel_rfl) (by kernel_rfl) (by kernel_rfl) (by rfl) ?_
              simp only [List.take_succ_cons, List.take_zero, List.drop_succ_cons, List.drop_zero]
              refine walkK_is (.agg (mkC true 0 0 0 0 0 0 (.slice oA' ln oc') (.slice kA' ln kc'))) (by first | exact gs0 rfl | exact gs1 rfl rfl rfl) (fun _ => Below.refl _ _) (fun u X hX hd => ?_) ?_
              · have hl := hMk.out X hX
                try simp at hd
                refine op_load_at 25 gm 0 hl _ rfl ?_
                go_simp
              apply walkK_norm
              · first | (simp only [List.nil_append]; rfl) | simp only [List.nil_append]
              refine walkK_is ?_ (by first | exact gs0 rfl | exact gs1 rfl rfl rfl) (fun _ => Below.refl _ _) (fun u X hX hd => ?_) ?_
              rotate_left
              · skip
                try simp at hd
                go_simp
                try rfl
              apply walkK_norm
              · first | (simp only [List.nil_append, List.cons_append]; rfl) | simp only [List.nil_append, List.cons_append]
              refine walkK_is ?_ (by first | exact gs0 rfl | exact gs1 rfl rfl rfl) (fun _ => Below.refl _ _) (fun u X hX hd => ?_) ?_
              rotate_left
              · skip
                try simp at hd
                go_simp
                try rfl
              apply walkK_norm
              · first | (simp only [List.nil_append, List.cons_append]; rfl) | simp only [List.nil_append, List.cons_append]
              refine walkK_call (isV (.agg E)) 13 ?_ (by first | exact gs0 rfl | exact gs1 rfl rfl rfl) (fun _ _ _ _ h => h) (fun u X hX hd => ?_) (fun X hX => ?_) ?_
              rotate_left
              · skip
                try simp at hd
                go_simp
                try rfl
              · exact (sj.out X hX).mono fun e X' ⟨he, hb⟩ => ⟨_, he, hb, rfl⟩
              apply walkK_norm
              · first | (simp only [List.nil_append, List.cons_append]; rfl) | simp only [List.nil_append, List.cons_append]
              refine walkK_is ?_ (by first | exact gs0 rfl | exact gs1 rfl rfl rfl) (fun _ => Below.refl _ _) (fun u X hX hd => ?_) ?_
              rotate_left
              · skip
                try simp at hd
                go_simp
                try rfl
              apply walkK_norm
              · first | (simp only [List.nil_append, List.cons_append]; rfl) | simp only [List.nil_append, List.cons_append]
              refine walkK_is ?_ (by first | exact gs0 rfl | exact gs1 rfl rfl rfl) (fun _ => Below.refl _ _) (fun u X hX hd => ?_) ?_
              rotate_left
              · skip
                try simp at hd
                go_simp
                try rfl
              apply walkK_norm
              · first | (simp only [List.nil_append, List.cons_append]; rfl) | simp only [List.nil_append, List.cons_append]
              refine walkK_is ?_ (by first | exact gs0 rfl | exact gs1 rfl rfl rfl) (fun _ => Below.refl _ _) (fun u X hX hd => ?_) ?_
              rotate_left
              · skip
                try simp at hd
                go_simp
                try rfl
              apply walkK_norm
              · first | (simp only [List.nil_append, List.cons_append]; rfl) | simp only [List.nil_append, List.cons_append]
              refine walkK_is (.agg (E)) (by first | exact gs0 rfl | exact gs1 rfl rfl rfl) (fun _ => Below.refl _ _) (fun u X hX hd => ?_) ?_
              · have hl := hLE.out X hX
                try simp at hd
                refine op_load_at 34 (g) (og + k * 9) hl _ rfl ?_
                go_simp
              apply walkK_norm
              · first | (simp only [List.nil_append, List.cons_append]; rfl) | simp only [List.nil_append, List.cons_append]
              intro u X hX hsay
              simp only [sayAll, isV] at hsay
              obtain ⟨-, -, -, v3, -, -, -, v7, -⟩ := hsay
              simp only [putAll, Act.put, v3, v7, List.setIfInBounds_toArray, List.set_cons_succ, List.set_cons_zero]
              go_wp2_with (refine wpList_eqop_at .neq (.inr rfl) 34 false eqGuardEnt (EQ.out _) _ _ _ rfl rfl rfl rfl ?_)
              go_roundw
              case rel => exact ⟨k + 1, by omega, by go_num, Lib.hid (bnext HB.out hX)⟩
              case measure => simp [intOf]; omega
            · obtain rfl : ln = k := by omega
              clear hkl
              go_wp2
              go_roundw
              case rel => exact ⟨q + 1, _, _, _, _, _, _, _, by omega, by go_num, SB, HWx⟩
              case measure => simp [intOf]; omega
    · obtain rfl : cn = q := by omega
      clear hlt
      have BB := Lib.hid HS.out.below
      go_wp2_with (go_at_call 7; go_must ((with_reducible refine (aw.out _).mono ?_); rintro e w9 ⟨rfl, hb9⟩; have B9 := Lib.hid (bnext BB.out hb9); clear hb9))
      go_ret
      exact ⟨rfl, B9.out⟩

theorem shadeSees_walk (w : World) (hL : Ents w lA lc l) (h8 : Eight l) (hln : l.length = ln) (hC : Chgs w cA cc cs) (h8c : EightC cs) (hcn : cs.length = cn) :
    Calls Try.prog 4 #[.slice lA ln lc, .slice cA cn cc] w fun e w' => e = .returned (.bool true) ∧ Below w.heap.size w w' := by
  by_cases h : 70 < ln ∨ 60 < cn
  · exact shadeSees_no lA ln lc cA cn cc h w
  · exact shadeSees_main l lA ln lc cs cA cn cc (by omega) (by omega) w hL h8 hln hC h8c hcn

end
end Go.Proofs.Ytgoamkneenmbgaa
