/-
  LocksPlays, walked: true of any commands and any order, in whatever memory.
-/
import Derived.Test.YtcffmkphfahapaaZLckV
import Derived.Test.YtcffmkphfahapaaZOpenU8
import Derived.Deep.QuietTactic
import Derived.BigQuiet
namespace Go.Proofs.Ytcffmkphfahapaa
open Go.RowKit Go.Shelf
attribute [local go_sem] look findAt
attribute [local simp] depsOf isV Region.binds

section
variable (l : List CmL) (A : Option Addr) (n c : Nat) (o : List Int) (oA : Option Addr) (on oc : Nat)

theorem whoSub {l : List CmL} {n : Nat} {u : Who} (hu : ∀ q ∈ u, q ∈ whoN l n) (s : Int) : ∀ q ∈ u.filter (fun x => decide (x.1 ≠ s)), q ∈ whoN l n := fun q hq => hu q (List.mem_filter.1 hq).1

set_option maxHeartbeats 4000000 in
theorem locksPlays_no (hz : n ≤ 9223372036854775807) (w : World) (h : Cmds w A c l) (hN : l.length = n) (hr : ¬ RightL l 6) :
    Calls Try.prog 3 #[.slice A n c, .slice oA on oc] w fun e w' => e = .returned (.bool true) ∧ Below w.heap.size w w' := by
  have aw := Lib.hid (fun W => awake15 W)
  have hri := Lib.hid (right_no l A n c w h hN hz hr)
  clear h hN hr
  go_enter Try.func3, Try.ntmps3
  go_wp2_with (first
    | (go_at_call 8; go_must ((with_reducible refine hri.out.mono ?_); rintro e w1 ⟨rfl, hb1⟩; have B1 := Lib.hid hb1; clear hb1))
    | (go_at_call 9; go_must ((with_reducible refine (aw.out _).mono ?_); rintro e w2 ⟨rfl, hb2⟩; have B2 := Lib.hid (bnext B1.out hb2); clear hb2)))
  go_ret
  exact ⟨rfl, B2.out⟩

set_option maxHeartbeats 4000000 in
theorem locksPlays_long (w : World) (h : Cmds w A c l) (hN : l.length = n) (hr : RightL l 6) (h60 : 60 < on) :
    Calls Try.prog 3 #[.slice A n c, .slice oA on oc] w fun e w' => e = .returned (.bool true) ∧ Below w.heap.size w w' := by
  have aw := Lib.hid (fun W => awake15 W)
  have hri := Lib.hid (right_yes l A n c w h hN hr)
  have d1 : (60 : Int) < (on : Int) := by omega
  clear h hN hr
  go_enter Try.func3, Try.ntmps3
  go_wp2_with (first
    | (go_at_call 8; go_must ((with_reducible refine hri.out.mono ?_); rintro e w1 ⟨rfl, hb1⟩; have B1 := Lib.hid hb1; clear hb1))
    | (go_at_call 9; go_must ((with_reducible refine (aw.out _).mono ?_); rintro e w2 ⟨rfl, hb2⟩; have B2 := Lib.hid (bnext B1.out hb2); clear hb2)))
  go_ret
  exact ⟨rfl, B2.out⟩

set_option maxHeartbeats 32000000 in
set_option maxRecDepth 100000 in
theorem locksPlays_main (w : World) (h : Cmds w A c l) (hN : l.length = n) (hr : RightL l 6) (ho : U8s w oA oc o) (hon : o.length = on) (h60 : on ≤ 60) (hob : ∀ b ∈ o, 0 ≤ b ∧ b ≤ 255) :
    Calls Try.prog 3 #[.slice A n c, .slice oA on oc] w fun e w' => e = .returned (.bool true) ∧ Below w.heap.size w w' := by
  have aw := Lib.hid (fun W => awake15 W)
  have hri := Lib.hid (right_yes l A n c w h hN hr)
  have hne : Hid (∀ W, Calls Try.prog 10 #[.int .i64 6] W (LkPost (lksW [] 6) 6 W)) := Lib.hid (fun W => new_who 6 W (by decide) (by decide))
  have hrn : Hid (∀ W, Calls Try.prog 11 #[.int .i64 6] W (LkPost (lksW [] 6) 6 W)) := Lib.hid (fun W => rnew_who 6 W (by decide) (by decide))
  have H := Lib.hid h
  have HN := Lib.hid hN
  have HR := Lib.hid hr
  have HO8 := Lib.hid ho
  have HON := Lib.hid hon
  have HOB := Lib.hid hob
  have hcap := h.cap
  rw [hN] at hcap
  have h30 := hr.2
  rw [hN] at h30
  have hoc : on ≤ oc := by have := ho.2.1; omega
  have d60 : ¬ (60 : Int) < (on : Int) := by omega
  have d60' : decide ((60 : Int) < (on : Int)) = false := decide_eq_false d60
  clear h hN hr ho hon hob
  go_enter Try.func3, Try.ntmps3
  go_wp2_with (first
    | (go_at_call 8; go_must ((with_reducible refine hri.out.mono ?_); rintro e w1 ⟨rfl, hb1⟩; have B1 := Lib.hid hb1; clear hb1))
    | (go_at_call 10; go_must ((with_reducible refine (hne.out _).mono ?_); rintro e w2 ⟨P0, k0, rfl, hO, hb2⟩; have O0 := Lib.hid hO.sl; have B2 := Lib.hid (bnext B1.out hb2); clear hO hb2))
    | (go_at_call 11; go_must ((with_reducible refine (hrn.out _).mono ?_); rintro e w3 ⟨Q0, j0, rfl, hO, hb3⟩; have R0 := Lib.hid hO.sl; have O1 := Lib.hid (O0.out.below hb3); have B0 := Lib.hid (bnext B2.out hb3); clear hO hb3)))
  go_loopw [5, 6, 7] (fun xs ys cc wr => ∃ (i k j : Nat) (P Q : Option Addr), i ≤ n ∧ xs = .slice P 6 k ∧ ys = .slice Q 6 j ∧ cc = .int .i64 i ∧ Hid (LkSl wr P 6 k (lksW (whoN l i) 6)) ∧ Hid (LkSl wr Q 6 j (lksW (whoN l i) 6)) ∧ Hid (Below w.heap.size w wr)) (fun _ _ cc _ => n - (intOf cc).toNat)
  case atStart => exact ⟨0, k0, j0, P0, Q0, Nat.zero_le _, rfl, rfl, rfl, O1, R0, B0⟩
  case round =>
    obtain ⟨i, k, j, P, Q, hi, rfl, rfl, rfl, HP, HQ, HB⟩ := hrel
    by_cases hlt : i < n
    · have d1 : (i : Int) < (n : Int) := by omega
      have d2 : (i : Int) < (c : Int) := by omega
      have dw : IntKind.i64.wrap ((i : Int) + 1) = (i : Int) + 1 := by rw [IntKind.wrap_i64]; omega
      obtain ⟨x, hx⟩ := cml_at (l := l) (i := i) (by rw [HN.out]; exact hlt)
      have hmf := HR.out.at hx
      obtain ⟨bb, off, rfl, hA⟩ := (H.out.below HB.out).lies hx
      have HA := Lib.hid hA
      have ha1 : Hid (∀ X, Below wr.heap.size wr X → Calls Try.prog 12 #[.slice P 6 k, cmV x.ra x.nr x.rc x.wa x.nw x.wc x.aa x.na x.ac x.c.fuel x.ca x.nc x.cc, .int .i64 ((i : Int) + 1)] X fun e X' => ∃ v, e = .returned v ∧ Below X.heap.size X X' ∧ lksV 6 (lksW (whoN l (i + 1)) 6) v X') := Lib.hid (fun X hX => by
        rw [whoN_succ hx]
        exact (ask_who x.c x.ra x.nr x.rc x.wa x.nw x.wc x.aa x.na x.ac x.c.fuel x.ca x.nc x.cc (whoN l i) P 6 k ((i : Int) + 1) X (HP.out.below hX) (by decide) (by rw [whoN_length]; omega) hmf.1.sets (CmL.lkR (H.out.below (HB.out.trans (hX.mono HB.out.size))) HR.out hx)).mono fun _ _ h => h.sl.says)
      have ha2 : Hid (∀ X, Below wr.heap.size wr X → Calls Try.prog 13 #[.slice Q 6 j, cmV x.ra x.nr x.rc x.wa x.nw x.wc x.aa x.na x.ac x.c.fuel x.ca x.nc x.cc, .int .i64 ((i : Int) + 1)] X fun e X' => ∃ v, e = .returned v ∧ Below X.heap.size X X' ∧ lksV 6 (lksW (whoN l (i + 1)) 6) v X') := Lib.hid (fun X hX => by
        rw [whoN_succ hx]
        exact (rask_who x.c x.ra x.nr x.rc x.wa x.nw x.wc x.aa x.na x.ac x.c.fuel x.ca x.nc x.cc (whoN l i) Q 6 j ((i : Int) + 1) X (HQ.out.below hX) (by decide) (by rw [whoN_length]; omega) hmf.1.sets (CmL.lkR (H.out.below (HB.out.trans (hX.mono HB.out.size))) HR.out hx)).mono fun _ _ h => h.says)
      clear hx hA hmf
      go_wp2
      try simp only [List.append_eq, List.cons_append, List.nil_append]
      refine wp_region_saysK 16 (fun x y => Below x.heap.size x y) (fun _ _ _ h k => bnext h k) wr (below_drew1 wr) (by kernel_rfl) (by kernel_rfl) (by kernel_rfl) (by kernel_rfl) (by rfl) ?_
      simp only [List.take_succ_cons, List.take_zero, List.drop_succ_cons, List.drop_zero]
      refine walkK_is ?_ (by first | exact gs0 rfl | exact gs1 rfl rfl rfl) (fun _ => Below.refl _ _) (fun u X hX hd => ?_) ?_
      rotate_left
      · obtain ⟨q0, q1, q2, q3, q4, q5⟩ := HA.out X hX
        try simp at hd
        go_simp
        try rfl
      apply walkK_norm
      · first | (simp only [List.nil_append]; rfl) | simp only [List.nil_append]
      refine walkK_is ?_ (by first | exact gs0 rfl | exact gs1 rfl rfl rfl) (fun _ => Below.refl _ _) (fun u X hX hd => ?_) ?_
      rotate_left
      · obtain ⟨q0, q1, q2, q3, q4, q5⟩ := HA.out X hX
        try simp at hd
        go_simp
        try rfl
      apply walkK_norm
      · first | (simp only [List.nil_append, List.cons_append]; rfl) | simp only [List.nil_append, List.cons_append]
      refine walkK_is ?_ (by first | exact gs0 rfl | exact gs1 rfl rfl rfl) (fun _ => Below.refl _ _) (fun u X hX hd => ?_) ?_
      rotate_left
      · obtain ⟨q0, q1, q2, q3, q4, q5⟩ := HA.out X hX
        try simp at hd
        go_simp
        try rfl
      apply walkK_norm
      · first | (simp only [List.nil_append, List.cons_append]; rfl) | simp only [List.nil_append, List.cons_append]
      refine walkK_is ?_ (by first | exact gs0 rfl | exact gs1 rfl rfl rfl) (fun _ => Below.refl _ _) (fun u X hX hd => ?_) ?_
      rotate_left
      · obtain ⟨q0, q1, q2, q3, q4, q5⟩ := HA.out X hX
        try simp at hd
        go_simp
        try rfl
      apply walkK_norm
      · first | (simp only [List.nil_append, List.cons_append]; rfl) | simp only [List.nil_append, List.cons_append]
      refine walkK_is (cmV x.ra x.nr x.rc x.wa x.nw x.wc x.aa x.na x.ac x.c.fuel x.ca x.nc x.cc) (by first | exact gs0 rfl | exact gs1 rfl rfl rfl) (fun _ => Below.refl _ _) (fun u X hX hd => ?_) ?_
      · obtain ⟨q0, q1, q2, q3, q4, q5⟩ := HA.out X hX
        try simp at hd
        go_simp
        try rfl
      apply walkK_norm
      · first | (simp only [List.nil_append, List.cons_append]; rfl) | simp only [List.nil_append, List.cons_append]
      refine walkK_is ?_ (by first | exact gs0 rfl | exact gs1 rfl rfl rfl) (fun _ => Below.refl _ _) (fun u X hX hd => ?_) ?_
      rotate_left
      · obtain ⟨q0, q1, q2, q3, q4, q5⟩ := HA.out X hX
        try simp at hd
        go_simp
        try rfl
      apply walkK_norm
      · first | (simp only [List.nil_append, List.cons_append]; rfl) | simp only [List.nil_append, List.cons_append]
      refine walkK_is (.int .i64 ((i : Int) + 1)) (by first | exact gs0 rfl | exact gs1 rfl rfl rfl) (fun _ => Below.refl _ _) (fun u X hX hd => ?_) ?_
      · obtain ⟨q0, q1, q2, q3, q4, q5⟩ := HA.out X hX
        try simp at hd
        go_simp
        try rfl
      apply walkK_norm
      · first | (simp only [List.nil_append, List.cons_append]; rfl) | simp only [List.nil_append, List.cons_append]
      refine walkK_call (lksV 6 (lksW (whoN l (i + 1)) 6)) 12 ?_ (by first | exact gs0 rfl | exact gs1 rfl rfl rfl) (fun v x y hb h => lksV_keep v x y hb h) (fun u X hX hd => ?_) (fun X hX => ?_) ?_
      rotate_left
      · obtain ⟨q0, q1, q2, q3, q4, q5⟩ := HA.out X hX
        try simp at hd
        go_simp
        try rfl
      · exact ha1.out X hX
      apply walkK_norm
      · first | (simp only [List.nil_append, List.cons_append]; rfl) | simp only [List.nil_append, List.cons_append]
      refine walkK_is ?_ (by first | exact gs0 rfl | exact gs1 rfl rfl rfl) (fun _ => Below.refl _ _) (fun u X hX hd => ?_) ?_
      rotate_left
      · obtain ⟨q0, q1, q2, q3, q4, q5⟩ := HA.out X hX
        try simp at hd
        go_simp
        try rfl
      apply walkK_norm
      · first | (simp only [List.nil_append, List.cons_append]; rfl) | simp only [List.nil_append, List.cons_append]
      refine walkK_is ?_ (by first | exact gs0 rfl | exact gs1 rfl rfl rfl) (fun _ => Below.refl _ _) (fun u X hX hd => ?_) ?_
      rotate_left
      · obtain ⟨q0, q1, q2, q3, q4, q5⟩ := HA.out X hX
        try simp at hd
        go_simp
        try rfl
      apply walkK_norm
      · first | (simp only [List.nil_append, List.cons_append]; rfl) | simp only [List.nil_append, List.cons_append]
      refine walkK_is ?_ (by first | exact gs0 rfl | exact gs1 rfl rfl rfl) (fun _ => Below.refl _ _) (fun u X hX hd => ?_) ?_
      rotate_left
      · obtain ⟨q0, q1, q2, q3, q4, q5⟩ := HA.out X hX
        try simp at hd
        go_simp
        try rfl
      apply walkK_norm
      · first | (simp only [List.nil_append, List.cons_append]; rfl) | simp only [List.nil_append, List.cons_append]
      refine walkK_is ?_ (by first | exact gs0 rfl | exact gs1 rfl rfl rfl) (fun _ => Below.refl _ _) (fun u X hX hd => ?_) ?_
      rotate_left
      · obtain ⟨q0, q1, q2, q3, q4, q5⟩ := HA.out X hX
        try simp at hd
        go_simp
        try rfl
      apply walkK_norm
      · first | (simp only [List.nil_append, List.cons_append]; rfl) | simp only [List.nil_append, List.cons_append]
      refine walkK_is (cmV x.ra x.nr x.rc x.wa x.nw x.wc x.aa x.na x.ac x.c.fuel x.ca x.nc x.cc) (by first | exact gs0 rfl | exact gs1 rfl rfl rfl) (fun _ => Below.refl _ _) (fun u X hX hd => ?_) ?_
      · obtain ⟨q0, q1, q2, q3, q4, q5⟩ := HA.out X hX
        try simp at hd
        go_simp
        try rfl
      apply walkK_norm
      · first | (simp only [List.nil_append, List.cons_append]; rfl) | simp only [List.nil_append, List.cons_append]
      refine walkK_is ?_ (by first | exact gs0 rfl | exact gs1 rfl rfl rfl) (fun _ => Below.refl _ _) (fun u X hX hd => ?_) ?_
      rotate_left
      · obtain ⟨q0, q1, q2, q3, q4, q5⟩ := HA.out X hX
        try simp at hd
        go_simp
        try rfl
      apply walkK_norm
      · first | (simp only [List.nil_append, List.cons_append]; rfl) | simp only [List.nil_append, List.cons_append]
      refine walkK_is (.int .i64 ((i : Int) + 1)) (by first | exact gs0 rfl | exact gs1 rfl rfl rfl) (fun _ => Below.refl _ _) (fun u X hX hd => ?_) ?_
      · obtain ⟨q0, q1, q2, q3, q4, q5⟩ := HA.out X hX
        try simp at hd
        go_simp
        try rfl
      apply walkK_norm
      · first | (simp only [List.nil_append, List.cons_append]; rfl) | simp only [List.nil_append, List.cons_append]
      refine walkK_call (lksV 6 (lksW (whoN l (i + 1)) 6)) 13 ?_ (by first | exact gs0 rfl | exact gs1 rfl rfl rfl) (fun v x y hb h => lksV_keep v x y hb h) (fun u X hX hd => ?_) (fun X hX => ?_) ?_
      rotate_left
      · obtain ⟨q0, q1, q2, q3, q4, q5⟩ := HA.out X hX
        try simp at hd
        go_simp
        try rfl
      · exact ha2.out X hX
      apply walkK_norm
      · first | (simp only [List.nil_append, List.cons_append]; rfl) | simp only [List.nil_append, List.cons_append]
      intro u X hX hsay
      simp only [sayAll, isV] at hsay
      obtain ⟨-, -, -, -, -, -, -, v7, -, -, -, -, -, -, -, v15, -⟩ := hsay
      obtain ⟨P3, k3, v7, hS7⟩ := v7
      obtain ⟨Q3, j3, v15, hS15⟩ := v15
      simp only [putAll, Act.put, v7, v15, List.setIfInBounds_toArray, List.set_cons_succ, List.set_cons_zero, Nat.zero_add, Nat.reduceAdd]
      have S7 := Lib.hid hS7
      have S15 := Lib.hid hS15
      have BX := Lib.hid (HB.out.trans (hX.mono HB.out.size))
      have hsm := Lib.hid (rsame_who (whoN l (i + 1)) P3 6 k3 X Q3 j3 hS7 hS15 (by decide) (by rw [whoN_length]; omega))
      clear hS7 hS15 v7 v15 hX
      go_wp2_with (go_at_call 14; go_must ((with_reducible refine hsm.out.mono ?_); rintro e w5 ⟨rfl, hb5⟩; have S75 := Lib.hid (S7.out.below hb5); have S155 := Lib.hid (S15.out.below hb5); have B5 := Lib.hid (BX.out.trans (hb5.mono BX.out.size)); clear hb5))
      go_roundw
      case rel => exact ⟨i + 1, k3, j3, P3, Q3, by omega, rfl, rfl, by go_num, S75, S155, B5⟩
      case measure => simp [intOf]; omega
    · obtain rfl : n = i := by omega
      have hsub : Hid ((∀ q ∈ whoN l n, q ∈ whoN l n) ∧ (whoN l n).length ≤ 30) := Lib.hid ⟨fun _ h => h, by rw [whoN_length]; exact h30⟩
      clear hlt
      go_wp2
      go_loopw [5, 6, 8] (fun xs ys cc wr => ∃ (t k j : Nat) (P Q : Option Addr) (u : Who), t ≤ on ∧ xs = .slice P 6 k ∧ ys = .slice Q 6 j ∧ cc = .int .i64 t ∧ Hid (LkSl wr P 6 k (lksW u 6)) ∧ Hid (LkSl wr Q 6 j (lksW u 6)) ∧ Hid ((∀ q ∈ u, q ∈ whoN l n) ∧ u.length ≤ 30) ∧ Hid (Below w.heap.size w wr)) (fun _ _ cc _ => on - (intOf cc).toNat)
      case atStart => exact ⟨0, k, j, P, Q, _, Nat.zero_le _, rfl, rfl, rfl, HP, HQ, hsub, HB⟩
      case round =>
        clear HP HQ HB hsub hi
        obtain ⟨t, k, j, P, Q, u, ht, rfl, rfl, rfl, HP, HQ, HU, HB⟩ := hrel
        by_cases hlt : t < on ∧ 0 < n
        · obtain ⟨hlt, hpos⟩ := hlt
          have d1 : (t : Int) < (on : Int) := by omega
          have d2 : (t : Int) < (oc : Int) := by omega
          have d3 : (0 : Int) < (n : Int) := by omega
          obtain ⟨ob, hobx, hobm⟩ := int_at (l := o) (i := t) (by rw [HON.out]; exact hlt)
          obtain ⟨ob0, ob255⟩ := HOB.out ob hobm
          obtain ⟨b8, o8, rfl, hl8, x8⟩ := (HO8.out.below HB.out).at hobx
          obtain ⟨K, hK⟩ : ∃ K : Nat, ob % (n : Int) = (K : Int) := ⟨(ob % (n : Int)).toNat, by have := Int.emod_nonneg ob (show (n : Int) ≠ 0 by omega); omega⟩
          have hKn : K < n := by have := Int.emod_lt_of_pos ob (show 0 < (n : Int) by omega); omega
          have hKt : ob.tmod (n : Int) = (K : Int) := by rw [Int.tmod_eq_emod_of_nonneg ob0]; exact hK
          have hww : wrap64 ob = ob := by unfold wrap64; omega
          have hn0 : ¬ (n : Int) = 0 := by omega
          have hn1 : ¬ n = 0 := by omega
          have hn0' : ((n : Int) == 0) = false := by simpa using hn0
          have dK : (K : Int) < (n : Int) := by omega
          have dK2 : (K : Int) < (c : Int) := by omega
          have dw : IntKind.i64.wrap ((K : Int) + 1) = (K : Int) + 1 := by rw [IntKind.wrap_i64]; omega
          obtain ⟨x, hx⟩ := cml_at (l := l) (i := K) (by rw [HN.out]; exact hKn)
          have hmf := HR.out.at hx
          have hul := HU.out.2
          obtain ⟨bb, off, rfl, hA⟩ := (H.out.below HB.out).lies hx
          have HA := Lib.hid hA
          obtain ⟨rb, hrb⟩ : ∃ b, b = readyL (lksW u 6) x.c ((K : Int) + 1) := ⟨_, rfl⟩
          have hr1 : Hid (∀ X, Below wr.heap.size wr X → Calls Try.prog 15 #[.slice P 6 k, cmV x.ra x.nr x.rc x.wa x.nw x.wc x.aa x.na x.ac x.c.fuel x.ca x.nc x.cc, .int .i64 ((K : Int) + 1)] X fun e X' => e = .returned (.bool rb) ∧ Below X.heap.size X X') := Lib.hid (fun X hX => by
            rw [hrb]
            exact ready_who x.c x.ra x.nr x.rc x.wa x.nw x.wc x.aa x.na x.ac x.c.fuel x.ca x.nc x.cc u P 6 k ((K : Int) + 1) X (HP.out.below hX) (by omega) (CmL.lkR (H.out.below (HB.out.trans (hX.mono HB.out.size))) HR.out hx))
          have hr2 : Hid (∀ X, Below wr.heap.size wr X → Calls Try.prog 16 #[.slice Q 6 j, cmV x.ra x.nr x.rc x.wa x.nw x.wc x.aa x.na x.ac x.c.fuel x.ca x.nc x.cc, .int .i64 ((K : Int) + 1)] X fun e X' => e = .returned (.bool rb) ∧ Below X.heap.size X X') := Lib.hid (fun X hX => by
            rw [hrb]
            exact rready_who x.c x.ra x.nr x.rc x.wa x.nw x.wc x.aa x.na x.ac x.c.fuel x.ca x.nc x.cc u Q 6 j ((K : Int) + 1) X (HQ.out.below hX) (by omega) (CmL.lkR (H.out.below (HB.out.trans (hX.mono HB.out.size))) HR.out hx))
          have hg1 : Hid (∀ X, Below wr.heap.size wr X → Calls Try.prog 17 #[.slice P 6 k, cmV x.ra x.nr x.rc x.wa x.nw x.wc x.aa x.na x.ac x.c.fuel x.ca x.nc x.cc, .int .i64 ((K : Int) + 1)] X fun e X' => ∃ v, e = .returned v ∧ Below X.heap.size X X' ∧ lksV 6 (lksW (u.filter fun x => decide (x.1 ≠ (K : Int) + 1)) 6) v X') := Lib.hid (fun X hX =>
            (give_who x.c x.ra x.nr x.rc x.wa x.nw x.wc x.aa x.na x.ac x.c.fuel x.ca x.nc x.cc u P 6 k ((K : Int) + 1) X (HP.out.below hX) (by decide) (by omega) hmf.1.sets (fun q hq e => whoN_one (HU.out.1 q hq) hx e) (CmL.lkR (H.out.below (HB.out.trans (hX.mono HB.out.size))) HR.out hx)).mono fun _ _ h => h.sl.says)
          have hg2 : Hid (∀ X, Below wr.heap.size wr X → Calls Try.prog 18 #[.slice Q 6 j, cmV x.ra x.nr x.rc x.wa x.nw x.wc x.aa x.na x.ac x.c.fuel x.ca x.nc x.cc, .int .i64 ((K : Int) + 1)] X fun e X' => ∃ v, e = .returned v ∧ Below X.heap.size X X' ∧ lksV 6 (lksW (u.filter fun x => decide (x.1 ≠ (K : Int) + 1)) 6) v X') := Lib.hid (fun X hX =>
            (rgive_who x.c x.ra x.nr x.rc x.wa x.nw x.wc x.aa x.na x.ac x.c.fuel x.ca x.nc x.cc u Q 6 j ((K : Int) + 1) X (HQ.out.below hX) (by decide) (by omega) hmf.1.sets (fun q hq e => whoN_one (HU.out.1 q hq) hx e) (CmL.lkR (H.out.below (HB.out.trans (hX.mono HB.out.size))) HR.out hx)).mono fun _ _ h => h.says)
          have HU2 : Hid ((∀ q ∈ u.filter (fun x => decide (x.1 ≠ (K : Int) + 1)), q ∈ whoN l n) ∧ (u.filter fun x => decide (x.1 ≠ (K : Int) + 1)).length ≤ 30) := Lib.hid ⟨whoSub HU.out.1 _, Nat.le_trans (List.length_filter_le _ _) hul⟩
          have e1 : (rb != rb) = false := by cases rb <;> rfl
          clear hx hA hmf hrb hobx hobm HU
          generalize (u.filter fun x => decide (x.1 ≠ (K : Int) + 1)) = u2 at *
          go_wp2
          try simp only [List.append_eq, List.cons_append, List.nil_append]
          refine wp_region_saysK 16 (fun x y => Below x.heap.size x y) (fun _ _ _ h k => bnext h k) wr (below_drew1 wr) (by kernel_rfl) (by kernel_rfl) (by kernel_rfl) (by kernel_rfl) (by rfl) ?_
          simp only [List.take_succ_cons, List.take_zero, List.drop_succ_cons, List.drop_zero]
          refine walkK_is ?_ (by first | exact gs0 rfl | exact gs1 rfl rfl rfl) (fun _ => Below.refl _ _) (fun u X hX hd => ?_) ?_
          rotate_left
          · obtain ⟨q0, q1, q2, q3, q4, q5⟩ := HA.out X hX
            try simp at hd
            go_simp
            try rfl
          apply walkK_norm
          · first | (simp only [List.nil_append]; rfl) | simp only [List.nil_append]
          refine walkK_is ?_ (by first | exact gs0 rfl | exact gs1 rfl rfl rfl) (fun _ => Below.refl _ _) (fun u X hX hd => ?_) ?_
          rotate_left
          · obtain ⟨q0, q1, q2, q3, q4, q5⟩ := HA.out X hX
            try simp at hd
            go_simp
            try rfl
          apply walkK_norm
          · first | (simp only [List.nil_append, List.cons_append]; rfl) | simp only [List.nil_append, List.cons_append]
          refine walkK_is ?_ (by first | exact gs0 rfl | exact gs1 rfl rfl rfl) (fun _ => Below.refl _ _) (fun u X hX hd => ?_) ?_
          rotate_left
          · obtain ⟨q0, q1, q2, q3, q4, q5⟩ := HA.out X hX
            try simp at hd
            go_simp
            try rfl
          apply walkK_norm
          · first | (simp only [List.nil_append, List.cons_append]; rfl) | simp only [List.nil_append, List.cons_append]
          refine walkK_is ?_ (by first | exact gs0 rfl | exact gs1 rfl rfl rfl) (fun _ => Below.refl _ _) (fun u X hX hd => ?_) ?_
          rotate_left
          · obtain ⟨q0, q1, q2, q3, q4, q5⟩ := HA.out X hX
            try simp at hd
            go_simp
            try rfl
          apply walkK_norm
          · first | (simp only [List.nil_append, List.cons_append]; rfl) | simp only [List.nil_append, List.cons_append]
          refine walkK_is (cmV x.ra x.nr x.rc x.wa x.nw x.wc x.aa x.na x.ac x.c.fuel x.ca x.nc x.cc) (by first | exact gs0 rfl | exact gs1 rfl rfl rfl) (fun _ => Below.refl _ _) (fun u X hX hd => ?_) ?_
          · obtain ⟨q0, q1, q2, q3, q4, q5⟩ := HA.out X hX
            try simp at hd
            go_simp
            try rfl
          apply walkK_norm
          · first | (simp only [List.nil_append, List.cons_append]; rfl) | simp only [List.nil_append, List.cons_append]
          refine walkK_is ?_ (by first | exact gs0 rfl | exact gs1 rfl rfl rfl) (fun _ => Below.refl _ _) (fun u X hX hd => ?_) ?_
          rotate_left
          · obtain ⟨q0, q1, q2, q3, q4, q5⟩ := HA.out X hX
            try simp at hd
            go_simp
            try rfl
          apply walkK_norm
          · first | (simp only [List.nil_append, List.cons_append]; rfl) | simp only [List.nil_append, List.cons_append]
          refine walkK_is (.int .i64 ((K : Int) + 1)) (by first | exact gs0 rfl | exact gs1 rfl rfl rfl) (fun _ => Below.refl _ _) (fun u X hX hd => ?_) ?_
          · obtain ⟨q0, q1, q2, q3, q4, q5⟩ := HA.out X hX
            try simp at hd
            go_simp
            try rfl
          apply walkK_norm
          · first | (simp only [List.nil_append, List.cons_append]; rfl) | simp only [List.nil_append, List.cons_append]
          refine walkK_call (isV (.bool rb)) 15 ?_ (by first | exact gs0 rfl | exact gs1 rfl rfl rfl) (fun _ _ _ _ h => h) (fun u X hX hd => ?_) (fun X hX => ?_) ?_
          rotate_left
          · obtain ⟨q0, q1, q2, q3, q4, q5⟩ := HA.out X hX
            try simp at hd
            go_simp
            try rfl
          · exact (hr1.out X hX).mono fun e X' ⟨he, hb⟩ => ⟨_, he, hb, rfl⟩
          apply walkK_norm
          · first | (simp only [List.nil_append, List.cons_append]; rfl) | simp only [List.nil_append, List.cons_append]
          refine walkK_is ?_ (by first | exact gs0 rfl | exact gs1 rfl rfl rfl) (fun _ => Below.refl _ _) (fun u X hX hd => ?_) ?_
          rotate_left
          · obtain ⟨q0, q1, q2, q3, q4, q5⟩ := HA.out X hX
            try simp at hd
            go_simp
            try rfl
          apply walkK_norm
          · first | (simp only [List.nil_append, List.cons_append]; rfl) | simp only [List.nil_append, List.cons_append]
          refine walkK_is ?_ (by first | exact gs0 rfl | exact gs1 rfl rfl rfl) (fun _ => Below.refl _ _) (fun u X hX hd => ?_) ?_
          rotate_left
          · obtain ⟨q0, q1, q2, q3, q4, q5⟩ := HA.out X hX
            try simp at hd
            go_simp
            try rfl
          apply walkK_norm
          · first | (simp only [List.nil_append, List.cons_append]; rfl) | simp only [List.nil_append, List.cons_append]
          refine walkK_is ?_ (by first | exact gs0 rfl | exact gs1 rfl rfl rfl) (fun _ => Below.refl _ _) (fun u X hX hd => ?_) ?_
          rotate_left
          · obtain ⟨q0, q1, q2, q3, q4, q5⟩ := HA.out X hX
            try simp at hd
            go_simp
            try rfl
          apply walkK_norm
          · first | (simp only [List.nil_append, List.cons_append]; rfl) | simp only [List.nil_append, List.cons_append]
          refine walkK_is ?_ (by first | exact gs0 rfl | exact gs1 rfl rfl rfl) (fun _ => Below.refl _ _) (fun u X hX hd => ?_) ?_
          rotate_left
          · obtain ⟨q0, q1, q2, q3, q4, q5⟩ := HA.out X hX
            try simp at hd
            go_simp
            try rfl
          apply walkK_norm
          · first | (simp only [List.nil_append, List.cons_append]; rfl) | simp only [List.nil_append, List.cons_append]
          refine walkK_is (cmV x.ra x.nr x.rc x.wa x.nw x.wc x.aa x.na x.ac x.c.fuel x.ca x.nc x.cc) (by first | exact gs0 rfl | exact gs1 rfl rfl rfl) (fun _ => Below.refl _ _) (fun u X hX hd => ?_) ?_
          · obtain ⟨q0, q1, q2, q3, q4, q5⟩ := HA.out X hX
            try simp at hd
            go_simp
            try rfl
          apply walkK_norm
          · first | (simp only [List.nil_append, List.cons_append]; rfl) | simp only [List.nil_append, List.cons_append]
          refine walkK_is ?_ (by first | exact gs0 rfl | exact gs1 rfl rfl rfl) (fun _ => Below.refl _ _) (fun u X hX hd => ?_) ?_
          rotate_left
          · obtain ⟨q0, q1, q2, q3, q4, q5⟩ := HA.out X hX
            try simp at hd
            go_simp
            try rfl
          apply walkK_norm
          · first | (simp only [List.nil_append, List.cons_append]; rfl) | simp only [List.nil_append, List.cons_append]
          refine walkK_is (.int .i64 ((K : Int) + 1)) (by first | exact gs0 rfl | exact gs1 rfl rfl rfl) (fun _ => Below.refl _ _) (fun u X hX hd => ?_) ?_
          · obtain ⟨q0, q1, q2, q3, q4, q5⟩ := HA.out X hX
            try simp at hd
            go_simp
            try rfl
          apply walkK_norm
          · first | (simp only [List.nil_append, List.cons_append]; rfl) | simp only [List.nil_append, List.cons_append]
          refine walkK_call (isV (.bool rb)) 16 ?_ (by first | exact gs0 rfl | exact gs1 rfl rfl rfl) (fun _ _ _ _ h => h) (fun u X hX hd => ?_) (fun X hX => ?_) ?_
          rotate_left
          · obtain ⟨q0, q1, q2, q3, q4, q5⟩ := HA.out X hX
            try simp at hd
            go_simp
            try rfl
          · exact (hr2.out X hX).mono fun e X' ⟨he, hb⟩ => ⟨_, he, hb, rfl⟩
          apply walkK_norm
          · first | (simp only [List.nil_append, List.cons_append]; rfl) | simp only [List.nil_append, List.cons_append]
          intro u X hX hsay
          simp only [sayAll, isV] at hsay
          obtain ⟨-, -, -, -, -, -, -, v7, -, -, -, -, -, -, -, v15, -⟩ := hsay
          simp only [putAll, Act.put, v7, v15, List.setIfInBounds_toArray, List.set_cons_succ, List.set_cons_zero, Nat.zero_add, Nat.reduceAdd]
          obtain ⟨wz, hWZ⟩ : ∃ W, W = X := ⟨_, rfl⟩
          rw [← hWZ] at hX ⊢
          have BZ := Lib.hid hX
          clear v7 v15 hX hWZ
          go_wp2
          try simp only [List.append_eq, List.cons_append, List.nil_append]
          refine wp_region_saysK 16 (fun x y => Below x.heap.size x y) (fun _ _ _ h k => bnext h k) wz (below_drew1 wz) (by kernel_rfl) (by kernel_rfl) (by kernel_rfl) (by kernel_rfl) (by rfl) ?_
          simp only [List.take_succ_cons, List.take_zero, List.drop_succ_cons, List.drop_zero]
          refine walkK_is ?_ (by first | exact gs0 rfl | exact gs1 rfl rfl rfl) (fun _ => Below.refl _ _) (fun u X hX hd => ?_) ?_
          rotate_left
          · have hX2 := bnext BZ.out hX
            obtain ⟨q0, q1, q2, q3, q4, q5⟩ := HA.out X hX2
            try simp at hd
            go_simp
            try rfl
          apply walkK_norm
          · first | (simp only [List.nil_append]; rfl) | simp only [List.nil_append]
          refine walkK_is ?_ (by first | exact gs0 rfl | exact gs1 rfl rfl rfl) (fun _ => Below.refl _ _) (fun u X hX hd => ?_) ?_
          rotate_left
          · have hX2 := bnext BZ.out hX
            obtain ⟨q0, q1, q2, q3, q4, q5⟩ := HA.out X hX2
            try simp at hd
            go_simp
            try rfl
          apply walkK_norm
          · first | (simp only [List.nil_append, List.cons_append]; rfl) | simp only [List.nil_append, List.cons_append]
          refine walkK_is ?_ (by first | exact gs0 rfl | exact gs1 rfl rfl rfl) (fun _ => Below.refl _ _) (fun u X hX hd => ?_) ?_
          rotate_left
          · have hX2 := bnext BZ.out hX
            obtain ⟨q0, q1, q2, q3, q4, q5⟩ := HA.out X hX2
            try simp at hd
            go_simp
            try rfl
          apply walkK_norm
          · first | (simp only [List.nil_append, List.cons_append]; rfl) | simp only [List.nil_append, List.cons_append]
          refine walkK_is ?_ (by first | exact gs0 rfl | exact gs1 rfl rfl rfl) (fun _ => Below.refl _ _) (fun u X hX hd => ?_) ?_
          rotate_left
          · have hX2 := bnext BZ.out hX
            obtain ⟨q0, q1, q2, q3, q4, q5⟩ := HA.out X hX2
            try simp at hd
            go_simp
            try rfl
          apply walkK_norm
          · first | (simp only [List.nil_append, List.cons_append]; rfl) | simp only [List.nil_append, List.cons_append]
          refine walkK_is (cmV x.ra x.nr x.rc x.wa x.nw x.wc x.aa x.na x.ac x.c.fuel x.ca x.nc x.cc) (by first | exact gs0 rfl | exact gs1 rfl rfl rfl) (fun _ => Below.refl _ _) (fun u X hX hd => ?_) ?_
          · have hX2 := bnext BZ.out hX
            obtain ⟨q0, q1, q2, q3, q4, q5⟩ := HA.out X hX2
            try simp at hd
            go_simp
            try rfl
          apply walkK_norm
          · first | (simp only [List.nil_append, List.cons_append]; rfl) | simp only [List.nil_append, List.cons_append]
          refine walkK_is ?_ (by first | exact gs0 rfl | exact gs1 rfl rfl rfl) (fun _ => Below.refl _ _) (fun u X hX hd => ?_) ?_
          rotate_left
          · have hX2 := bnext BZ.out hX
            obtain ⟨q0, q1, q2, q3, q4, q5⟩ := HA.out X hX2
            try simp at hd
            go_simp
            try rfl
          apply walkK_norm
          · first | (simp only [List.nil_append, List.cons_append]; rfl) | simp only [List.nil_append, List.cons_append]
          refine walkK_is (.int .i64 ((K : Int) + 1)) (by first | exact gs0 rfl | exact gs1 rfl rfl rfl) (fun _ => Below.refl _ _) (fun u X hX hd => ?_) ?_
          · have hX2 := bnext BZ.out hX
            obtain ⟨q0, q1, q2, q3, q4, q5⟩ := HA.out X hX2
            try simp at hd
            go_simp
            try rfl
          apply walkK_norm
          · first | (simp only [List.nil_append, List.cons_append]; rfl) | simp only [List.nil_append, List.cons_append]
          refine walkK_call (lksV 6 (lksW u2 6)) 17 ?_ (by first | exact gs0 rfl | exact gs1 rfl rfl rfl) (fun v x y hb h => lksV_keep v x y hb h) (fun u X hX hd => ?_) (fun X hX => ?_) ?_
          rotate_left
          · have hX2 := bnext BZ.out hX
            obtain ⟨q0, q1, q2, q3, q4, q5⟩ := HA.out X hX2
            try simp at hd
            go_simp
            try rfl
          · exact hg1.out X (bnext BZ.out hX)
          apply walkK_norm
          · first | (simp only [List.nil_append, List.cons_append]; rfl) | simp only [List.nil_append, List.cons_append]
          refine walkK_is ?_ (by first | exact gs0 rfl | exact gs1 rfl rfl rfl) (fun _ => Below.refl _ _) (fun u X hX hd => ?_) ?_
          rotate_left
          · have hX2 := bnext BZ.out hX
            obtain ⟨q0, q1, q2, q3, q4, q5⟩ := HA.out X hX2
            try simp at hd
            go_simp
            try rfl
          apply walkK_norm
          · first | (simp only [List.nil_append, List.cons_append]; rfl) | simp only [List.nil_append, List.cons_append]
          refine walkK_is ?_ (by first | exact gs0 rfl | exact gs1 rfl rfl rfl) (fun _ => Below.refl _ _) (fun u X hX hd => ?_) ?_
          rotate_left
          · have hX2 := bnext BZ.out hX
            obtain ⟨q0, q1, q2, q3, q4, q5⟩ := HA.out X hX2
            try simp at hd
            go_simp
            try rfl
          apply walkK_norm
          · first | (simp only [List.nil_append, List.cons_append]; rfl) | simp only [List.nil_append, List.cons_append]
          refine walkK_is ?_ (by first | exact gs0 rfl | exact gs1 rfl rfl rfl) (fun _ => Below.refl _ _) (fun u X hX hd => ?_) ?_
          rotate_left
          · have hX2 := bnext BZ.out hX
            obtain ⟨q0, q1, q2, q3, q4, q5⟩ := HA.out X hX2
            try simp at hd
            go_simp
            try rfl
          apply walkK_norm
          · first | (simp only [List.nil_append, List.cons_append]; rfl) | simp only [List.nil_append, List.cons_append]
          refine walkK_is ?_ (by first | exact gs0 rfl | exact gs1 rfl rfl rfl) (fun _ => Below.refl _ _) (fun u X hX hd => ?_) ?_
          rotate_left
          · have hX2 := bnext BZ.out hX
            obtain ⟨q0, q1, q2, q3, q4, q5⟩ := HA.out X hX2
            try simp at hd
            go_simp
            try rfl
          apply walkK_norm
          · first | (simp only [List.nil_append, List.cons_append]; rfl) | simp only [List.nil_append, List.cons_append]
          refine walkK_is (cmV x.ra x.nr x.rc x.wa x.nw x.wc x.aa x.na x.ac x.c.fuel x.ca x.nc x.cc) (by first | exact gs0 rfl | exact gs1 rfl rfl rfl) (fun _ => Below.refl _ _) (fun u X hX hd => ?_) ?_
          · have hX2 := bnext BZ.out hX
            obtain ⟨q0, q1, q2, q3, q4, q5⟩ := HA.out X hX2
            try simp at hd
            go_simp
            try rfl
          apply walkK_norm
          · first | (simp only [List.nil_append, List.cons_append]; rfl) | simp only [List.nil_append, List.cons_append]
          refine walkK_is ?_ (by first | exact gs0 rfl | exact gs1 rfl rfl rfl) (fun _ => Below.refl _ _) (fun u X hX hd => ?_) ?_
          rotate_left
          · have hX2 := bnext BZ.out hX
            obtain ⟨q0, q1, q2, q3, q4, q5⟩ := HA.out X hX2
            try simp at hd
            go_simp
            try rfl
          apply walkK_norm
          · first | (simp only [List.nil_append, List.cons_append]; rfl) | simp only [List.nil_append, List.cons_append]
          refine walkK_is (.int .i64 ((K : Int) + 1)) (by first | exact gs0 rfl | exact gs1 rfl rfl rfl) (fun _ => Below.refl _ _) (fun u X hX hd => ?_) ?_
          · have hX2 := bnext BZ.out hX
            obtain ⟨q0, q1, q2, q3, q4, q5⟩ := HA.out X hX2
            try simp at hd
            go_simp
            try rfl
          apply walkK_norm
          · first | (simp only [List.nil_append, List.cons_append]; rfl) | simp only [List.nil_append, List.cons_append]
          refine walkK_call (lksV 6 (lksW u2 6)) 18 ?_ (by first | exact gs0 rfl | exact gs1 rfl rfl rfl) (fun v x y hb h => lksV_keep v x y hb h) (fun u X hX hd => ?_) (fun X hX => ?_) ?_
          rotate_left
          · have hX2 := bnext BZ.out hX
            obtain ⟨q0, q1, q2, q3, q4, q5⟩ := HA.out X hX2
            try simp at hd
            go_simp
            try rfl
          · exact hg2.out X (bnext BZ.out hX)
          apply walkK_norm
          · first | (simp only [List.nil_append, List.cons_append]; rfl) | simp only [List.nil_append, List.cons_append]
          intro u X hX hsay
          simp only [sayAll, isV] at hsay
          obtain ⟨-, -, -, -, -, -, -, v7, -, -, -, -, -, -, -, v15, -⟩ := hsay
          obtain ⟨P3, k3, v7, hS7⟩ := v7
          obtain ⟨Q3, j3, v15, hS15⟩ := v15
          simp only [putAll, Act.put, v7, v15, List.setIfInBounds_toArray, List.set_cons_succ, List.set_cons_zero, Nat.zero_add, Nat.reduceAdd]
          have S7 := Lib.hid hS7
          have S15 := Lib.hid hS15
          have BX := Lib.hid (HB.out.trans ((bnext BZ.out hX).mono HB.out.size))
          have hsm := Lib.hid (rsame_who u2 P3 6 k3 X Q3 j3 hS7 hS15 (by decide) (by have := HU2.out.2; omega))
          clear hS7 hS15 v7 v15 hX
          go_wp2_with (go_at_call 14; go_must ((with_reducible refine hsm.out.mono ?_); rintro e w5 ⟨rfl, hb5⟩; have S75 := Lib.hid (S7.out.below hb5); have S155 := Lib.hid (S15.out.below hb5); have B5 := Lib.hid (BX.out.trans (hb5.mono BX.out.size)); clear hb5))
          go_roundw
          case rel => exact ⟨t + 1, k3, j3, P3, Q3, u2, by omega, rfl, rfl, by go_num, S75, S155, HU2, B5⟩
          case measure => simp [intOf]; omega
        · by_cases hl2 : t < on
          · obtain rfl : n = 0 := by omega
            have d1 : (t : Int) < (on : Int) := by omega
            clear hlt
            go_wp2_with (go_at_call 9; go_must ((with_reducible refine (aw.out _).mono ?_); rintro e w9 ⟨rfl, hb9⟩; have B9 := Lib.hid (HB.out.trans (hb9.mono HB.out.size)); clear hb9))
            go_ret
            exact ⟨rfl, B9.out⟩
          · obtain rfl : on = t := by omega
            clear hlt hl2
            go_wp2_with (go_at_call 9; go_must ((with_reducible refine (aw.out _).mono ?_); rintro e w9 ⟨rfl, hb9⟩; have B9 := Lib.hid (HB.out.trans (hb9.mono HB.out.size)); clear hb9))
            go_ret
            exact ⟨rfl, B9.out⟩

theorem locksPlays_walk (hz : n ≤ 9223372036854775807) (w : World) (h : Cmds w A c l) (hN : l.length = n) (ho : U8s w oA oc o) (hon : o.length = on) (hob : ∀ b ∈ o, 0 ≤ b ∧ b ≤ 255) :
    Calls Try.prog 3 #[.slice A n c, .slice oA on oc] w fun e w' => e = .returned (.bool true) ∧ Below w.heap.size w w' := by
  by_cases hr : RightL l 6
  · by_cases h60 : 60 < on
    · exact locksPlays_long l A n c oA on oc w h hN hr h60
    · exact locksPlays_main l A n c o oA on oc w h hN hr ho hon (by omega) hob
  · exact locksPlays_no l A n c oA on oc hz w h hN hr

end
end Go.Proofs.Ytcffmkphfahapaa
