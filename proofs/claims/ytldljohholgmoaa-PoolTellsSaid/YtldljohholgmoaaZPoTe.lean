/-
  PoolTells, walked: true of any commands, any workers and any two numbers, in whatever memory.
-/
import Derived.Test.YtldljohholgmoaaZPooG
namespace Go.Proofs.Ytldljohholgmoaa
open Go Go.RowKit
attribute [local go_sem] look findAt
attribute [local simp] depsOf isV Region.binds

theorem walkK_end {P : Program} {md : Region.Mode} {R : World → World → Prop} {W : World} {a : Act} {heads : List Oper} {fin : List Says → Prop} {φs : List Says} (h : fin φs) : walkK P md R W a heads fin [] φs := h

theorem sayAll_at {w : World} {u : Nat → Value} : ∀ {φs : List Says} {k : Nat}, sayAll w φs k u → ∀ {j : Nat} {φ : Says}, φs[j]? = some φ → φ (u (k + j)) w
  | [], _, _, j, φ, h => by simp at h
  | ψ :: φs, k, hs, 0, φ, h => by
    simp at h
    subst h
    exact hs.1
  | ψ :: φs, k, hs, j + 1, φ, h => by
    have := sayAll_at hs.2 (j := j) (φ := φ) (by simpa using h)
    rwa [show k + 1 + j = k + (j + 1) by omega] at this

abbrev fT : Nat → Int := fun j => 3 * (j : Int)
def numsV (l : List Int) : Says := fun v w => ∃ A c, v = .slice A l.length c ∧ Ints w A c l
theorem numsV_keep {l : List Int} (v : Value) (x y : World) (hb : Below x.heap.size x y) (h : numsV l v x) : numsV l v y := by
  obtain ⟨A, c, e, hO⟩ := h
  exact ⟨A, c, e, hO.below hb⟩
theorem NumsP.says {l : List Int} {w w' : World} {e : Ending} (h : NumsP l w e w') : ∃ v, e = .returned v ∧ Below w.heap.size w w' ∧ numsV l v w' := by
  obtain ⟨A, c, he, hI, hb⟩ := h
  exact ⟨_, he, hb, A, c, rfl, hI⟩

section
variable (l : List CmL) (A : Option Addr) (n c : Nat) (ws : List Int) (wA : Option Addr) (wn wc : Nat) (p q : Int)

set_option maxHeartbeats 4000000 in
theorem poolTells_no (hz : n ≤ 9223372036854775807) (w : World) (h : Cmds w A c l) (hN : l.length = n) (hr : ¬ RightC l) :
    Calls Try.prog 3 #[.slice A n c, .slice wA wn wc, .agg #[.int .i64 p, .int .i64 q]] w fun e w' => e = .returned (.bool true) ∧ Below w.heap.size w w' := by
  have aw := Lib.hid (fun W => awake16 W)
  have BA := below_alloc1 w (.cells #[.int .i64 p, .int .i64 q] 24)
  obtain ⟨W0, hW0⟩ : ∃ W, W = w.alloc (.cells #[.int .i64 p, .int .i64 q] 24) := ⟨_, rfl⟩
  have B0 : Hid (Below w.heap.size w W0) := Lib.hid (by rw [hW0]; exact BA)
  have HW0 := Lib.hid hW0
  have hri := Lib.hid (right16_no l A n c W0 (h.below B0.out) hN hz hr)
  clear h hN hr BA hW0
  go_enter Try.func3, Try.ntmps3
  go_wp2_with (first
    | (go_at_call 6; rw [← HW0.out]; go_must ((with_reducible refine hri.out.mono ?_); rintro e w1 ⟨rfl, hb1⟩; have B1 := Lib.hid (bnext B0.out hb1); clear hb1))
    | (go_at_call 7; go_must ((with_reducible refine (aw.out _).mono ?_); rintro e w2 ⟨rfl, hb2⟩; have B2 := Lib.hid (bnext B1.out hb2); clear hb2)))
  go_ret
  exact ⟨rfl, B2.out⟩

set_option maxHeartbeats 4000000 in
theorem poolTells_long (w : World) (h : Cmds w A c l) (hN : l.length = n) (hr : RightC l) (hw : 40 < wn) :
    Calls Try.prog 3 #[.slice A n c, .slice wA wn wc, .agg #[.int .i64 p, .int .i64 q]] w fun e w' => e = .returned (.bool true) ∧ Below w.heap.size w w' := by
  have aw := Lib.hid (fun W => awake16 W)
  have BA := below_alloc1 w (.cells #[.int .i64 p, .int .i64 q] 24)
  obtain ⟨W0, hW0⟩ : ∃ W, W = w.alloc (.cells #[.int .i64 p, .int .i64 q] 24) := ⟨_, rfl⟩
  have B0 : Hid (Below w.heap.size w W0) := Lib.hid (by rw [hW0]; exact BA)
  have HW0 := Lib.hid hW0
  have hri := Lib.hid (right16_yes l A n c W0 (h.below B0.out) hN hr)
  have d1 : (40 : Int) < (wn : Int) := by omega
  clear h hN hr BA hW0
  go_enter Try.func3, Try.ntmps3
  go_wp2_with (first
    | (go_at_call 6; rw [← HW0.out]; go_must ((with_reducible refine hri.out.mono ?_); rintro e w1 ⟨rfl, hb1⟩; have B1 := Lib.hid (bnext B0.out hb1); clear hb1))
    | (go_at_call 7; go_must ((with_reducible refine (aw.out _).mono ?_); rintro e w2 ⟨rfl, hb2⟩; have B2 := Lib.hid (bnext B1.out hb2); clear hb2)))
  go_ret
  exact ⟨rfl, B2.out⟩

set_option maxHeartbeats 32000000 in
set_option maxRecDepth 100000 in
theorem poolTells_main (w : World) (h : Cmds w A c l) (hN : l.length = n) (hr : RightC l) (hws : Ints w wA wc ws) (hwn : ws.length = wn) (h40 : wn ≤ 40) :
    Calls Try.prog 3 #[.slice A n c, .slice wA wn wc, .agg #[.int .i64 p, .int .i64 q]] w fun e w' => e = .returned (.bool true) ∧ Below w.heap.size w w' := by
  have aw := Lib.hid (fun W => awake16 W)
  have BA := below_alloc1 w (.cells #[.int .i64 p, .int .i64 q] 24)
  obtain ⟨W0, hW0⟩ : ∃ W, W = w.alloc (.cells #[.int .i64 p, .int .i64 q] 24) := ⟨_, rfl⟩
  have B0 : Hid (Below w.heap.size w W0) := Lib.hid (by rw [hW0]; exact BA)
  have HW0 := Lib.hid hW0
  have hri := Lib.hid (right16_yes l A n c W0 (h.below B0.out) hN hr)
  have hne : Hid (∀ W, Calls Try.prog 8 #[.int .i64 6] W (LkPost (lksW [] 6) 6 W)) := Lib.hid (fun W => rnew_who 6 W (by decide) (by decide))
  have k0 : Bk W0 w.heap.size 24 #[.int .i64 p, .int .i64 q] := by rw [hW0]; exact Bk.new w _ _
  have TW : Hid (∀ X, Below W0.heap.size W0 X → X.cell? ⟨w.heap.size, 0, none⟩ = some (.int .i64 p) ∧ X.cell? ⟨w.heap.size, 1, none⟩ = some (.int .i64 q) ∧ w.heap.size < X.heap.size) := Lib.hid (fun X hX => by
    have hk := k0.below hX
    exact ⟨hk.cell 0, hk.cell 1, hk.lt⟩)
  have H := Lib.hid (h.below B0.out)
  have HN := Lib.hid hN
  have HR := Lib.hid hr
  have HWS := Lib.hid (hws.below B0.out)
  have HWN := Lib.hid hwn
  have hcap := h.cap
  rw [hN] at hcap
  have hwcap : wn ≤ wc := by have := hws.2.1; omega
  have h30 := hr.2
  rw [hN] at h30
  have d40 : ¬ (40 : Int) < (wn : Int) := by omega
  have d40' : decide ((40 : Int) < (wn : Int)) = false := decide_eq_false d40
  clear h hN hr hws hwn BA hW0 k0
  go_enter Try.func3, Try.ntmps3
  go_wp2_with (first
    | (go_at_call 6; rw [← HW0.out]; go_must ((with_reducible refine hri.out.mono ?_); rintro e w1 ⟨rfl, hb1⟩; have B1 := Lib.hid hb1; clear hb1))
    | (go_at_call 8; go_must ((with_reducible refine (hne.out _).mono ?_); rintro e w2 ⟨V0, k0, rfl, hO, hb2⟩; have O0 := Lib.hid hO.sl; have B2 := Lib.hid (bnext B1.out hb2); clear hO hb2)))
  have S0 := Lib.hid (TkIs.nil w2)
  go_loopw [7, 8, 9, 10] (fun xs ys ks cc wr => ∃ (i kx ky kv : Nat) (X Y V : Option Addr) (lx ly : List TkL), i ≤ n ∧ xs = .slice X i kx ∧ ys = .slice Y i ky ∧ ks = .slice V 6 kv ∧ cc = .int .i64 i ∧ Hid (TkIs (newG fT l i) wr X i kx lx) ∧ Hid (TkIs (newG fT l i) wr Y i ky ly) ∧ Hid (LkSl wr V 6 kv (lksW (whoG fT l i) 6)) ∧ Hid (Below W0.heap.size W0 wr)) (fun _ _ _ cc _ => n - (intOf cc).toNat)
  case atStart => exact ⟨0, 0, 0, k0, none, none, V0, [], [], Nat.zero_le _, rfl, rfl, rfl, rfl, S0, S0, O0, B2⟩
  case round =>
    obtain ⟨i, kx, ky, kv, X, Y, V, lx, ly, hi, rfl, rfl, rfl, rfl, HX, HY, HO, HB⟩ := hrel
    by_cases hlt : i < n
    · have d1 : (i : Int) < (n : Int) := by omega
      have d2 : (i : Int) < (c : Int) := by omega
      have dw : IntKind.i64.wrap (3 * (i : Int)) = 3 * (i : Int) := by rw [IntKind.wrap_i64]; omega
      obtain ⟨x, hx⟩ := cml_at (l := l) (i := i) (by rw [HN.out]; exact hlt)
      have hmf := HR.out.at hx
      have hin := H.out.2 x (List.mem_of_getElem? hx)
      have ha1 : Hid (∀ W, Below wr.heap.size wr W → Calls Try.prog 9 #[.slice X i kx, cmV x.ra x.nr x.rc x.wa x.nw x.wc x.aa x.na x.ac x.c.fuel x.ca x.nc x.cc, .int .i64 (3 * (i : Int))] W fun e W' => ∃ v, e = .returned v ∧ Below W.heap.size W W' ∧ isT (newG fT l (i + 1)) (i + 1) v W') := Lib.hid (fun W hW => by
        rw [newG_succ fT hx]
        exact (padd_is _ lx X i kx W x (3 * (i : Int)) (HX.out.below hW) (by omega) (hin.below (HB.out.trans (hW.mono HB.out.size))) (hin.few hmf.1)).mono fun _ _ h => h.is.says)
      have ha2 : Hid (∀ W, Below wr.heap.size wr W → Calls Try.prog 10 #[.slice Y i ky, cmV x.ra x.nr x.rc x.wa x.nw x.wc x.aa x.na x.ac x.c.fuel x.ca x.nc x.cc, .int .i64 (3 * (i : Int))] W fun e W' => ∃ v, e = .returned v ∧ Below W.heap.size W W' ∧ isT (newG fT l (i + 1)) (i + 1) v W') := Lib.hid (fun W hW => by
        rw [newG_succ fT hx]
        exact (radd_is _ ly Y i ky W x (3 * (i : Int)) (HY.out.below hW) (by omega) (hin.below (HB.out.trans (hW.mono HB.out.size))) (hin.few hmf.1)).mono fun _ _ h => h.says)
      have hask : Hid (∀ W, Below W0.heap.size W0 W → LkSl W V 6 kv (lksW (whoG fT l i) 6) → Calls Try.prog 11 #[.slice V 6 kv, cmV x.ra x.nr x.rc x.wa x.nw x.wc x.aa x.na x.ac x.c.fuel x.ca x.nc x.cc, .int .i64 (3 * (i : Int))] W (LsPost (lksW (whoG fT l (i + 1)) 6) 6 W)) := Lib.hid (fun W hW hl => by
        rw [whoG_succ fT hx]
        exact rask_who x.c x.ra x.nr x.rc x.wa x.nw x.wc x.aa x.na x.ac x.c.fuel x.ca x.nc x.cc (whoG fT l i) V 6 kv (3 * (i : Int)) W hl (by decide) (by rw [whoG_length]; omega) hmf.1.sets (CmL.lkC (H.out.below hW) HR.out hx))
      obtain ⟨bb, off, rfl, hA⟩ := (H.out.below HB.out).lies hx
      have HA := Lib.hid hA
      clear hx hA hmf hin
      go_wp2
      try simp only [List.append_eq, List.cons_append, List.nil_append]
      refine wp_region_saysK 16 (fun x y => Below x.heap.size x y) (fun _ _ _ h k => bnext h k) wr (below_drew1 wr) (by kernel_rfl) (by kernel_rfl) (by kernel_rfl) (by kernel_rfl) (by rfl) ?_
      simp only [List.take_succ_cons, List.take_zero, List.drop_succ_cons, List.drop_zero]
      refine walkK_is ?_ (by first | exact gs0 rfl | exact gs1 rfl rfl rfl) (fun _ => Below.refl _ _) (fun u X' hX hd => ?_) ?_
      rotate_left
      · obtain ⟨c0, c1, c2, c3, c4, cl⟩ := HA.out X' hX
        try simp at hd
        go_simp
        try rfl
      apply walkK_norm
      · first | (simp only [List.nil_append]; rfl) | simp only [List.nil_append]
      refine walkK_is ?_ (by first | exact gs0 rfl | exact gs1 rfl rfl rfl) (fun _ => Below.refl _ _) (fun u X' hX hd => ?_) ?_
      rotate_left
      · obtain ⟨c0, c1, c2, c3, c4, cl⟩ := HA.out X' hX
        try simp at hd
        go_simp
        try rfl
      apply walkK_norm
      · first | (simp only [List.nil_append, List.cons_append]; rfl) | simp only [List.nil_append, List.cons_append]
      refine walkK_is ?_ (by first | exact gs0 rfl | exact gs1 rfl rfl rfl) (fun _ => Below.refl _ _) (fun u X' hX hd => ?_) ?_
      rotate_left
      · obtain ⟨c0, c1, c2, c3, c4, cl⟩ := HA.out X' hX
        try simp at hd
        go_simp
        try rfl
      apply walkK_norm
      · first | (simp only [List.nil_append, List.cons_append]; rfl) | simp only [List.nil_append, List.cons_append]
      refine walkK_is ?_ (by first | exact gs0 rfl | exact gs1 rfl rfl rfl) (fun _ => Below.refl _ _) (fun u X' hX hd => ?_) ?_
      rotate_left
      · obtain ⟨c0, c1, c2, c3, c4, cl⟩ := HA.out X' hX
        try simp at hd
        go_simp
        try rfl
      apply walkK_norm
      · first | (simp only [List.nil_append, List.cons_append]; rfl) | simp only [List.nil_append, List.cons_append]
      refine walkK_is (cmV x.ra x.nr x.rc x.wa x.nw x.wc x.aa x.na x.ac x.c.fuel x.ca x.nc x.cc) (by first | exact gs0 rfl | exact gs1 rfl rfl rfl) (fun _ => Below.refl _ _) (fun u X' hX hd => ?_) ?_
      · obtain ⟨c0, c1, c2, c3, c4, cl⟩ := HA.out X' hX
        try simp at hd
        go_simp
        try rfl
      apply walkK_norm
      · first | (simp only [List.nil_append, List.cons_append]; rfl) | simp only [List.nil_append, List.cons_append]
      refine walkK_is ?_ (by first | exact gs0 rfl | exact gs1 rfl rfl rfl) (fun _ => Below.refl _ _) (fun u X' hX hd => ?_) ?_
      rotate_left
      · obtain ⟨c0, c1, c2, c3, c4, cl⟩ := HA.out X' hX
        try simp at hd
        go_simp
        try rfl
      apply walkK_norm
      · first | (simp only [List.nil_append, List.cons_append]; rfl) | simp only [List.nil_append, List.cons_append]
      refine walkK_is (.int .i64 (3 * (i : Int))) (by first | exact gs0 rfl | exact gs1 rfl rfl rfl) (fun _ => Below.refl _ _) (fun u X' hX hd => ?_) ?_
      · obtain ⟨c0, c1, c2, c3, c4, cl⟩ := HA.out X' hX
        try simp at hd
        go_simp
        try rfl
      apply walkK_norm
      · first | (simp only [List.nil_append, List.cons_append]; rfl) | simp only [List.nil_append, List.cons_append]
      refine walkK_call (isT (newG fT l (i + 1)) (i + 1)) 9 ?_ (by first | exact gs0 rfl | exact gs1 rfl rfl rfl) (fun v x y hb h => isT_keep v x y hb h) (fun u X' hX hd => ?_) (fun X' hX => ?_) ?_
      rotate_left
      · obtain ⟨c0, c1, c2, c3, c4, cl⟩ := HA.out X' hX
        try simp at hd
        go_simp
        try rfl
      · exact ha1.out X' hX
      apply walkK_norm
      · first | (simp only [List.nil_append, List.cons_append]; rfl) | simp only [List.nil_append, List.cons_append]
      refine walkK_is ?_ (by first | exact gs0 rfl | exact gs1 rfl rfl rfl) (fun _ => Below.refl _ _) (fun u X' hX hd => ?_) ?_
      rotate_left
      · obtain ⟨c0, c1, c2, c3, c4, cl⟩ := HA.out X' hX
        try simp at hd
        go_simp
        try rfl
      apply walkK_norm
      · first | (simp only [List.nil_append, List.cons_append]; rfl) | simp only [List.nil_append, List.cons_append]
      refine walkK_is ?_ (by first | exact gs0 rfl | exact gs1 rfl rfl rfl) (fun _ => Below.refl _ _) (fun u X' hX hd => ?_) ?_
      rotate_left
      · obtain ⟨c0, c1, c2, c3, c4, cl⟩ := HA.out X' hX
        try simp at hd
        go_simp
        try rfl
      apply walkK_norm
      · first | (simp only [List.nil_append, List.cons_append]; rfl) | simp only [List.nil_append, List.cons_append]
      refine walkK_is ?_ (by first | exact gs0 rfl | exact gs1 rfl rfl rfl) (fun _ => Below.refl _ _) (fun u X' hX hd => ?_) ?_
      rotate_left
      · obtain ⟨c0, c1, c2, c3, c4, cl⟩ := HA.out X' hX
        try simp at hd
        go_simp
        try rfl
      apply walkK_norm
      · first | (simp only [List.nil_append, List.cons_append]; rfl) | simp only [List.nil_append, List.cons_append]
      refine walkK_is ?_ (by first | exact gs0 rfl | exact gs1 rfl rfl rfl) (fun _ => Below.refl _ _) (fun u X' hX hd => ?_) ?_
      rotate_left
      · obtain ⟨c0, c1, c2, c3, c4, cl⟩ := HA.out X' hX
        try simp at hd
        go_simp
        try rfl
      apply walkK_norm
      · first | (simp only [List.nil_append, List.cons_append]; rfl) | simp only [List.nil_append, List.cons_append]
      refine walkK_is (cmV x.ra x.nr x.rc x.wa x.nw x.wc x.aa x.na x.ac x.c.fuel x.ca x.nc x.cc) (by first | exact gs0 rfl | exact gs1 rfl rfl rfl) (fun _ => Below.refl _ _) (fun u X' hX hd => ?_) ?_
      · obtain ⟨c0, c1, c2, c3, c4, cl⟩ := HA.out X' hX
        try simp at hd
        go_simp
        try rfl
      apply walkK_norm
      · first | (simp only [List.nil_append, List.cons_append]; rfl) | simp only [List.nil_append, List.cons_append]
      refine walkK_is ?_ (by first | exact gs0 rfl | exact gs1 rfl rfl rfl) (fun _ => Below.refl _ _) (fun u X' hX hd => ?_) ?_
      rotate_left
      · obtain ⟨c0, c1, c2, c3, c4, cl⟩ := HA.out X' hX
        try simp at hd
        go_simp
        try rfl
      apply walkK_norm
      · first | (simp only [List.nil_append, List.cons_append]; rfl) | simp only [List.nil_append, List.cons_append]
      refine walkK_is (.int .i64 (3 * (i : Int))) (by first | exact gs0 rfl | exact gs1 rfl rfl rfl) (fun _ => Below.refl _ _) (fun u X' hX hd => ?_) ?_
      · obtain ⟨c0, c1, c2, c3, c4, cl⟩ := HA.out X' hX
        try simp at hd
        go_simp
        try rfl
      apply walkK_norm
      · first | (simp only [List.nil_append, List.cons_append]; rfl) | simp only [List.nil_append, List.cons_append]
      refine walkK_call (isT (newG fT l (i + 1)) (i + 1)) 10 ?_ (by first | exact gs0 rfl | exact gs1 rfl rfl rfl) (fun v x y hb h => isT_keep v x y hb h) (fun u X' hX hd => ?_) (fun X' hX => ?_) ?_
      rotate_left
      · obtain ⟨c0, c1, c2, c3, c4, cl⟩ := HA.out X' hX
        try simp at hd
        go_simp
        try rfl
      · exact ha2.out X' hX
      apply walkK_norm
      · first | (simp only [List.nil_append, List.cons_append]; rfl) | simp only [List.nil_append, List.cons_append]
      intro u X' hX hsay
      simp only [sayAll, isV] at hsay
      obtain ⟨-, -, -, -, -, -, -, v7, -, -, -, -, -, -, -, v15, -⟩ := hsay
      obtain ⟨X3, k3, l3, v7, hS3⟩ := v7
      obtain ⟨Y3, j3, m3, v15, hR3⟩ := v15
      simp only [putAll, Act.put, v7, v15, List.setIfInBounds_toArray, List.set_cons_succ, List.set_cons_zero, Nat.zero_add, Nat.reduceAdd]
      have S3 := Lib.hid hS3
      have R3 := Lib.hid hR3
      have B3 := Lib.hid (HB.out.trans (hX.mono HB.out.size))
      have O3 := Lib.hid (HO.out.below hX)
      obtain ⟨c0, c1, c2, c3, c4, cl⟩ := HA.out X' hX
      clear hS3 hR3 v7 v15 hX
      go_wp2_with (go_at_call 11; go_must ((with_reducible refine (hask.out _ B3.out O3.out).mono ?_); rintro e w4 ⟨V4, k4, rfl, hO4, hb4⟩; have S4 := Lib.hid (S3.out.below hb4); have R4 := Lib.hid (R3.out.below hb4); have O4 := Lib.hid hO4; have B4 := Lib.hid (B3.out.trans (hb4.mono B3.out.size)); clear hO4 hb4 c0 c1 c2 c3 c4 cl))
      go_roundw
      case rel => exact ⟨i + 1, k3, j3, k4, X3, Y3, V4, l3, m3, by omega, rfl, rfl, rfl, by go_num, S4, R4, O4, B4⟩
      case measure => simp [intOf]; omega
    · obtain rfl : n = i := by omega
      clear hlt
      have TX : Hid (TkIs (newW fT l ws 0 n) wr X n kx lx) := Lib.hid (by rw [newW_zero]; exact HX.out)
      have TY : Hid (TkIs (newW fT l ws 0 n) wr Y n ky ly) := Lib.hid (by rw [newW_zero]; exact HY.out)
      obtain ⟨w5, hw5⟩ : ∃ W, W = wr := ⟨_, rfl⟩
      rw [← hw5] at TX TY HO HB ⊢
      clear hw5 HX HY
      go_wp2
      go_loopw [7, 8, 11] (fun xs ys cc wr => ∃ (i kx ky : Nat) (X Y : Option Addr) (lx ly : List TkL), i ≤ n ∧ i ≤ wn ∧ xs = .slice X n kx ∧ ys = .slice Y n ky ∧ cc = .int .i64 i ∧ Hid (TkIs (newW fT l ws i n) wr X n kx lx) ∧ Hid (TkIs (newW fT l ws i n) wr Y n ky ly) ∧ Hid (Below w5.heap.size w5 wr)) (fun _ _ cc _ => n - (intOf cc).toNat)
      case atStart => exact ⟨0, kx, ky, X, Y, lx, ly, Nat.zero_le _, Nat.zero_le _, rfl, rfl, rfl, TX, TY, Lib.hid (Below.refl _ _)⟩
      case round =>
        clear TX TY hi
        obtain ⟨i, kx, ky, X, Y, lx, ly, hi, hiw, rfl, rfl, rfl, HX, HY, HW5⟩ := hrel
        by_cases hlt : i < wn ∧ i < n
        · obtain ⟨hlw, hlt⟩ := hlt
          have d1 : (i : Int) < (n : Int) := by omega
          have d2 : (i : Int) < (wn : Int) := by omega
          have d3 : (i : Int) < (wc : Int) := by omega
          have hxc := HX.out.sl.cap
          rw [HX.out.len] at hxc
          have d4 : (i : Int) < (kx : Int) := by omega
          obtain ⟨t, ht⟩ := tk_at (l := lx) (i := i) (by rw [HX.out.len]; exact hlt)
          obtain ⟨g, o1, rfl, hat, hint⟩ := HX.out.sl.at ht
          have hgl := hat.lt
          have HR4 := Lib.hid hat.all
          have hts : t.tsk = { newP (fT i) (cmdAt l i) with worker := -1 } := by
            have h1 := HX.out.says.at ht
            rw [newW_at fT l ws i hlt, if_neg (Nat.lt_irrefl _)] at h1
            injection h1 with h1
            exact h1.symm
          have hfe := HX.out.few t (List.mem_of_getElem? ht)
          obtain ⟨wv, hwv⟩ : ∃ wv, wv = wkAt ws i := ⟨_, rfl⟩
          have e0 : ws[i]?.getD 0 = wv := hwv.symm
          have KZ := Lib.hid (Bk.new wr 41 tkZ)
          obtain ⟨w6, hw6⟩ : ∃ w6, w6 = (wr.alloc (.cells tkZ 41)).setRow wr.heap.size (tkA t) := ⟨_, rfl⟩
          have HW6 := Lib.hid hw6.symm
          have k6 : Bk w6 wr.heap.size 41 (tkA t) := by rw [hw6]; exact KZ.out.setRow _
          have b6 : Below wr.heap.size wr w6 := by rw [hw6]; exact below_row (below_alloc1 _ _) (Nat.le_refl _) _
          have p17 := k6.cell 17
          have pl := k6.lt
          have pf := fun o => k6.frozen o
          simp only [List.getElem?_toArray, List.getElem?_cons_zero, List.getElem?_cons_succ] at p17
          have B06 := HB.out.trans ((HW5.out.trans (b6.mono HW5.out.size)).mono HB.out.size)
          obtain ⟨bw, ow, rfl, hbw, y0⟩ := (HWS.out.below B06).cellAt (j := i) (by rw [HWN.out]; exact hlw)
          rw [e0] at y0
          obtain ⟨t1, ht1⟩ : ∃ t1, t1 = ({ t with wk := wv } : TkL) := ⟨_, rfl⟩
          obtain ⟨w7, hw7⟩ : ∃ w7, w7 = w6.setCell ⟨wr.heap.size, 17, none⟩ (.int .i64 wv) := ⟨_, rfl⟩
          have HW7 := Lib.hid hw7.symm
          have k7 : Bk w7 wr.heap.size 41 (tkA t1) := by
            have := k6.set 17 (.int .i64 wv)
            simp only [List.setIfInBounds_toArray, List.set_cons_zero, List.set_cons_succ] at this
            rw [ht1, hw7]
            exact this
          have b7 : Below wr.heap.size wr w7 := by rw [hw7]; exact b6.setCell (p := ⟨wr.heap.size, 17, none⟩) (Nat.le_refl _) _
          have hts1 : t1.tsk = { newP (fT i) (cmdAt l i) with worker := wkAt ws i } := by
            rw [ht1, hwv]
            show ({ t.tsk with worker := wkAt ws i } : Tsk) = _
            rw [hts]
          have hin1 : t1.In wr := by rw [ht1]; exact hint.wk wv
          have hfe1 : fewT t1 := by rw [ht1]; exact hfe.wk wv
          have hld : Hid (∀ W, Below w7.heap.size w7 W → (loadVar 41 ⟨wr.heap.size, 0, none⟩).run Try.prog W = .ok (.agg (tkA t1)) W) := Lib.hid (fun W hW => run_loadVar_row W wr.heap.size 41 41 _ (0, 0) _ (k7.below hW) Try.underlying41 rfl infoTk)
          have hwi1 : Hid (∀ W, Below w7.heap.size w7 W → Calls Try.prog 12 #[.slice (some ⟨g, o1, none⟩) n kx, .int .i64 (i : Int), .agg (tkA t1)] W fun e W' => ∃ v, e = .returned v ∧ Below W.heap.size W W' ∧ isT (newW fT l ws (i + 1) n) n v W') := Lib.hid (fun W hW => by
            have hbW := bnext b7 hW
            have := pwith_is _ lx (some ⟨g, o1, none⟩) n kx W i t1 (HX.out.below hbW) hlt (by omega) (hin1.below hbW) hfe1
            rw [hts1, newW_set fT l ws hlt] at this
            exact this.mono fun _ _ h => h.is.says)
          have hwi2 : Hid (∀ W, Below w7.heap.size w7 W → Calls Try.prog 13 #[.slice Y n ky, .int .i64 (i : Int), .agg (tkA t1)] W fun e W' => ∃ v, e = .returned v ∧ Below W.heap.size W W' ∧ isT (newW fT l ws (i + 1) n) n v W') := Lib.hid (fun W hW => by
            have hbW := bnext b7 hW
            have := rwith_is _ ly Y n ky W i t1 (HY.out.below hbW) hlt (by omega) (hin1.below hbW) hfe1
            rw [hts1, newW_set fT l ws hlt] at this
            exact this.mono fun _ _ h => h.says)
          have B7 := Lib.hid (HW5.out.trans (b7.mono HW5.out.size))
          clear ht hat hint hts hfe hwv e0 hw6 k6 b6 B06 ht1 hw7 k7 b7 hts1 hin1 hfe1
          go_wp2_with (first
            | (with_reducible refine ld_tskm g (o1 + i * 18) HR4.out _ rfl rfl rfl ?_)
            | (with_reducible refine st_tsk wr.heap.size KZ.out rfl t _ _ rfl rfl rfl rfl ?_; rw [HW6.out]))
          rw [HW7.out]
          try simp only [List.append_eq, List.cons_append, List.nil_append]
          refine wp_region_saysK 8 (fun x y => Below x.heap.size x y) (fun _ _ _ h k => bnext h k) w7 (below_drew1 w7) (by kernel_rfl) (by kernel_rfl) (by kernel_rfl) (by kernel_rfl) (by rfl) ?_
          simp only [List.take_succ_cons, List.take_zero, List.drop_succ_cons, List.drop_zero]
          refine walkK_is ?_ (by first | exact gs0 rfl | exact gs1 rfl rfl rfl) (fun _ => Below.refl _ _) (fun u X' hX hd => ?_) ?_
          rotate_left
          · skip
            try simp at hd
            go_simp
            try rfl
          apply walkK_norm
          · first | (simp only [List.nil_append]; rfl) | simp only [List.nil_append]
          refine walkK_is (.int .i64 (i : Int)) (by first | exact gs0 rfl | exact gs1 rfl rfl rfl) (fun _ => Below.refl _ _) (fun u X' hX hd => ?_) ?_
          · skip
            try simp at hd
            go_simp
            try rfl
          apply walkK_norm
          · first | (simp only [List.nil_append, List.cons_append]; rfl) | simp only [List.nil_append, List.cons_append]
          refine walkK_is (.agg (tkA t1)) (by first | exact gs0 rfl | exact gs1 rfl rfl rfl) (fun _ => Below.refl _ _) (fun u X' hX hd => ?_) ?_
          · have hl := hld.out X' hX
            try simp at hd
            refine op_load_at 41 (wr.heap.size) (0) hl _ rfl ?_
            go_simp
          apply walkK_norm
          · first | (simp only [List.nil_append, List.cons_append]; rfl) | simp only [List.nil_append, List.cons_append]
          refine walkK_call (isT (newW fT l ws (i + 1) n) n) 12 ?_ (by first | exact gs0 rfl | exact gs1 rfl rfl rfl) (fun v x y hb h => isT_keep v x y hb h) (fun u X' hX hd => ?_) (fun X' hX => ?_) ?_
          rotate_left
          · skip
            try simp at hd
            go_simp
            try rfl
          · exact hwi1.out X' hX
          apply walkK_norm
          · first | (simp only [List.nil_append, List.cons_append]; rfl) | simp only [List.nil_append, List.cons_append]
          refine walkK_is ?_ (by first | exact gs0 rfl | exact gs1 rfl rfl rfl) (fun _ => Below.refl _ _) (fun u X' hX hd => ?_) ?_
          rotate_left
          · skip
            try simp at hd
            go_simp
            try rfl
          apply walkK_norm
          · first | (simp only [List.nil_append, List.cons_append]; rfl) | simp only [List.nil_append, List.cons_append]
          refine walkK_is (.int .i64 (i : Int)) (by first | exact gs0 rfl | exact gs1 rfl rfl rfl) (fun _ => Below.refl _ _) (fun u X' hX hd => ?_) ?_
          · skip
            try simp at hd
            go_simp
            try rfl
          apply walkK_norm
          · first | (simp only [List.nil_append, List.cons_append]; rfl) | simp only [List.nil_append, List.cons_append]
          refine walkK_is (.agg (tkA t1)) (by first | exact gs0 rfl | exact gs1 rfl rfl rfl) (fun _ => Below.refl _ _) (fun u X' hX hd => ?_) ?_
          · have hl := hld.out X' hX
            try simp at hd
            refine op_load_at 41 (wr.heap.size) (0) hl _ rfl ?_
            go_simp
          apply walkK_norm
          · first | (simp only [List.nil_append, List.cons_append]; rfl) | simp only [List.nil_append, List.cons_append]
          refine walkK_call (isT (newW fT l ws (i + 1) n) n) 13 ?_ (by first | exact gs0 rfl | exact gs1 rfl rfl rfl) (fun v x y hb h => isT_keep v x y hb h) (fun u X' hX hd => ?_) (fun X' hX => ?_) ?_
          rotate_left
          · skip
            try simp at hd
            go_simp
            try rfl
          · exact hwi2.out X' hX
          apply walkK_norm
          · first | (simp only [List.nil_append, List.cons_append]; rfl) | simp only [List.nil_append, List.cons_append]
          intro u X' hX hsay
          simp only [sayAll, isV] at hsay
          obtain ⟨-, -, -, v3, -, -, -, v7, -⟩ := hsay
          obtain ⟨X3, k3, l3, v3, hS3⟩ := v3
          obtain ⟨Y3, j3, m3, v7, hR3⟩ := v7
          simp only [putAll, Act.put, v3, v7, List.setIfInBounds_toArray, List.set_cons_succ, List.set_cons_zero, Nat.zero_add, Nat.reduceAdd]
          have S3 := Lib.hid hS3
          have R3 := Lib.hid hR3
          have B8 := Lib.hid (B7.out.trans (hX.mono B7.out.size))
          clear hS3 hR3 v3 v7 hX
          go_wp2
          go_roundw
          case rel => exact ⟨i + 1, k3, j3, X3, Y3, l3, m3, by omega, by omega, rfl, rfl, by go_num, S3, R3, B8⟩
          case measure => simp [intOf]; omega
        · have hex : wn = i ∨ (i < wn ∧ n = i) := by omega
          have B1' := Lib.hid (HB.out.trans (HW5.out.mono HB.out.size))
          have hnl : n ≤ l.length := by rw [HN.out]; exact Nat.le_refl _
          have hgood := newW_good fT HR.out ws i hnl
          have hfuels := newW_fuels fT HR.out ws i hnl
          have hfuel := newW_fuel fT l ws i n
          have hll := newW_length fT l ws i n
          obtain ⟨LN, hLN⟩ : ∃ L, L = newW fT l ws i n := ⟨_, rfl⟩
          rw [← hLN] at HX HY hgood hfuels hfuel hll
          have hlk : Hid (∀ W, Below wr.heap.size wr W → LkSl W V 6 kv (lksW (whoG fT l n) 6)) := Lib.hid (fun W hW => HO.out.below (HW5.out.trans (hW.mono HW5.out.size)))
          have hsm := Lib.hid (fun W (hW : Below wr.heap.size wr W) => rsame_is LN lx X n kx W ly Y ky (HX.out.below hW) (HY.out.below hW) (by omega))
          obtain ⟨fi, hfi⟩ : ∃ z, z = idxP (seqP p) LN := ⟨_, rfl⟩
          obtain ⟨oi, hoi⟩ : ∃ z, z = idxP (wkP q) LN := ⟨_, rfl⟩
          obtain ⟨fu, hfu⟩ : ∃ z, z = fuelP LN := ⟨_, rfl⟩
          obtain ⟨wl, hwl⟩ : ∃ z, z = readiesL (lksW (whoG fT l n) 6) LN := ⟨_, rfl⟩
          have hwln : wl.length ≤ n := by
            rw [hwl, ← hll]
            unfold readiesL
            rw [List.length_map]
            exact List.length_filter_le _ _
          have f1 : Hid (∀ W, Below wr.heap.size wr W → Calls Try.prog 15 #[.slice X n kx, .int .i64 p] W fun e W' => e = .returned (.int .i64 fi) ∧ Below W.heap.size W W') := Lib.hid (fun W hW => by rw [hfi]; exact pfind_is LN lx X n kx W p (HX.out.below hW) (by omega))
          have f2 : Hid (∀ W, Below wr.heap.size wr W → Calls Try.prog 16 #[.slice Y n ky, .int .i64 p] W fun e W' => e = .returned (.int .i64 fi) ∧ Below W.heap.size W W') := Lib.hid (fun W hW => by rw [hfi]; exact rfind_is LN ly Y n ky W p (HY.out.below hW) (by omega))
          have f3 : Hid (∀ W, Below wr.heap.size wr W → Calls Try.prog 17 #[.slice X n kx, .int .i64 q] W fun e W' => e = .returned (.int .i64 oi) ∧ Below W.heap.size W W') := Lib.hid (fun W hW => by rw [hoi]; exact pof_is LN lx X n kx W q (HX.out.below hW) (by omega))
          have f4 : Hid (∀ W, Below wr.heap.size wr W → Calls Try.prog 18 #[.slice Y n ky, .int .i64 q] W fun e W' => e = .returned (.int .i64 oi) ∧ Below W.heap.size W W') := Lib.hid (fun W hW => by rw [hoi]; exact rof_is LN ly Y n ky W q (HY.out.below hW) (by omega))
          have f5 : Hid (∀ W, Below wr.heap.size wr W → Calls Try.prog 19 #[.slice X n kx] W fun e W' => e = .returned (.int .i64 fu) ∧ Below W.heap.size W W') := Lib.hid (fun W hW => by rw [hfu]; exact pfuel_is LN lx X n kx W (HX.out.below hW) (by omega) hfuels)
          have f6 : Hid (∀ W, Below wr.heap.size wr W → Calls Try.prog 20 #[.slice Y n ky] W fun e W' => e = .returned (.int .i64 fu) ∧ Below W.heap.size W W') := Lib.hid (fun W hW => by rw [hfu]; exact rfuel_is LN ly Y n ky W (HY.out.below hW) (by omega) hfuels)
          have f7 : Hid (∀ W, Below wr.heap.size wr W → Calls Try.prog 22 #[.slice X n kx, .slice V 6 kv] W fun e W' => ∃ v, e = .returned v ∧ Below W.heap.size W W' ∧ numsV wl v W') := Lib.hid (fun W hW => by rw [hwl]; exact (pready_is LN lx X n kx W (whoG fT l n) V 6 kv (HX.out.below hW) (by omega) hgood (hlk.out W hW) (by rw [whoG_length]; omega)).mono fun _ _ h => h.says)
          have f8 : Hid (∀ W, Below wr.heap.size wr W → Calls Try.prog 23 #[.slice Y n ky, .slice V 6 kv] W (NumsP wl W)) := Lib.hid (fun W hW => by rw [hwl]; exact rready_is LN ly Y n ky W (whoG fT l n) V 6 kv (HY.out.below hW) (by omega) hgood (hlk.out W hW) (by rw [whoG_length]; omega))
          have hKK : fi = -1 ∨ ∃ K : Nat, K < n ∧ fi = (K : Int) := by
            rcases idxP_is (seqP p) LN with ⟨h1, -⟩ | ⟨K, T, h1, h2, -⟩
            · exact .inl (hfi.trans h1)
            · exact .inr ⟨K, by rw [← hll]; exact h2, hfi.trans h1⟩
          have e1 : (fi != fi) = false := by simp
          have e2 : (oi != oi) = false := by simp
          have e3 : (fu != fu) = false := by simp
          clear hgood hfuels hfuel hll hLN hfi hoi hfu hwl hlk hlt hnl
          rcases hex with rfl | ⟨hq, rfl⟩
          all_goals
            go_wp2
            try simp only [List.append_eq, List.cons_append, List.nil_append]
            refine wp_region_saysK 39 (fun x y => Below x.heap.size x y) (fun _ _ _ h k => bnext h k) wr (below_drew1 wr) (by kernel_rfl) (by kernel_rfl) (by kernel_rfl) (by kernel_rfl) (by rfl) ?_
            simp only [List.take_succ_cons, List.take_zero, List.drop_succ_cons, List.drop_zero]
            refine walkK_is ?_ (by first | exact gs0 rfl | exact gs1 rfl rfl rfl) (fun _ => Below.refl _ _) (fun u X' hX hd => ?_) ?_
            rotate_left
            · obtain ⟨c0, c1, cl⟩ := TW.out X' (bnext B1'.out hX)
              try simp at hd
              go_simp
              try rfl
            apply walkK_norm
            · first | (simp only [List.nil_append]; rfl) | simp only [List.nil_append]
            refine walkK_is ?_ (by first | exact gs0 rfl | exact gs1 rfl rfl rfl) (fun _ => Below.refl _ _) (fun u X' hX hd => ?_) ?_
            rotate_left
            · obtain ⟨c0, c1, cl⟩ := TW.out X' (bnext B1'.out hX)
              try simp at hd
              go_simp
              try rfl
            apply walkK_norm
            · first | (simp only [List.nil_append, List.cons_append]; rfl) | simp only [List.nil_append, List.cons_append]
            refine walkK_call (isV (.bool true)) 14 ?_ (by first | exact gs0 rfl | exact gs1 rfl rfl rfl) (fun _ _ _ _ h => h) (fun u X' hX hd => ?_) (fun X' hX => ?_) ?_
            rotate_left
            · obtain ⟨c0, c1, cl⟩ := TW.out X' (bnext B1'.out hX)
              try simp at hd
              go_simp
              try rfl
            · exact (hsm.out X' hX).mono fun e X2 ⟨he, hb⟩ => ⟨_, he, hb, rfl⟩
            apply walkK_norm
            · first | (simp only [List.nil_append, List.cons_append]; rfl) | simp only [List.nil_append, List.cons_append]
            refine walkK_is (.bool false) (by first | exact gs0 rfl | exact gs1 rfl rfl rfl) (fun _ => Below.refl _ _) (fun u X' hX hd => ?_) ?_
            · obtain ⟨c0, c1, cl⟩ := TW.out X' (bnext B1'.out hX)
              try simp at hd
              go_simp
              try rfl
            apply walkK_norm
            · first | (simp only [List.nil_append, List.cons_append]; rfl) | simp only [List.nil_append, List.cons_append]
            refine walkK_is (.bool false) (by first | exact gs0 rfl | exact gs1 rfl rfl rfl) (fun _ => Below.refl _ _) (fun u X' hX hd => ?_) ?_
            · obtain ⟨c0, c1, cl⟩ := TW.out X' (bnext B1'.out hX)
              try simp at hd
              go_simp
              try rfl
            apply walkK_norm
            · first | (simp only [List.nil_append, List.cons_append]; rfl) | simp only [List.nil_append, List.cons_append]
            refine walkK_is ?_ (by first | exact gs0 rfl | exact gs1 rfl rfl rfl) (fun _ => Below.refl _ _) (fun u X' hX hd => ?_) ?_
            rotate_left
            · obtain ⟨c0, c1, cl⟩ := TW.out X' (bnext B1'.out hX)
              try simp at hd
              go_simp
              try rfl
            apply walkK_norm
            · first | (simp only [List.nil_append, List.cons_append]; rfl) | simp only [List.nil_append, List.cons_append]
            refine walkK_is ?_ (by first | exact gs0 rfl | exact gs1 rfl rfl rfl) (fun _ => Below.refl _ _) (fun u X' hX hd => ?_) ?_
            rotate_left
            · obtain ⟨c0, c1, cl⟩ := TW.out X' (bnext B1'.out hX)
              try simp at hd
              go_simp
              try rfl
            apply walkK_norm
            · first | (simp only [List.nil_append, List.cons_append]; rfl) | simp only [List.nil_append, List.cons_append]
            refine walkK_is (.int .i64 p) (by first | exact gs0 rfl | exact gs1 rfl rfl rfl) (fun _ => Below.refl _ _) (fun u X' hX hd => ?_) ?_
            · obtain ⟨c0, c1, cl⟩ := TW.out X' (bnext B1'.out hX)
              try simp at hd
              go_simp
              try rfl
            apply walkK_norm
            · first | (simp only [List.nil_append, List.cons_append]; rfl) | simp only [List.nil_append, List.cons_append]
            refine walkK_call (isV (.int .i64 fi)) 15 ?_ (by first | exact gs0 rfl | exact gs1 rfl rfl rfl) (fun _ _ _ _ h => h) (fun u X' hX hd => ?_) (fun X' hX => ?_) ?_
            rotate_left
            · obtain ⟨c0, c1, cl⟩ := TW.out X' (bnext B1'.out hX)
              try simp at hd
              go_simp
              try rfl
            · exact (f1.out X' hX).mono fun e X2 ⟨he, hb⟩ => ⟨_, he, hb, rfl⟩
            apply walkK_norm
            · first | (simp only [List.nil_append, List.cons_append]; rfl) | simp only [List.nil_append, List.cons_append]
            refine walkK_is ?_ (by first | exact gs0 rfl | exact gs1 rfl rfl rfl) (fun _ => Below.refl _ _) (fun u X' hX hd => ?_) ?_
            rotate_left
            · obtain ⟨c0, c1, cl⟩ := TW.out X' (bnext B1'.out hX)
              try simp at hd
              go_simp
              try rfl
            apply walkK_norm
            · first | (simp only [List.nil_append, List.cons_append]; rfl) | simp only [List.nil_append, List.cons_append]
            refine walkK_is ?_ (by first | exact gs0 rfl | exact gs1 rfl rfl rfl) (fun _ => Below.refl _ _) (fun u X' hX hd => ?_) ?_
            rotate_left
            · obtain ⟨c0, c1, cl⟩ := TW.out X' (bnext B1'.out hX)
              try simp at hd
              go_simp
              try rfl
            apply walkK_norm
            · first | (simp only [List.nil_append, List.cons_append]; rfl) | simp only [List.nil_append, List.cons_append]
            refine walkK_is (.int .i64 p) (by first | exact gs0 rfl | exact gs1 rfl rfl rfl) (fun _ => Below.refl _ _) (fun u X' hX hd => ?_) ?_
            · obtain ⟨c0, c1, cl⟩ := TW.out X' (bnext B1'.out hX)
              try simp at hd
              go_simp
              try rfl
            apply walkK_norm
            · first | (simp only [List.nil_append, List.cons_append]; rfl) | simp only [List.nil_append, List.cons_append]
            refine walkK_call (isV (.int .i64 fi)) 16 ?_ (by first | exact gs0 rfl | exact gs1 rfl rfl rfl) (fun _ _ _ _ h => h) (fun u X' hX hd => ?_) (fun X' hX => ?_) ?_
            rotate_left
            · obtain ⟨c0, c1, cl⟩ := TW.out X' (bnext B1'.out hX)
              try simp at hd
              go_simp
              try rfl
            · exact (f2.out X' hX).mono fun e X2 ⟨he, hb⟩ => ⟨_, he, hb, rfl⟩
            apply walkK_norm
            · first | (simp only [List.nil_append, List.cons_append]; rfl) | simp only [List.nil_append, List.cons_append]
            refine walkK_is (.bool false) (by first | exact gs0 rfl | exact gs1 rfl rfl rfl) (fun _ => Below.refl _ _) (fun u X' hX hd => ?_) ?_
            · obtain ⟨c0, c1, cl⟩ := TW.out X' (bnext B1'.out hX)
              try simp at hd
              go_simp
              try rfl
            apply walkK_norm
            · first | (simp only [List.nil_append, List.cons_append]; rfl) | simp only [List.nil_append, List.cons_append]
            refine walkK_is (.bool false) (by first | exact gs0 rfl | exact gs1 rfl rfl rfl) (fun _ => Below.refl _ _) (fun u X' hX hd => ?_) ?_
            · obtain ⟨c0, c1, cl⟩ := TW.out X' (bnext B1'.out hX)
              try simp at hd
              go_simp
              try rfl
            apply walkK_norm
            · first | (simp only [List.nil_append, List.cons_append]; rfl) | simp only [List.nil_append, List.cons_append]
            refine walkK_is (.bool false) (by first | exact gs0 rfl | exact gs1 rfl rfl rfl) (fun _ => Below.refl _ _) (fun u X' hX hd => ?_) ?_
            · obtain ⟨c0, c1, cl⟩ := TW.out X' (bnext B1'.out hX)
              try simp at hd
              go_simp
              try rfl
            apply walkK_norm
            · first | (simp only [List.nil_append, List.cons_append]; rfl) | simp only [List.nil_append, List.cons_append]
            refine walkK_is ?_ (by first | exact gs0 rfl | exact gs1 rfl rfl rfl) (fun _ => Below.refl _ _) (fun u X' hX hd => ?_) ?_
            rotate_left
            · obtain ⟨c0, c1, cl⟩ := TW.out X' (bnext B1'.out hX)
              try simp at hd
              go_simp
              try rfl
            apply walkK_norm
            · first | (simp only [List.nil_append, List.cons_append]; rfl) | simp only [List.nil_append, List.cons_append]
            refine walkK_is ?_ (by first | exact gs0 rfl | exact gs1 rfl rfl rfl) (fun _ => Below.refl _ _) (fun u X' hX hd => ?_) ?_
            rotate_left
            · obtain ⟨c0, c1, cl⟩ := TW.out X' (bnext B1'.out hX)
              try simp at hd
              go_simp
              try rfl
            apply walkK_norm
            · first | (simp only [List.nil_append, List.cons_append]; rfl) | simp only [List.nil_append, List.cons_append]
            refine walkK_is (.int .i64 q) (by first | exact gs0 rfl | exact gs1 rfl rfl rfl) (fun _ => Below.refl _ _) (fun u X' hX hd => ?_) ?_
            · obtain ⟨c0, c1, cl⟩ := TW.out X' (bnext B1'.out hX)
              try simp at hd
              go_simp
              try rfl
            apply walkK_norm
            · first | (simp only [List.nil_append, List.cons_append]; rfl) | simp only [List.nil_append, List.cons_append]
            refine walkK_call (isV (.int .i64 oi)) 17 ?_ (by first | exact gs0 rfl | exact gs1 rfl rfl rfl) (fun _ _ _ _ h => h) (fun u X' hX hd => ?_) (fun X' hX => ?_) ?_
            rotate_left
            · obtain ⟨c0, c1, cl⟩ := TW.out X' (bnext B1'.out hX)
              try simp at hd
              go_simp
              try rfl
            · exact (f3.out X' hX).mono fun e X2 ⟨he, hb⟩ => ⟨_, he, hb, rfl⟩
            apply walkK_norm
            · first | (simp only [List.nil_append, List.cons_append]; rfl) | simp only [List.nil_append, List.cons_append]
            refine walkK_is ?_ (by first | exact gs0 rfl | exact gs1 rfl rfl rfl) (fun _ => Below.refl _ _) (fun u X' hX hd => ?_) ?_
            rotate_left
            · obtain ⟨c0, c1, cl⟩ := TW.out X' (bnext B1'.out hX)
              try simp at hd
              go_simp
              try rfl
            apply walkK_norm
            · first | (simp only [List.nil_append, List.cons_append]; rfl) | simp only [List.nil_append, List.cons_append]
            refine walkK_is ?_ (by first | exact gs0 rfl | exact gs1 rfl rfl rfl) (fun _ => Below.refl _ _) (fun u X' hX hd => ?_) ?_
            rotate_left
            · obtain ⟨c0, c1, cl⟩ := TW.out X' (bnext B1'.out hX)
              try simp at hd
              go_simp
              try rfl
            apply walkK_norm
            · first | (simp only [List.nil_append, List.cons_append]; rfl) | simp only [List.nil_append, List.cons_append]
            refine walkK_is (.int .i64 q) (by first | exact gs0 rfl | exact gs1 rfl rfl rfl) (fun _ => Below.refl _ _) (fun u X' hX hd => ?_) ?_
            · obtain ⟨c0, c1, cl⟩ := TW.out X' (bnext B1'.out hX)
              try simp at hd
              go_simp
              try rfl
            apply walkK_norm
            · first | (simp only [List.nil_append, List.cons_append]; rfl) | simp only [List.nil_append, List.cons_append]
            refine walkK_call (isV (.int .i64 oi)) 18 ?_ (by first | exact gs0 rfl | exact gs1 rfl rfl rfl) (fun _ _ _ _ h => h) (fun u X' hX hd => ?_) (fun X' hX => ?_) ?_
            rotate_left
            · obtain ⟨c0, c1, cl⟩ := TW.out X' (bnext B1'.out hX)
              try simp at hd
              go_simp
              try rfl
            · exact (f4.out X' hX).mono fun e X2 ⟨he, hb⟩ => ⟨_, he, hb, rfl⟩
            apply walkK_norm
            · first | (simp only [List.nil_append, List.cons_append]; rfl) | simp only [List.nil_append, List.cons_append]
            refine walkK_is (.bool false) (by first | exact gs0 rfl | exact gs1 rfl rfl rfl) (fun _ => Below.refl _ _) (fun u X' hX hd => ?_) ?_
            · obtain ⟨c0, c1, cl⟩ := TW.out X' (bnext B1'.out hX)
              try simp at hd
              go_simp
              try rfl
            apply walkK_norm
            · first | (simp only [List.nil_append, List.cons_append]; rfl) | simp only [List.nil_append, List.cons_append]
            refine walkK_is (.bool false) (by first | exact gs0 rfl | exact gs1 rfl rfl rfl) (fun _ => Below.refl _ _) (fun u X' hX hd => ?_) ?_
            · obtain ⟨c0, c1, cl⟩ := TW.out X' (bnext B1'.out hX)
              try simp at hd
              go_simp
              try rfl
            apply walkK_norm
            · first | (simp only [List.nil_append, List.cons_append]; rfl) | simp only [List.nil_append, List.cons_append]
            refine walkK_is (.bool false) (by first | exact gs0 rfl | exact gs1 rfl rfl rfl) (fun _ => Below.refl _ _) (fun u X' hX hd => ?_) ?_
            · obtain ⟨c0, c1, cl⟩ := TW.out X' (bnext B1'.out hX)
              try simp at hd
              go_simp
              try rfl
            apply walkK_norm
            · first | (simp only [List.nil_append, List.cons_append]; rfl) | simp only [List.nil_append, List.cons_append]
            refine walkK_is ?_ (by first | exact gs0 rfl | exact gs1 rfl rfl rfl) (fun _ => Below.refl _ _) (fun u X' hX hd => ?_) ?_
            rotate_left
            · obtain ⟨c0, c1, cl⟩ := TW.out X' (bnext B1'.out hX)
              try simp at hd
              go_simp
              try rfl
            apply walkK_norm
            · first | (simp only [List.nil_append, List.cons_append]; rfl) | simp only [List.nil_append, List.cons_append]
            refine walkK_call (isV (.int .i64 fu)) 19 ?_ (by first | exact gs0 rfl | exact gs1 rfl rfl rfl) (fun _ _ _ _ h => h) (fun u X' hX hd => ?_) (fun X' hX => ?_) ?_
            rotate_left
            · obtain ⟨c0, c1, cl⟩ := TW.out X' (bnext B1'.out hX)
              try simp at hd
              go_simp
              try rfl
            · exact (f5.out X' hX).mono fun e X2 ⟨he, hb⟩ => ⟨_, he, hb, rfl⟩
            apply walkK_norm
            · first | (simp only [List.nil_append, List.cons_append]; rfl) | simp only [List.nil_append, List.cons_append]
            refine walkK_is ?_ (by first | exact gs0 rfl | exact gs1 rfl rfl rfl) (fun _ => Below.refl _ _) (fun u X' hX hd => ?_) ?_
            rotate_left
            · obtain ⟨c0, c1, cl⟩ := TW.out X' (bnext B1'.out hX)
              try simp at hd
              go_simp
              try rfl
            apply walkK_norm
            · first | (simp only [List.nil_append, List.cons_append]; rfl) | simp only [List.nil_append, List.cons_append]
            refine walkK_call (isV (.int .i64 fu)) 20 ?_ (by first | exact gs0 rfl | exact gs1 rfl rfl rfl) (fun _ _ _ _ h => h) (fun u X' hX hd => ?_) (fun X' hX => ?_) ?_
            rotate_left
            · obtain ⟨c0, c1, cl⟩ := TW.out X' (bnext B1'.out hX)
              try simp at hd
              go_simp
              try rfl
            · exact (f6.out X' hX).mono fun e X2 ⟨he, hb⟩ => ⟨_, he, hb, rfl⟩
            apply walkK_norm
            · first | (simp only [List.nil_append, List.cons_append]; rfl) | simp only [List.nil_append, List.cons_append]
            refine walkK_is (.bool false) (by first | exact gs0 rfl | exact gs1 rfl rfl rfl) (fun _ => Below.refl _ _) (fun u X' hX hd => ?_) ?_
            · obtain ⟨c0, c1, cl⟩ := TW.out X' (bnext B1'.out hX)
              try simp at hd
              go_simp
              try rfl
            apply walkK_norm
            · first | (simp only [List.nil_append, List.cons_append]; rfl) | simp only [List.nil_append, List.cons_append]
            refine walkK_is (.bool false) (by first | exact gs0 rfl | exact gs1 rfl rfl rfl) (fun _ => Below.refl _ _) (fun u X' hX hd => ?_) ?_
            · obtain ⟨c0, c1, cl⟩ := TW.out X' (bnext B1'.out hX)
              try simp at hd
              go_simp
              try rfl
            apply walkK_norm
            · first | (simp only [List.nil_append, List.cons_append]; rfl) | simp only [List.nil_append, List.cons_append]
            refine walkK_is (.bool false) (by first | exact gs0 rfl | exact gs1 rfl rfl rfl) (fun _ => Below.refl _ _) (fun u X' hX hd => ?_) ?_
            · obtain ⟨c0, c1, cl⟩ := TW.out X' (bnext B1'.out hX)
              try simp at hd
              go_simp
              try rfl
            apply walkK_norm
            · first | (simp only [List.nil_append, List.cons_append]; rfl) | simp only [List.nil_append, List.cons_append]
            refine walkK_is ?_ (by first | exact gs0 rfl | exact gs1 rfl rfl rfl) (fun _ => Below.refl _ _) (fun u X' hX hd => ?_) ?_
            rotate_left
            · obtain ⟨c0, c1, cl⟩ := TW.out X' (bnext B1'.out hX)
              try simp at hd
              go_simp
              try rfl
            apply walkK_norm
            · first | (simp only [List.nil_append, List.cons_append]; rfl) | simp only [List.nil_append, List.cons_append]
            refine walkK_is ?_ (by first | exact gs0 rfl | exact gs1 rfl rfl rfl) (fun _ => Below.refl _ _) (fun u X' hX hd => ?_) ?_
            rotate_left
            · obtain ⟨c0, c1, cl⟩ := TW.out X' (bnext B1'.out hX)
              try simp at hd
              go_simp
              try rfl
            apply walkK_norm
            · first | (simp only [List.nil_append, List.cons_append]; rfl) | simp only [List.nil_append, List.cons_append]
            refine walkK_call (numsV wl) 22 ?_ (by first | exact gs0 rfl | exact gs1 rfl rfl rfl) (fun v x y hb h => numsV_keep v x y hb h) (fun u X' hX hd => ?_) (fun X' hX => ?_) ?_
            rotate_left
            · obtain ⟨c0, c1, cl⟩ := TW.out X' (bnext B1'.out hX)
              try simp at hd
              go_simp
              try rfl
            · exact f7.out X' hX
            apply walkK_norm
            · first | (simp only [List.nil_append, List.cons_append]; rfl) | simp only [List.nil_append, List.cons_append]
            refine walkK_is ?_ (by first | exact gs0 rfl | exact gs1 rfl rfl rfl) (fun _ => Below.refl _ _) (fun u X' hX hd => ?_) ?_
            rotate_left
            · obtain ⟨c0, c1, cl⟩ := TW.out X' (bnext B1'.out hX)
              try simp at hd
              go_simp
              try rfl
            apply walkK_norm
            · first | (simp only [List.nil_append, List.cons_append]; rfl) | simp only [List.nil_append, List.cons_append]
            refine walkK_is ?_ (by first | exact gs0 rfl | exact gs1 rfl rfl rfl) (fun _ => Below.refl _ _) (fun u X' hX hd => ?_) ?_
            rotate_left
            · obtain ⟨c0, c1, cl⟩ := TW.out X' (bnext B1'.out hX)
              try simp at hd
              go_simp
              try rfl
            refine walkK_end ?_
            intro u X' hX hsay
            have v33 : u 33 = .bool false := sayAll_at hsay (j := 33) (φ := isV (.bool false)) rfl
            have v37 : u 37 = .slice Y n ky := sayAll_at hsay (j := 37) (φ := isV (.slice Y n ky)) rfl
            have v38 : u 38 = .slice V 6 kv := sayAll_at hsay (j := 38) (φ := isV (.slice V 6 kv)) rfl
            have v36 : numsV wl (u 36) X' := sayAll_at hsay (j := 36) (φ := numsV wl) rfl
            clear hsay
            simp only [putAll, Act.put, v33, v37, v38, List.setIfInBounds_toArray, List.set_cons_succ, List.set_cons_zero, Nat.zero_add, Nat.reduceAdd]
            generalize u 36 = u36 at *
            obtain ⟨R1, r1, rfl, hI⟩ := v36
            have I1 := Lib.hid hI
            have BX := Lib.hid hX
            have BXW := Lib.hid (bnext B1'.out hX)
            clear v33 v37 v38 hI hX
            rcases hKK with rfl | ⟨K, hK, rfl⟩
            · go_wp2_with (first
              | (go_at_call 23; go_must ((with_reducible refine (f8.out _ BX.out).mono ?_); rintro e w8 ⟨R2, r2, rfl, hR2, hb⟩; have B8 := Lib.hid (bnext BX.out hb); have hsi := Lib.hid (same_ints wl wl.length rfl R1 r1 R2 r2 w8 (I1.out.below hb) hR2 (by omega)); clear hb hR2))
              | (go_at_call 21; go_must ((with_reducible refine hsi.out.mono ?_); rintro e w9 ⟨rfl, hb⟩; have B9 := Lib.hid (bnext B8.out hb); obtain ⟨c0, c1, cl⟩ := TW.out w9 (bnext B1'.out B9.out); clear hb))
              | (go_at_call 15; go_must ((with_reducible refine (f1.out _ B9.out).mono ?_); rintro e wa ⟨rfl, hb⟩; have Ba := Lib.hid (bnext B9.out hb); clear hb c0 c1 cl))
              | (go_at_call 7; go_must ((with_reducible refine (aw.out _).mono ?_); rintro e wb ⟨rfl, hb⟩; have Bb := Lib.hid (bnext Ba.out hb); clear hb)))
              go_ret
              exact ⟨rfl, B0.out.trans ((bnext B1'.out Bb.out).mono B0.out.size)⟩
            · have dK : ¬ (K : Int) < 0 := by omega
              have dK' : decide ((K : Int) < 0) = false := decide_eq_false dK
              have hwo1 := Lib.hid (fun W (hW : Below wr.heap.size wr W) => (pwithout_is LN lx X n kx W K (HX.out.below hW) hK (by omega)).mono fun _ _ h => h.is)
              have hwo2 := Lib.hid (fun W (hW : Below wr.heap.size wr W) => rwithout_is LN ly Y n ky W K (HY.out.below hW) hK (by omega))
              go_wp2_with (first
              | (go_at_call 23; go_must ((with_reducible refine (f8.out _ BX.out).mono ?_); rintro e w8 ⟨R2, r2, rfl, hR2, hb⟩; have B8 := Lib.hid (bnext BX.out hb); have hsi := Lib.hid (same_ints wl wl.length rfl R1 r1 R2 r2 w8 (I1.out.below hb) hR2 (by omega)); clear hb hR2))
              | (go_at_call 21; go_must ((with_reducible refine hsi.out.mono ?_); rintro e w9 ⟨rfl, hb⟩; have B9 := Lib.hid (bnext B8.out hb); obtain ⟨c0, c1, cl⟩ := TW.out w9 (bnext B1'.out B9.out); clear hb))
              | (go_at_call 15; go_must ((with_reducible refine (f1.out _ B9.out).mono ?_); rintro e wa ⟨rfl, hb⟩; have Ba := Lib.hid (bnext B9.out hb); clear hb c0 c1 cl))
              | (go_at_call 7; go_must ((with_reducible refine (aw.out _).mono ?_); rintro e wb ⟨rfl, hb⟩; have Bb := Lib.hid (bnext Ba.out hb); clear hb))
              | (go_at_call 24; go_must ((with_reducible refine (hwo1.out _ Bb.out).mono ?_); rintro e wc' ⟨P1, p1, lp, rfl, hP, hb⟩; have P5 := Lib.hid hP; have Bc := Lib.hid (bnext Bb.out hb); clear hP hb))
              | (go_at_call 25; go_must ((with_reducible refine (hwo2.out _ Bc.out).mono ?_); rintro e wd ⟨Q1, q1, lq, rfl, hQ, hb⟩; have Bd := Lib.hid (bnext Bc.out hb); have hss := Lib.hid (rsame_is _ lp P1 (n - 1) p1 wd lq Q1 q1 (P5.out.below hb) hQ (by omega)); clear hQ hb))
              | (go_at_call 14; go_must ((with_reducible refine hss.out.mono ?_); rintro e we ⟨rfl, hb⟩; have Be := Lib.hid (bnext Bd.out hb); clear hb)))
              go_ret
              exact ⟨rfl, B0.out.trans ((bnext B1'.out Be.out).mono B0.out.size)⟩

theorem poolTells_walk (hz : n ≤ 9223372036854775807) (w : World) (h : Cmds w A c l) (hN : l.length = n) (hws : Ints w wA wc ws) (hwn : ws.length = wn) :
    Calls Try.prog 3 #[.slice A n c, .slice wA wn wc, .agg #[.int .i64 p, .int .i64 q]] w fun e w' => e = .returned (.bool true) ∧ Below w.heap.size w w' := by
  by_cases hr : RightC l
  · by_cases hw : 40 < wn
    · exact poolTells_long l A n c wA wn wc p q w h hN hr hw
    · exact poolTells_main l A n c ws wA wn wc p q w h hN hr hws hwn (by omega)
  · exact poolTells_no l A n c wA wn wc p q hz w h hN hr

end
end Go.Proofs.Ytldljohholgmoaa
