/-
  QueuePlays, walked: true of any who wait and any deeds, in whatever memory.
-/
import Derived.Test.YtbgdadofpjjpdaaQueV
import Derived.Deep.QuietTactic
import Derived.BigQuiet
namespace Go.Proofs.Ytbgdadofpjjpdaa
open Go.RowKit Go.Shelf
attribute [local go_sem] look findAt
attribute [local simp] depsOf isV Region.binds

theorem doQ_length (l : List Wnt) (x : ActQ) : (doQ l x).length ≤ l.length + 1 := by
  unfold doQ
  split
  · rw [askN_length]; exact Nat.le_refl _
  · exact Nat.le_succ_of_le (giveN_length _ _)
theorem playQ_length (l : List Wnt) (a : List ActQ) : ∀ i, (playQ l a i).length ≤ l.length + i
  | 0 => by simp [playQ]
  | i + 1 => by
    have ih := playQ_length l a i
    cases hx : a[i]? with
    | none =>
      have : playQ l a (i + 1) = playQ l a i := by unfold playQ; rw [List.take_add_one, hx]; simp
      rw [this]
      omega
    | some x =>
      rw [playQ_succ l hx]
      have := doQ_length (playQ l a i) x
      omega

section
variable (l : List Wnt) (lA : Option Addr) (ln lc : Nat) (a : List ActQ) (aA : Option Addr) (an ac : Nat)

set_option maxHeartbeats 4000000 in
theorem queuePlays_no (hno : 50 < ln ∨ 100 < an) (w : World) :
    Calls Try.prog 3 #[.slice lA ln lc, .slice aA an ac] w fun e w' => e = .returned (.bool true) ∧ Below w.heap.size w w' := by
  have aw := Lib.hid (fun W => awake14 W)
  by_cases h1 : 50 < ln
  · have d1 : decide ((50 : Int) < (ln : Int)) = true := decide_eq_true (by omega)
    have d2 : decide (50 < ln) = true := decide_eq_true h1
    clear hno
    go_enter Try.func3, Try.ntmps3
    go_wp2_with (go_at_call 7; go_must ((with_reducible refine (aw.out _).mono ?_); rintro e w2 ⟨rfl, hb2⟩; have B2 := Lib.hid hb2))
    go_ret
    exact ⟨rfl, B2.out⟩
  · have h2 : 100 < an := by omega
    have d1 : decide ((50 : Int) < (ln : Int)) = false := decide_eq_false (by omega)
    have d2 : decide (50 < ln) = false := decide_eq_false h1
    have d3 : decide ((100 : Int) < (an : Int)) = true := decide_eq_true (by omega)
    have d4 : decide (100 < an) = true := decide_eq_true h2
    clear hno
    go_enter Try.func3, Try.ntmps3
    go_wp2_with (go_at_call 7; go_must ((with_reducible refine (aw.out _).mono ?_); rintro e w2 ⟨rfl, hb2⟩; have B2 := Lib.hid hb2))
    go_ret
    exact ⟨rfl, B2.out⟩

set_option maxHeartbeats 32000000 in
set_option maxRecDepth 100000 in
theorem queuePlays_main (h50 : ln ≤ 50) (h100 : an ≤ 100) (w : World) (hL : Wnts w lA lc l) (hln : l.length = ln) (hA : Acts14 w aA ac a) (han : a.length = an) :
    Calls Try.prog 3 #[.slice lA ln lc, .slice aA an ac] w fun e w' => e = .returned (.bool true) ∧ Below w.heap.size w w' := by
  have aw := Lib.hid (fun W => awake14 W)
  have d1 : decide ((50 : Int) < (ln : Int)) = false := decide_eq_false (by omega)
  have d2 : decide (50 < ln) = false := decide_eq_false (by omega)
  have d3 : decide ((100 : Int) < (an : Int)) = false := decide_eq_false (by omega)
  have d4 : decide (100 < an) = false := decide_eq_false (by omega)
  have hac : an ≤ ac := by have := hA.2.1; omega
  have HA := Lib.hid hA
  have AN := Lib.hid han
  have LN := Lib.hid hln
  have L0 : Hid (Wnts w lA lc (playQ l a 0) ∧ (playQ l a 0).length = ln) := Lib.hid ⟨hL, hln⟩
  clear hA han hL hln
  go_enter Try.func3, Try.ntmps3
  go_wp2
  go_loopw [4, 5, 6, 7] (fun _ xs ys cc wr => ∃ (i n xc yc : Nat) (xA yA : Option Addr), i ≤ an ∧ n ≤ 1000 ∧ cc = .int .i64 i ∧ xs = .slice xA n xc ∧ ys = .slice yA n yc ∧ Hid (Wnts wr xA xc (playQ l a i) ∧ (playQ l a i).length = n) ∧ Hid (Wnts wr yA yc (playQ l a i) ∧ (playQ l a i).length = n) ∧ Hid (Below w.heap.size w wr)) (fun _ _ _ cc _ => an - (intOf cc).toNat)
  case atStart => exact ⟨0, ln, lc, lc, lA, lA, by omega, by omega, rfl, rfl, rfl, L0, L0, Lib.hid (Below.refl _ _)⟩
  case round =>
    clear L0
    obtain ⟨i, n, xc, yc, xA, yA, hi, hn, rfl, rfl, rfl, HX, HY, HB⟩ := hrel
    by_cases hlt : i < an
    · have t1 : (i : Int) < (an : Int) := by omega
      have t2 : (i : Int) < (ac : Int) := by omega
      obtain ⟨x, hx⟩ := act_at (l := a) (i := i) (by rw [AN.out]; exact hlt)
      obtain ⟨b1, o1, rfl, hb1, x1, x2, x3⟩ := Acts14.at (HA.out.below HB.out) hx
      have hpl := playQ_succ l hx
      have hql := playQ_length l a (i + 1)
      rw [LN.out] at hql
      obtain ⟨ask, ex, s⟩ := x
      simp only at x1 x2 x3
      have hQ : Hid (∀ X, Below wr.heap.size wr X → X.cell? ⟨b1, o1 + i * 3 + 1, none⟩ = some (.bool ex) ∧ X.cell? ⟨b1, o1 + i * 3 + 2, none⟩ = some (.int .i64 s) ∧ b1 < X.heap.size) := Lib.hid (fun X hX => ⟨(hX.cell (p := ⟨b1, _, none⟩) hb1).trans x2, (hX.cell (p := ⟨b1, _, none⟩) hb1).trans x3, Nat.lt_of_lt_of_le hb1 hX.size⟩)
      have QL := Lib.hid hql
      clear hx hql
      cases ask with
      | true =>
        have HP : Hid (playQ l a (i + 1) = grK (keysN (playQ l a (i + 1)))) := Lib.hid (by rw [hpl]; show askN (playQ l a i) s ex = grK (keysN (askN (playQ l a i) s ex)); rw [askN, keys_gr])
        have ha1 : Hid (∀ X, Below wr.heap.size wr X → Calls Try.prog 8 #[.slice xA n xc, .int .i64 s, .bool ex] X (VPost w.heap.size (playQ l a (i + 1)) X)) := Lib.hid (fun X hX => by rw [hpl]; exact ask_V (HX.out.1.below hX) HX.out.2 (Nat.le_trans HB.out.size hX.size) (by omega) s ex)
        have ha2 : Hid (∀ X, Below wr.heap.size wr X → Calls Try.prog 9 #[.slice yA n yc, .int .i64 s, .bool ex] X (VPost w.heap.size (playQ l a (i + 1)) X)) := Lib.hid (fun X hX => by rw [hpl]; exact rask_V (HY.out.1.below hX) HY.out.2 (Nat.le_trans HB.out.size hX.size) (by omega) s ex)
        clear x2 x3 hpl HX HY
        go_wp2
        try simp only [List.append_eq, List.cons_append, List.nil_append]
        refine wp_region_saysK 24 (fun x y => Below x.heap.size x y) (fun _ _ _ h k => bnext h k) wr (below_drew1 wr) (by kernel_rfl) (by kernel_rfl) (by kernel_rfl) (by kernel_rfl) (by rfl) ?_
        simp only [List.take_succ_cons, List.take_zero, List.drop_succ_cons, List.drop_zero]
        refine walkK_is ?_ (by first | exact gs0 rfl | exact gs1 rfl rfl rfl) (fun _ => Below.refl _ _) (fun u X hX hd => ?_) ?_
        rotate_left
        · obtain ⟨q1, q2, q3⟩ := hQ.out X hX
          try simp at hd
          go_simp
          try rfl
        apply walkK_norm
        · first | (simp only [List.nil_append]; rfl) | simp only [List.nil_append]
        refine walkK_is ?_ (by first | exact gs0 rfl | exact gs1 rfl rfl rfl) (fun _ => Below.refl _ _) (fun u X hX hd => ?_) ?_
        rotate_left
        · obtain ⟨q1, q2, q3⟩ := hQ.out X hX
          try simp at hd
          go_simp
          try rfl
        apply walkK_norm
        · first | (simp only [List.nil_append, List.cons_append]; rfl) | simp only [List.nil_append, List.cons_append]
        refine walkK_is ?_ (by first | exact gs0 rfl | exact gs1 rfl rfl rfl) (fun _ => Below.refl _ _) (fun u X hX hd => ?_) ?_
        rotate_left
        · obtain ⟨q1, q2, q3⟩ := hQ.out X hX
          try simp at hd
          go_simp
          try rfl
        apply walkK_norm
        · first | (simp only [List.nil_append, List.cons_append]; rfl) | simp only [List.nil_append, List.cons_append]
        refine walkK_is ?_ (by first | exact gs0 rfl | exact gs1 rfl rfl rfl) (fun _ => Below.refl _ _) (fun u X hX hd => ?_) ?_
        rotate_left
        · obtain ⟨q1, q2, q3⟩ := hQ.out X hX
          try simp at hd
          go_simp
          try rfl
        apply walkK_norm
        · first | (simp only [List.nil_append, List.cons_append]; rfl) | simp only [List.nil_append, List.cons_append]
        refine walkK_is ?_ (by first | exact gs0 rfl | exact gs1 rfl rfl rfl) (fun _ => Below.refl _ _) (fun u X hX hd => ?_) ?_
        rotate_left
        · obtain ⟨q1, q2, q3⟩ := hQ.out X hX
          try simp at hd
          go_simp
          try rfl
        apply walkK_norm
        · first | (simp only [List.nil_append, List.cons_append]; rfl) | simp only [List.nil_append, List.cons_append]
        refine walkK_is ?_ (by first | exact gs0 rfl | exact gs1 rfl rfl rfl) (fun _ => Below.refl _ _) (fun u X hX hd => ?_) ?_
        rotate_left
        · obtain ⟨q1, q2, q3⟩ := hQ.out X hX
          try simp at hd
          go_simp
          try rfl
        apply walkK_norm
        · first | (simp only [List.nil_append, List.cons_append]; rfl) | simp only [List.nil_append, List.cons_append]
        refine walkK_is ?_ (by first | exact gs0 rfl | exact gs1 rfl rfl rfl) (fun _ => Below.refl _ _) (fun u X hX hd => ?_) ?_
        rotate_left
        · obtain ⟨q1, q2, q3⟩ := hQ.out X hX
          try simp at hd
          go_simp
          try rfl
        apply walkK_norm
        · first | (simp only [List.nil_append, List.cons_append]; rfl) | simp only [List.nil_append, List.cons_append]
        refine walkK_is ?_ (by first | exact gs0 rfl | exact gs1 rfl rfl rfl) (fun _ => Below.refl _ _) (fun u X hX hd => ?_) ?_
        rotate_left
        · obtain ⟨q1, q2, q3⟩ := hQ.out X hX
          try simp at hd
          go_simp
          try rfl
        apply walkK_norm
        · first | (simp only [List.nil_append, List.cons_append]; rfl) | simp only [List.nil_append, List.cons_append]
        refine walkK_is ?_ (by first | exact gs0 rfl | exact gs1 rfl rfl rfl) (fun _ => Below.refl _ _) (fun u X hX hd => ?_) ?_
        rotate_left
        · obtain ⟨q1, q2, q3⟩ := hQ.out X hX
          try simp at hd
          go_simp
          try rfl
        apply walkK_norm
        · first | (simp only [List.nil_append, List.cons_append]; rfl) | simp only [List.nil_append, List.cons_append]
        refine walkK_is ?_ (by first | exact gs0 rfl | exact gs1 rfl rfl rfl) (fun _ => Below.refl _ _) (fun u X hX hd => ?_) ?_
        rotate_left
        · obtain ⟨q1, q2, q3⟩ := hQ.out X hX
          try simp at hd
          go_simp
          try rfl
        apply walkK_norm
        · first | (simp only [List.nil_append, List.cons_append]; rfl) | simp only [List.nil_append, List.cons_append]
        refine walkK_is ?_ (by first | exact gs0 rfl | exact gs1 rfl rfl rfl) (fun _ => Below.refl _ _) (fun u X hX hd => ?_) ?_
        rotate_left
        · obtain ⟨q1, q2, q3⟩ := hQ.out X hX
          try simp at hd
          go_simp
          try rfl
        apply walkK_norm
        · first | (simp only [List.nil_append, List.cons_append]; rfl) | simp only [List.nil_append, List.cons_append]
        refine walkK_call (wnsV w.heap.size (playQ l a (i + 1))) 8 ?_ (by first | exact gs0 rfl | exact gs1 rfl rfl rfl) (fun v x y hb h => wnsV_keep v x y hb h) (fun u X hX hd => ?_) (fun X hX => ?_) ?_
        rotate_left
        · obtain ⟨q1, q2, q3⟩ := hQ.out X hX
          try simp at hd
          go_simp
          try rfl
        · exact ha1.out X hX
        apply walkK_norm
        · first | (simp only [List.nil_append, List.cons_append]; rfl) | simp only [List.nil_append, List.cons_append]
        refine walkK_is ?_ (by first | exact gs0 rfl | exact gs1 rfl rfl rfl) (fun _ => Below.refl _ _) (fun u X hX hd => ?_) ?_
        rotate_left
        · obtain ⟨q1, q2, q3⟩ := hQ.out X hX
          try simp at hd
          go_simp
          try rfl
        apply walkK_norm
        · first | (simp only [List.nil_append, List.cons_append]; rfl) | simp only [List.nil_append, List.cons_append]
        refine walkK_is ?_ (by first | exact gs0 rfl | exact gs1 rfl rfl rfl) (fun _ => Below.refl _ _) (fun u X hX hd => ?_) ?_
        rotate_left
        · obtain ⟨q1, q2, q3⟩ := hQ.out X hX
          try simp at hd
          go_simp
          try rfl
        apply walkK_norm
        · first | (simp only [List.nil_append, List.cons_append]; rfl) | simp only [List.nil_append, List.cons_append]
        refine walkK_is ?_ (by first | exact gs0 rfl | exact gs1 rfl rfl rfl) (fun _ => Below.refl _ _) (fun u X hX hd => ?_) ?_
        rotate_left
        · obtain ⟨q1, q2, q3⟩ := hQ.out X hX
          try simp at hd
          go_simp
          try rfl
        apply walkK_norm
        · first | (simp only [List.nil_append, List.cons_append]; rfl) | simp only [List.nil_append, List.cons_append]
        refine walkK_is ?_ (by first | exact gs0 rfl | exact gs1 rfl rfl rfl) (fun _ => Below.refl _ _) (fun u X hX hd => ?_) ?_
        rotate_left
        · obtain ⟨q1, q2, q3⟩ := hQ.out X hX
          try simp at hd
          go_simp
          try rfl
        apply walkK_norm
        · first | (simp only [List.nil_append, List.cons_append]; rfl) | simp only [List.nil_append, List.cons_append]
        refine walkK_is ?_ (by first | exact gs0 rfl | exact gs1 rfl rfl rfl) (fun _ => Below.refl _ _) (fun u X hX hd => ?_) ?_
        rotate_left
        · obtain ⟨q1, q2, q3⟩ := hQ.out X hX
          try simp at hd
          go_simp
          try rfl
        apply walkK_norm
        · first | (simp only [List.nil_append, List.cons_append]; rfl) | simp only [List.nil_append, List.cons_append]
        refine walkK_is ?_ (by first | exact gs0 rfl | exact gs1 rfl rfl rfl) (fun _ => Below.refl _ _) (fun u X hX hd => ?_) ?_
        rotate_left
        · obtain ⟨q1, q2, q3⟩ := hQ.out X hX
          try simp at hd
          go_simp
          try rfl
        apply walkK_norm
        · first | (simp only [List.nil_append, List.cons_append]; rfl) | simp only [List.nil_append, List.cons_append]
        refine walkK_is ?_ (by first | exact gs0 rfl | exact gs1 rfl rfl rfl) (fun _ => Below.refl _ _) (fun u X hX hd => ?_) ?_
        rotate_left
        · obtain ⟨q1, q2, q3⟩ := hQ.out X hX
          try simp at hd
          go_simp
          try rfl
        apply walkK_norm
        · first | (simp only [List.nil_append, List.cons_append]; rfl) | simp only [List.nil_append, List.cons_append]
        refine walkK_is ?_ (by first | exact gs0 rfl | exact gs1 rfl rfl rfl) (fun _ => Below.refl _ _) (fun u X hX hd => ?_) ?_
        rotate_left
        · obtain ⟨q1, q2, q3⟩ := hQ.out X hX
          try simp at hd
          go_simp
          try rfl
        apply walkK_norm
        · first | (simp only [List.nil_append, List.cons_append]; rfl) | simp only [List.nil_append, List.cons_append]
        refine walkK_is ?_ (by first | exact gs0 rfl | exact gs1 rfl rfl rfl) (fun _ => Below.refl _ _) (fun u X hX hd => ?_) ?_
        rotate_left
        · obtain ⟨q1, q2, q3⟩ := hQ.out X hX
          try simp at hd
          go_simp
          try rfl
        apply walkK_norm
        · first | (simp only [List.nil_append, List.cons_append]; rfl) | simp only [List.nil_append, List.cons_append]
        refine walkK_is ?_ (by first | exact gs0 rfl | exact gs1 rfl rfl rfl) (fun _ => Below.refl _ _) (fun u X hX hd => ?_) ?_
        rotate_left
        · obtain ⟨q1, q2, q3⟩ := hQ.out X hX
          try simp at hd
          go_simp
          try rfl
        apply walkK_norm
        · first | (simp only [List.nil_append, List.cons_append]; rfl) | simp only [List.nil_append, List.cons_append]
        refine walkK_is ?_ (by first | exact gs0 rfl | exact gs1 rfl rfl rfl) (fun _ => Below.refl _ _) (fun u X hX hd => ?_) ?_
        rotate_left
        · obtain ⟨q1, q2, q3⟩ := hQ.out X hX
          try simp at hd
          go_simp
          try rfl
        apply walkK_norm
        · first | (simp only [List.nil_append, List.cons_append]; rfl) | simp only [List.nil_append, List.cons_append]
        refine walkK_call (wnsV w.heap.size (playQ l a (i + 1))) 9 ?_ (by first | exact gs0 rfl | exact gs1 rfl rfl rfl) (fun v x y hb h => wnsV_keep v x y hb h) (fun u X hX hd => ?_) (fun X hX => ?_) ?_
        rotate_left
        · obtain ⟨q1, q2, q3⟩ := hQ.out X hX
          try simp at hd
          go_simp
          try rfl
        · exact ha2.out X hX
        apply walkK_norm
        · first | (simp only [List.nil_append, List.cons_append]; rfl) | simp only [List.nil_append, List.cons_append]
        intro u X hX hsay
        simp only [sayAll, isV] at hsay
        obtain ⟨-, -, -, -, -, -, -, -, -, -, -, v1, -, -, -, -, -, -, -, -, -, -, -, v2, -⟩ := hsay
        obtain ⟨zA, n1, zc, v1, hO1⟩ := v1
        obtain ⟨yA', n2, yc', v2, hO2⟩ := v2
        simp only [putAll, Act.put, v1, v2, List.setIfInBounds_toArray, List.set_cons_succ, List.set_cons_zero, Nat.zero_add, Nat.reduceAdd]
        obtain rfl : n1 = n2 := by rw [← hO1.1, hO2.1]
        have hn1 : n1 ≤ 1000 := by have h1 := hO1.1; have h2 := QL.out; omega
        have S1 : Hid (Wnts X zA zc (playQ l a (i + 1)) ∧ (playQ l a (i + 1)).length = n1) := Lib.hid ⟨hO1.sl, hO1.1⟩
        have S2 : Hid (Wnts X yA' yc' (playQ l a (i + 1)) ∧ (playQ l a (i + 1)).length = n1) := Lib.hid ⟨hO2.sl, hO2.1⟩
        have BX := Lib.hid (HB.out.trans (hX.mono HB.out.size))
        have hR : Hid (∀ Y, Below X.heap.size X Y → Y.cell? ⟨b1, o1 + i * 3 + 2, none⟩ = some (.int .i64 s) ∧ b1 < Y.heap.size) := Lib.hid (fun Y hY => (hQ.out Y (bnext hX hY)).2)
        have sm : Hid (∀ Y, Below X.heap.size X Y → Calls Try.prog 12 #[.slice zA n1 zc, .slice yA' n1 yc'] Y fun e w' => e = .returned (.bool true) ∧ Below Y.heap.size Y w') := Lib.hid (fun Y hY => rsameW_yes _ zA zc yA' yc' n1 Y (S1.out.1.below hY) (S2.out.1.below hY) S1.out.2 (by omega))
        have hs1 : Hid (∀ Y, Below X.heap.size X Y → Calls Try.prog 13 #[.slice zA n1 zc, .int .i64 s] Y fun e w' => e = .returned (.bool (hasS (playQ l a (i + 1)) s)) ∧ Below Y.heap.size Y w') := Lib.hid (fun Y hY => by
          have := has_any _ zA n1 zc s Y (S1.out.1.below hY) S1.out.2 (by omega)
          rwa [HP.out, hasO_gr, ← HP.out] at this)
        have hs2 : Hid (∀ Y, Below X.heap.size X Y → Calls Try.prog 14 #[.slice yA' n1 yc', .int .i64 s] Y fun e w' => e = .returned (.bool (hasS (playQ l a (i + 1)) s)) ∧ Below Y.heap.size Y w') := Lib.hid (fun Y hY => rhas_any _ yA' n1 yc' s Y (S2.out.1.below hY) S2.out.2 (by omega))
        clear hO1 hO2 v1 v2 hQ QL hX
        generalize hasS (playQ l a (i + 1)) s = hb at *
        have e1 : (hb != hb) = false := by cases hb <;> rfl
        obtain ⟨wz, hWZ⟩ : ∃ W, W = X := ⟨_, rfl⟩
        rw [← hWZ]
        rw [← hWZ] at S1 S2 BX hR sm hs1 hs2
        go_wp2
        try simp only [List.append_eq, List.cons_append, List.nil_append]
        refine wp_region_saysK 20 (fun x y => Below x.heap.size x y) (fun _ _ _ h k => bnext h k) wz (below_drew1 wz) (by kernel_rfl) (by kernel_rfl) (by kernel_rfl) (by kernel_rfl) (by rfl) ?_
        simp only [List.take_succ_cons, List.take_zero, List.drop_succ_cons, List.drop_zero]
        refine walkK_is ?_ (by first | exact gs0 rfl | exact gs1 rfl rfl rfl) (fun _ => Below.refl _ _) (fun u X hX hd => ?_) ?_
        rotate_left
        · obtain ⟨q1, q2⟩ := hR.out X hX
          try simp at hd
          go_simp
          try rfl
        apply walkK_norm
        · first | (simp only [List.nil_append]; rfl) | simp only [List.nil_append]
        refine walkK_is ?_ (by first | exact gs0 rfl | exact gs1 rfl rfl rfl) (fun _ => Below.refl _ _) (fun u X hX hd => ?_) ?_
        rotate_left
        · obtain ⟨q1, q2⟩ := hR.out X hX
          try simp at hd
          go_simp
          try rfl
        apply walkK_norm
        · first | (simp only [List.nil_append, List.cons_append]; rfl) | simp only [List.nil_append, List.cons_append]
        refine walkK_call (isV (.bool true)) 12 ?_ (by first | exact gs0 rfl | exact gs1 rfl rfl rfl) (fun _ _ _ _ h => h) (fun u X hX hd => ?_) (fun X hX => ?_) ?_
        rotate_left
        · obtain ⟨q1, q2⟩ := hR.out X hX
          try simp at hd
          go_simp
          try rfl
        · exact (sm.out X hX).mono fun e X' ⟨he, hb⟩ => ⟨_, he, hb, rfl⟩
        apply walkK_norm
        · first | (simp only [List.nil_append, List.cons_append]; rfl) | simp only [List.nil_append, List.cons_append]
        refine walkK_is ?_ (by first | exact gs0 rfl | exact gs1 rfl rfl rfl) (fun _ => Below.refl _ _) (fun u X hX hd => ?_) ?_
        rotate_left
        · obtain ⟨q1, q2⟩ := hR.out X hX
          try simp at hd
          go_simp
          try rfl
        apply walkK_norm
        · first | (simp only [List.nil_append, List.cons_append]; rfl) | simp only [List.nil_append, List.cons_append]
        refine walkK_is ?_ (by first | exact gs0 rfl | exact gs1 rfl rfl rfl) (fun _ => Below.refl _ _) (fun u X hX hd => ?_) ?_
        rotate_left
        · obtain ⟨q1, q2⟩ := hR.out X hX
          try simp at hd
          go_simp
          try rfl
        apply walkK_norm
        · first | (simp only [List.nil_append, List.cons_append]; rfl) | simp only [List.nil_append, List.cons_append]
        refine walkK_is ?_ (by first | exact gs0 rfl | exact gs1 rfl rfl rfl) (fun _ => Below.refl _ _) (fun u X hX hd => ?_) ?_
        rotate_left
        · obtain ⟨q1, q2⟩ := hR.out X hX
          try simp at hd
          go_simp
          try rfl
        apply walkK_norm
        · first | (simp only [List.nil_append, List.cons_append]; rfl) | simp only [List.nil_append, List.cons_append]
        refine walkK_is ?_ (by first | exact gs0 rfl | exact gs1 rfl rfl rfl) (fun _ => Below.refl _ _) (fun u X hX hd => ?_) ?_
        rotate_left
        · obtain ⟨q1, q2⟩ := hR.out X hX
          try simp at hd
          go_simp
          try rfl
        apply walkK_norm
        · first | (simp only [List.nil_append, List.cons_append]; rfl) | simp only [List.nil_append, List.cons_append]
        refine walkK_is ?_ (by first | exact gs0 rfl | exact gs1 rfl rfl rfl) (fun _ => Below.refl _ _) (fun u X hX hd => ?_) ?_
        rotate_left
        · obtain ⟨q1, q2⟩ := hR.out X hX
          try simp at hd
          go_simp
          try rfl
        apply walkK_norm
        · first | (simp only [List.nil_append, List.cons_append]; rfl) | simp only [List.nil_append, List.cons_append]
        refine walkK_is ?_ (by first | exact gs0 rfl | exact gs1 rfl rfl rfl) (fun _ => Below.refl _ _) (fun u X hX hd => ?_) ?_
        rotate_left
        · obtain ⟨q1, q2⟩ := hR.out X hX
          try simp at hd
          go_simp
          try rfl
        apply walkK_norm
        · first | (simp only [List.nil_append, List.cons_append]; rfl) | simp only [List.nil_append, List.cons_append]
        refine walkK_is ?_ (by first | exact gs0 rfl | exact gs1 rfl rfl rfl) (fun _ => Below.refl _ _) (fun u X hX hd => ?_) ?_
        rotate_left
        · obtain ⟨q1, q2⟩ := hR.out X hX
          try simp at hd
          go_simp
          try rfl
        apply walkK_norm
        · first | (simp only [List.nil_append, List.cons_append]; rfl) | simp only [List.nil_append, List.cons_append]
        refine walkK_is ?_ (by first | exact gs0 rfl | exact gs1 rfl rfl rfl) (fun _ => Below.refl _ _) (fun u X hX hd => ?_) ?_
        rotate_left
        · obtain ⟨q1, q2⟩ := hR.out X hX
          try simp at hd
          go_simp
          try rfl
        apply walkK_norm
        · first | (simp only [List.nil_append, List.cons_append]; rfl) | simp only [List.nil_append, List.cons_append]
        refine walkK_call (isV (.bool hb)) 13 ?_ (by first | exact gs0 rfl | exact gs1 rfl rfl rfl) (fun _ _ _ _ h => h) (fun u X hX hd => ?_) (fun X hX => ?_) ?_
        rotate_left
        · obtain ⟨q1, q2⟩ := hR.out X hX
          try simp at hd
          go_simp
          try rfl
        · exact (hs1.out X hX).mono fun e X' ⟨he, hb⟩ => ⟨_, he, hb, rfl⟩
        apply walkK_norm
        · first | (simp only [List.nil_append, List.cons_append]; rfl) | simp only [List.nil_append, List.cons_append]
        refine walkK_is ?_ (by first | exact gs0 rfl | exact gs1 rfl rfl rfl) (fun _ => Below.refl _ _) (fun u X hX hd => ?_) ?_
        rotate_left
        · obtain ⟨q1, q2⟩ := hR.out X hX
          try simp at hd
          go_simp
          try rfl
        apply walkK_norm
        · first | (simp only [List.nil_append, List.cons_append]; rfl) | simp only [List.nil_append, List.cons_append]
        refine walkK_is ?_ (by first | exact gs0 rfl | exact gs1 rfl rfl rfl) (fun _ => Below.refl _ _) (fun u X hX hd => ?_) ?_
        rotate_left
        · obtain ⟨q1, q2⟩ := hR.out X hX
          try simp at hd
          go_simp
          try rfl
        apply walkK_norm
        · first | (simp only [List.nil_append, List.cons_append]; rfl) | simp only [List.nil_append, List.cons_append]
        refine walkK_is ?_ (by first | exact gs0 rfl | exact gs1 rfl rfl rfl) (fun _ => Below.refl _ _) (fun u X hX hd => ?_) ?_
        rotate_left
        · obtain ⟨q1, q2⟩ := hR.out X hX
          try simp at hd
          go_simp
          try rfl
        apply walkK_norm
        · first | (simp only [List.nil_append, List.cons_append]; rfl) | simp only [List.nil_append, List.cons_append]
        refine walkK_is ?_ (by first | exact gs0 rfl | exact gs1 rfl rfl rfl) (fun _ => Below.refl _ _) (fun u X hX hd => ?_) ?_
        rotate_left
        · obtain ⟨q1, q2⟩ := hR.out X hX
          try simp at hd
          go_simp
          try rfl
        apply walkK_norm
        · first | (simp only [List.nil_append, List.cons_append]; rfl) | simp only [List.nil_append, List.cons_append]
        refine walkK_is ?_ (by first | exact gs0 rfl | exact gs1 rfl rfl rfl) (fun _ => Below.refl _ _) (fun u X hX hd => ?_) ?_
        rotate_left
        · obtain ⟨q1, q2⟩ := hR.out X hX
          try simp at hd
          go_simp
          try rfl
        apply walkK_norm
        · first | (simp only [List.nil_append, List.cons_append]; rfl) | simp only [List.nil_append, List.cons_append]
        refine walkK_is ?_ (by first | exact gs0 rfl | exact gs1 rfl rfl rfl) (fun _ => Below.refl _ _) (fun u X hX hd => ?_) ?_
        rotate_left
        · obtain ⟨q1, q2⟩ := hR.out X hX
          try simp at hd
          go_simp
          try rfl
        apply walkK_norm
        · first | (simp only [List.nil_append, List.cons_append]; rfl) | simp only [List.nil_append, List.cons_append]
        refine walkK_call (isV (.bool hb)) 14 ?_ (by first | exact gs0 rfl | exact gs1 rfl rfl rfl) (fun _ _ _ _ h => h) (fun u X hX hd => ?_) (fun X hX => ?_) ?_
        rotate_left
        · obtain ⟨q1, q2⟩ := hR.out X hX
          try simp at hd
          go_simp
          try rfl
        · exact (hs2.out X hX).mono fun e X' ⟨he, hb⟩ => ⟨_, he, hb, rfl⟩
        apply walkK_norm
        · first | (simp only [List.nil_append, List.cons_append]; rfl) | simp only [List.nil_append, List.cons_append]
        refine walkK_is (.bool false) (by first | exact gs0 rfl | exact gs1 rfl rfl rfl) (fun _ => Below.refl _ _) (fun u X hX hd => ?_) ?_
        · obtain ⟨q1, q2⟩ := hR.out X hX
          try simp at hd
          go_simp
          try rfl
        apply walkK_norm
        · first | (simp only [List.nil_append, List.cons_append]; rfl) | simp only [List.nil_append, List.cons_append]
        intro u X hX hsay
        simp only [sayAll, isV] at hsay
        obtain ⟨-, -, -, -, v4, -, -, -, -, -, -, -, -, -, -, -, -, -, -, v19, -⟩ := hsay
        simp only [putAll, Act.put, v4, v19, List.setIfInBounds_toArray, List.set_cons_succ, List.set_cons_zero, Nat.zero_add, Nat.reduceAdd]
        have T1 : Hid (Wnts X zA zc (playQ l a (i + 1)) ∧ (playQ l a (i + 1)).length = n1) := Lib.hid ⟨S1.out.1.below hX, S1.out.2⟩
        have T2 : Hid (Wnts X yA' yc' (playQ l a (i + 1)) ∧ (playQ l a (i + 1)).length = n1) := Lib.hid ⟨S2.out.1.below hX, S2.out.2⟩
        have BY := Lib.hid (BX.out.trans (hX.mono BX.out.size))
        clear v4 v19 hX hWZ
        go_wp2
        go_roundw
        case rel => exact ⟨i + 1, n1, zc, yc', zA, yA', by omega, hn1, by go_num, rfl, rfl, T1, T2, BY⟩
        case measure => simp [intOf]; omega
      | false =>
        have HP : Hid (playQ l a (i + 1) = grK (keysN (playQ l a (i + 1)))) := Lib.hid (by rw [hpl]; show giveN (playQ l a i) s = grK (keysN (giveN (playQ l a i) s)); rw [giveN, keys_gr])
        have ha1 : Hid (∀ X, Below wr.heap.size wr X → Calls Try.prog 10 #[.slice xA n xc, .int .i64 s] X (VPost w.heap.size (playQ l a (i + 1)) X)) := Lib.hid (fun X hX => by rw [hpl]; exact give_V (HX.out.1.below hX) HX.out.2 (Nat.le_trans HB.out.size hX.size) (by omega) s)
        have ha2 : Hid (∀ X, Below wr.heap.size wr X → Calls Try.prog 11 #[.slice yA n yc, .int .i64 s] X (VPost w.heap.size (playQ l a (i + 1)) X)) := Lib.hid (fun X hX => by rw [hpl]; exact rgive_V (HY.out.1.below hX) HY.out.2 (Nat.le_trans HB.out.size hX.size) (by omega) s)
        clear x2 x3 hpl HX HY
        go_wp2
        try simp only [List.append_eq, List.cons_append, List.nil_append]
        refine wp_region_saysK 14 (fun x y => Below x.heap.size x y) (fun _ _ _ h k => bnext h k) wr (below_drew1 wr) (by kernel_rfl) (by kernel_rfl) (by kernel_rfl) (by kernel_rfl) (by rfl) ?_
        simp only [List.take_succ_cons, List.take_zero, List.drop_succ_cons, List.drop_zero]
        refine walkK_is ?_ (by first | exact gs0 rfl | exact gs1 rfl rfl rfl) (fun _ => Below.refl _ _) (fun u X hX hd => ?_) ?_
        rotate_left
        · obtain ⟨q1, q2, q3⟩ := hQ.out X hX
          try simp at hd
          go_simp
          try rfl
        apply walkK_norm
        · first | (simp only [List.nil_append]; rfl) | simp only [List.nil_append]
        refine walkK_is ?_ (by first | exact gs0 rfl | exact gs1 rfl rfl rfl) (fun _ => Below.refl _ _) (fun u X hX hd => ?_) ?_
        rotate_left
        · obtain ⟨q1, q2, q3⟩ := hQ.out X hX
          try simp at hd
          go_simp
          try rfl
        apply walkK_norm
        · first | (simp only [List.nil_append, List.cons_append]; rfl) | simp only [List.nil_append, List.cons_append]
        refine walkK_is ?_ (by first | exact gs0 rfl | exact gs1 rfl rfl rfl) (fun _ => Below.refl _ _) (fun u X hX hd => ?_) ?_
        rotate_left
        · obtain ⟨q1, q2, q3⟩ := hQ.out X hX
          try simp at hd
          go_simp
          try rfl
        apply walkK_norm
        · first | (simp only [List.nil_append, List.cons_append]; rfl) | simp only [List.nil_append, List.cons_append]
        refine walkK_is ?_ (by first | exact gs0 rfl | exact gs1 rfl rfl rfl) (fun _ => Below.refl _ _) (fun u X hX hd => ?_) ?_
        rotate_left
        · obtain ⟨q1, q2, q3⟩ := hQ.out X hX
          try simp at hd
          go_simp
          try rfl
        apply walkK_norm
        · first | (simp only [List.nil_append, List.cons_append]; rfl) | simp only [List.nil_append, List.cons_append]
        refine walkK_is ?_ (by first | exact gs0 rfl | exact gs1 rfl rfl rfl) (fun _ => Below.refl _ _) (fun u X hX hd => ?_) ?_
        rotate_left
        · obtain ⟨q1, q2, q3⟩ := hQ.out X hX
          try simp at hd
          go_simp
          try rfl
        apply walkK_norm
        · first | (simp only [List.nil_append, List.cons_append]; rfl) | simp only [List.nil_append, List.cons_append]
        refine walkK_is ?_ (by first | exact gs0 rfl | exact gs1 rfl rfl rfl) (fun _ => Below.refl _ _) (fun u X hX hd => ?_) ?_
        rotate_left
        · obtain ⟨q1, q2, q3⟩ := hQ.out X hX
          try simp at hd
          go_simp
          try rfl
        apply walkK_norm
        · first | (simp only [List.nil_append, List.cons_append]; rfl) | simp only [List.nil_append, List.cons_append]
        refine walkK_call (wnsV w.heap.size (playQ l a (i + 1))) 10 ?_ (by first | exact gs0 rfl | exact gs1 rfl rfl rfl) (fun v x y hb h => wnsV_keep v x y hb h) (fun u X hX hd => ?_) (fun X hX => ?_) ?_
        rotate_left
        · obtain ⟨q1, q2, q3⟩ := hQ.out X hX
          try simp at hd
          go_simp
          try rfl
        · exact ha1.out X hX
        apply walkK_norm
        · first | (simp only [List.nil_append, List.cons_append]; rfl) | simp only [List.nil_append, List.cons_append]
        refine walkK_is ?_ (by first | exact gs0 rfl | exact gs1 rfl rfl rfl) (fun _ => Below.refl _ _) (fun u X hX hd => ?_) ?_
        rotate_left
        · obtain ⟨q1, q2, q3⟩ := hQ.out X hX
          try simp at hd
          go_simp
          try rfl
        apply walkK_norm
        · first | (simp only [List.nil_append, List.cons_append]; rfl) | simp only [List.nil_append, List.cons_append]
        refine walkK_is ?_ (by first | exact gs0 rfl | exact gs1 rfl rfl rfl) (fun _ => Below.refl _ _) (fun u X hX hd => ?_) ?_
        rotate_left
        · obtain ⟨q1, q2, q3⟩ := hQ.out X hX
          try simp at hd
          go_simp
          try rfl
        apply walkK_norm
        · first | (simp only [List.nil_append, List.cons_append]; rfl) | simp only [List.nil_append, List.cons_append]
        refine walkK_is ?_ (by first | exact gs0 rfl | exact gs1 rfl rfl rfl) (fun _ => Below.refl _ _) (fun u X hX hd => ?_) ?_
        rotate_left
        · obtain ⟨q1, q2, q3⟩ := hQ.out X hX
          try simp at hd
          go_simp
          try rfl
        apply walkK_norm
        · first | (simp only [List.nil_append, List.cons_append]; rfl) | simp only [List.nil_append, List.cons_append]
        refine walkK_is ?_ (by first | exact gs0 rfl | exact gs1 rfl rfl rfl) (fun _ => Below.refl _ _) (fun u X hX hd => ?_) ?_
        rotate_left
        · obtain ⟨q1, q2, q3⟩ := hQ.out X hX
          try simp at hd
          go_simp
          try rfl
        apply walkK_norm
        · first | (simp only [List.nil_append, List.cons_append]; rfl) | simp only [List.nil_append, List.cons_append]
        refine walkK_is ?_ (by first | exact gs0 rfl | exact gs1 rfl rfl rfl) (fun _ => Below.refl _ _) (fun u X hX hd => ?_) ?_
        rotate_left
        · obtain ⟨q1, q2, q3⟩ := hQ.out X hX
          try simp at hd
          go_simp
          try rfl
        apply walkK_norm
        · first | (simp only [List.nil_append, List.cons_append]; rfl) | simp only [List.nil_append, List.cons_append]
        refine walkK_is ?_ (by first | exact gs0 rfl | exact gs1 rfl rfl rfl) (fun _ => Below.refl _ _) (fun u X hX hd => ?_) ?_
        rotate_left
        · obtain ⟨q1, q2, q3⟩ := hQ.out X hX
          try simp at hd
          go_simp
          try rfl
        apply walkK_norm
        · first | (simp only [List.nil_append, List.cons_append]; rfl) | simp only [List.nil_append, List.cons_append]
        refine walkK_call (wnsV w.heap.size (playQ l a (i + 1))) 11 ?_ (by first | exact gs0 rfl | exact gs1 rfl rfl rfl) (fun v x y hb h => wnsV_keep v x y hb h) (fun u X hX hd => ?_) (fun X hX => ?_) ?_
        rotate_left
        · obtain ⟨q1, q2, q3⟩ := hQ.out X hX
          try simp at hd
          go_simp
          try rfl
        · exact ha2.out X hX
        apply walkK_norm
        · first | (simp only [List.nil_append, List.cons_append]; rfl) | simp only [List.nil_append, List.cons_append]
        intro u X hX hsay
        simp only [sayAll, isV] at hsay
        obtain ⟨-, -, -, -, -, -, v1, -, -, -, -, -, -, v2, -⟩ := hsay
        obtain ⟨zA, n1, zc, v1, hO1⟩ := v1
        obtain ⟨yA', n2, yc', v2, hO2⟩ := v2
        simp only [putAll, Act.put, v1, v2, List.setIfInBounds_toArray, List.set_cons_succ, List.set_cons_zero, Nat.zero_add, Nat.reduceAdd]
        obtain rfl : n1 = n2 := by rw [← hO1.1, hO2.1]
        have hn1 : n1 ≤ 1000 := by have h1 := hO1.1; have h2 := QL.out; omega
        have S1 : Hid (Wnts X zA zc (playQ l a (i + 1)) ∧ (playQ l a (i + 1)).length = n1) := Lib.hid ⟨hO1.sl, hO1.1⟩
        have S2 : Hid (Wnts X yA' yc' (playQ l a (i + 1)) ∧ (playQ l a (i + 1)).length = n1) := Lib.hid ⟨hO2.sl, hO2.1⟩
        have BX := Lib.hid (HB.out.trans (hX.mono HB.out.size))
        have hR : Hid (∀ Y, Below X.heap.size X Y → Y.cell? ⟨b1, o1 + i * 3 + 2, none⟩ = some (.int .i64 s) ∧ b1 < Y.heap.size) := Lib.hid (fun Y hY => (hQ.out Y (bnext hX hY)).2)
        have sm : Hid (∀ Y, Below X.heap.size X Y → Calls Try.prog 12 #[.slice zA n1 zc, .slice yA' n1 yc'] Y fun e w' => e = .returned (.bool true) ∧ Below Y.heap.size Y w') := Lib.hid (fun Y hY => rsameW_yes _ zA zc yA' yc' n1 Y (S1.out.1.below hY) (S2.out.1.below hY) S1.out.2 (by omega))
        have hs1 : Hid (∀ Y, Below X.heap.size X Y → Calls Try.prog 13 #[.slice zA n1 zc, .int .i64 s] Y fun e w' => e = .returned (.bool (hasS (playQ l a (i + 1)) s)) ∧ Below Y.heap.size Y w') := Lib.hid (fun Y hY => by
          have := has_any _ zA n1 zc s Y (S1.out.1.below hY) S1.out.2 (by omega)
          rwa [HP.out, hasO_gr, ← HP.out] at this)
        have hs2 : Hid (∀ Y, Below X.heap.size X Y → Calls Try.prog 14 #[.slice yA' n1 yc', .int .i64 s] Y fun e w' => e = .returned (.bool (hasS (playQ l a (i + 1)) s)) ∧ Below Y.heap.size Y w') := Lib.hid (fun Y hY => rhas_any _ yA' n1 yc' s Y (S2.out.1.below hY) S2.out.2 (by omega))
        clear hO1 hO2 v1 v2 hQ QL hX
        generalize hasS (playQ l a (i + 1)) s = hb at *
        have e1 : (hb != hb) = false := by cases hb <;> rfl
        obtain ⟨wz, hWZ⟩ : ∃ W, W = X := ⟨_, rfl⟩
        rw [← hWZ]
        rw [← hWZ] at S1 S2 BX hR sm hs1 hs2
        go_wp2
        try simp only [List.append_eq, List.cons_append, List.nil_append]
        refine wp_region_saysK 20 (fun x y => Below x.heap.size x y) (fun _ _ _ h k => bnext h k) wz (below_drew1 wz) (by kernel_rfl) (by kernel_rfl) (by kernel_rfl) (by kernel_rfl) (by rfl) ?_
        simp only [List.take_succ_cons, List.take_zero, List.drop_succ_cons, List.drop_zero]
        refine walkK_is ?_ (by first | exact gs0 rfl | exact gs1 rfl rfl rfl) (fun _ => Below.refl _ _) (fun u X hX hd => ?_) ?_
        rotate_left
        · obtain ⟨q1, q2⟩ := hR.out X hX
          try simp at hd
          go_simp
          try rfl
        apply walkK_norm
        · first | (simp only [List.nil_append]; rfl) | simp only [List.nil_append]
        refine walkK_is ?_ (by first | exact gs0 rfl | exact gs1 rfl rfl rfl) (fun _ => Below.refl _ _) (fun u X hX hd => ?_) ?_
        rotate_left
        · obtain ⟨q1, q2⟩ := hR.out X hX
          try simp at hd
          go_simp
          try rfl
        apply walkK_norm
        · first | (simp only [List.nil_append, List.cons_append]; rfl) | simp only [List.nil_append, List.cons_append]
        refine walkK_call (isV (.bool true)) 12 ?_ (by first | exact gs0 rfl | exact gs1 rfl rfl rfl) (fun _ _ _ _ h => h) (fun u X hX hd => ?_) (fun X hX => ?_) ?_
        rotate_left
        · obtain ⟨q1, q2⟩ := hR.out X hX
          try simp at hd
          go_simp
          try rfl
        · exact (sm.out X hX).mono fun e X' ⟨he, hb⟩ => ⟨_, he, hb, rfl⟩
        apply walkK_norm
        · first | (simp only [List.nil_append, List.cons_append]; rfl) | simp only [List.nil_append, List.cons_append]
        refine walkK_is ?_ (by first | exact gs0 rfl | exact gs1 rfl rfl rfl) (fun _ => Below.refl _ _) (fun u X hX hd => ?_) ?_
        rotate_left
        · obtain ⟨q1, q2⟩ := hR.out X hX
          try simp at hd
          go_simp
          try rfl
        apply walkK_norm
        · first | (simp only [List.nil_append, List.cons_append]; rfl) | simp only [List.nil_append, List.cons_append]
        refine walkK_is ?_ (by first | exact gs0 rfl | exact gs1 rfl rfl rfl) (fun _ => Below.refl _ _) (fun u X hX hd => ?_) ?_
        rotate_left
        · obtain ⟨q1, q2⟩ := hR.out X hX
          try simp at hd
          go_simp
          try rfl
        apply walkK_norm
        · first | (simp only [List.nil_append, List.cons_append]; rfl) | simp only [List.nil_append, List.cons_append]
        refine walkK_is ?_ (by first | exact gs0 rfl | exact gs1 rfl rfl rfl) (fun _ => Below.refl _ _) (fun u X hX hd => ?_) ?_
        rotate_left
        · obtain ⟨q1, q2⟩ := hR.out X hX
          try simp at hd
          go_simp
          try rfl
        apply walkK_norm
        · first | (simp only [List.nil_append, List.cons_append]; rfl) | simp only [List.nil_append, List.cons_append]
        refine walkK_is ?_ (by first | exact gs0 rfl | exact gs1 rfl rfl rfl) (fun _ => Below.refl _ _) (fun u X hX hd => ?_) ?_
        rotate_left
        · obtain ⟨q1, q2⟩ := hR.out X hX
          try simp at hd
          go_simp
          try rfl
        apply walkK_norm
        · first | (simp only [List.nil_append, List.cons_append]; rfl) | simp only [List.nil_append, List.cons_append]
        refine walkK_is ?_ (by first | exact gs0 rfl | exact gs1 rfl rfl rfl) (fun _ => Below.refl _ _) (fun u X hX hd => ?_) ?_
        rotate_left
        · obtain ⟨q1, q2⟩ := hR.out X hX
          try simp at hd
          go_simp
          try rfl
        apply walkK_norm
        · first | (simp only [List.nil_append, List.cons_append]; rfl) | simp only [List.nil_append, List.cons_append]
        refine walkK_is ?_ (by first | exact gs0 rfl | exact gs1 rfl rfl rfl) (fun _ => Below.refl _ _) (fun u X hX hd => ?_) ?_
        rotate_left
        · obtain ⟨q1, q2⟩ := hR.out X hX
          try simp at hd
          go_simp
          try rfl
        apply walkK_norm
        · first | (simp only [List.nil_append, List.cons_append]; rfl) | simp only [List.nil_append, List.cons_append]
        refine walkK_is ?_ (by first | exact gs0 rfl | exact gs1 rfl rfl rfl) (fun _ => Below.refl _ _) (fun u X hX hd => ?_) ?_
        rotate_left
        · obtain ⟨q1, q2⟩ := hR.out X hX
          try simp at hd
          go_simp
          try rfl
        apply walkK_norm
        · first | (simp only [List.nil_append, List.cons_append]; rfl) | simp only [List.nil_append, List.cons_append]
        refine walkK_is ?_ (by first | exact gs0 rfl | exact gs1 rfl rfl rfl) (fun _ => Below.refl _ _) (fun u X hX hd => ?_) ?_
        rotate_left
        · obtain ⟨q1, q2⟩ := hR.out X hX
          try simp at hd
          go_simp
          try rfl
        apply walkK_norm
        · first | (simp only [List.nil_append, List.cons_append]; rfl) | simp only [List.nil_append, List.cons_append]
        refine walkK_call (isV (.bool hb)) 13 ?_ (by first | exact gs0 rfl | exact gs1 rfl rfl rfl) (fun _ _ _ _ h => h) (fun u X hX hd => ?_) (fun X hX => ?_) ?_
        rotate_left
        · obtain ⟨q1, q2⟩ := hR.out X hX
          try simp at hd
          go_simp
          try rfl
        · exact (hs1.out X hX).mono fun e X' ⟨he, hb⟩ => ⟨_, he, hb, rfl⟩
        apply walkK_norm
        · first | (simp only [List.nil_append, List.cons_append]; rfl) | simp only [List.nil_append, List.cons_append]
        refine walkK_is ?_ (by first | exact gs0 rfl | exact gs1 rfl rfl rfl) (fun _ => Below.refl _ _) (fun u X hX hd => ?_) ?_
        rotate_left
        · obtain ⟨q1, q2⟩ := hR.out X hX
          try simp at hd
          go_simp
          try rfl
        apply walkK_norm
        · first | (simp only [List.nil_append, List.cons_append]; rfl) | simp only [List.nil_append, List.cons_append]
        refine walkK_is ?_ (by first | exact gs0 rfl | exact gs1 rfl rfl rfl) (fun _ => Below.refl _ _) (fun u X hX hd => ?_) ?_
        rotate_left
        · obtain ⟨q1, q2⟩ := hR.out X hX
          try simp at hd
          go_simp
          try rfl
        apply walkK_norm
        · first | (simp only [List.nil_append, List.cons_append]; rfl) | simp only [List.nil_append, List.cons_append]
        refine walkK_is ?_ (by first | exact gs0 rfl | exact gs1 rfl rfl rfl) (fun _ => Below.refl _ _) (fun u X hX hd => ?_) ?_
        rotate_left
        · obtain ⟨q1, q2⟩ := hR.out X hX
          try simp at hd
          go_simp
          try rfl
        apply walkK_norm
        · first | (simp only [List.nil_append, List.cons_append]; rfl) | simp only [List.nil_append, List.cons_append]
        refine walkK_is ?_ (by first | exact gs0 rfl | exact gs1 rfl rfl rfl) (fun _ => Below.refl _ _) (fun u X hX hd => ?_) ?_
        rotate_left
        · obtain ⟨q1, q2⟩ := hR.out X hX
          try simp at hd
          go_simp
          try rfl
        apply walkK_norm
        · first | (simp only [List.nil_append, List.cons_append]; rfl) | simp only [List.nil_append, List.cons_append]
        refine walkK_is ?_ (by first | exact gs0 rfl | exact gs1 rfl rfl rfl) (fun _ => Below.refl _ _) (fun u X hX hd => ?_) ?_
        rotate_left
        · obtain ⟨q1, q2⟩ := hR.out X hX
          try simp at hd
          go_simp
          try rfl
        apply walkK_norm
        · first | (simp only [List.nil_append, List.cons_append]; rfl) | simp only [List.nil_append, List.cons_append]
        refine walkK_is ?_ (by first | exact gs0 rfl | exact gs1 rfl rfl rfl) (fun _ => Below.refl _ _) (fun u X hX hd => ?_) ?_
        rotate_left
        · obtain ⟨q1, q2⟩ := hR.out X hX
          try simp at hd
          go_simp
          try rfl
        apply walkK_norm
        · first | (simp only [List.nil_append, List.cons_append]; rfl) | simp only [List.nil_append, List.cons_append]
        refine walkK_call (isV (.bool hb)) 14 ?_ (by first | exact gs0 rfl | exact gs1 rfl rfl rfl) (fun _ _ _ _ h => h) (fun u X hX hd => ?_) (fun X hX => ?_) ?_
        rotate_left
        · obtain ⟨q1, q2⟩ := hR.out X hX
          try simp at hd
          go_simp
          try rfl
        · exact (hs2.out X hX).mono fun e X' ⟨he, hb⟩ => ⟨_, he, hb, rfl⟩
        apply walkK_norm
        · first | (simp only [List.nil_append, List.cons_append]; rfl) | simp only [List.nil_append, List.cons_append]
        refine walkK_is (.bool false) (by first | exact gs0 rfl | exact gs1 rfl rfl rfl) (fun _ => Below.refl _ _) (fun u X hX hd => ?_) ?_
        · obtain ⟨q1, q2⟩ := hR.out X hX
          try simp at hd
          go_simp
          try rfl
        apply walkK_norm
        · first | (simp only [List.nil_append, List.cons_append]; rfl) | simp only [List.nil_append, List.cons_append]
        intro u X hX hsay
        simp only [sayAll, isV] at hsay
        obtain ⟨-, -, -, -, v4, -, -, -, -, -, -, -, -, -, -, -, -, -, -, v19, -⟩ := hsay
        simp only [putAll, Act.put, v4, v19, List.setIfInBounds_toArray, List.set_cons_succ, List.set_cons_zero, Nat.zero_add, Nat.reduceAdd]
        have T1 : Hid (Wnts X zA zc (playQ l a (i + 1)) ∧ (playQ l a (i + 1)).length = n1) := Lib.hid ⟨S1.out.1.below hX, S1.out.2⟩
        have T2 : Hid (Wnts X yA' yc' (playQ l a (i + 1)) ∧ (playQ l a (i + 1)).length = n1) := Lib.hid ⟨S2.out.1.below hX, S2.out.2⟩
        have BY := Lib.hid (BX.out.trans (hX.mono BX.out.size))
        clear v4 v19 hX hWZ
        go_wp2
        go_roundw
        case rel => exact ⟨i + 1, n1, zc, yc', zA, yA', by omega, hn1, by go_num, rfl, rfl, T1, T2, BY⟩
        case measure => simp [intOf]; omega
    · obtain rfl : i = an := by omega
      clear hlt
      go_wp2_with (go_at_call 7; go_must ((with_reducible refine (aw.out _).mono ?_); rintro e w9 ⟨rfl, hb9⟩; have B9 := Lib.hid (HB.out.trans (hb9.mono HB.out.size)); clear hb9))
      go_ret
      exact ⟨rfl, B9.out⟩

theorem queuePlays_walk (w : World) (hL : Wnts w lA lc l) (hln : l.length = ln) (hA : Acts14 w aA ac a) (han : a.length = an) :
    Calls Try.prog 3 #[.slice lA ln lc, .slice aA an ac] w fun e w' => e = .returned (.bool true) ∧ Below w.heap.size w w' := by
  by_cases h : 50 < ln ∨ 100 < an
  · exact queuePlays_no lA ln lc aA an ac h w
  · exact queuePlays_main l lA ln lc a aA an ac (by omega) (by omega) w hL hln hA han

end
end Go.Proofs.Ytbgdadofpjjpdaa
