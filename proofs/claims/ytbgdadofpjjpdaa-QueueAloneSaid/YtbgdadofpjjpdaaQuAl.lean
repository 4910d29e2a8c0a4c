/-
  QueueAlone, walked: true of any deeds, in whatever memory.
-/
import Derived.Test.YtbgdadofpjjpdaaQueV
import Derived.Deep.QuietTactic
import Derived.BigQuiet
namespace Go.Proofs.Ytbgdadofpjjpdaa
open Go.RowKit Go.Shelf
attribute [local go_sem] look findAt
attribute [local simp] depsOf isV Region.binds

def doKQ (K : Keys) (x : ActQ) : Keys := if x.ask = true then K ++ [(x.seq, x.excl)] else K.filter fun y => decide (y.1 ≠ x.seq)
def playKQ (a : List ActQ) (i : Nat) : Keys := (a.take i).foldl doKQ []
theorem playKQ_succ {a : List ActQ} {i : Nat} {x : ActQ} (hx : a[i]? = some x) : playKQ a (i + 1) = doKQ (playKQ a i) x := by
  unfold playKQ
  rw [List.take_add_one, hx, Option.toList_some, List.foldl_append]
  rfl
theorem doKQ_length (K : Keys) (x : ActQ) : (doKQ K x).length ≤ K.length + 1 := by
  unfold doKQ
  split
  · simp
  · exact Nat.le_succ_of_le (List.length_filter_le _ _)
theorem playKQ_length (a : List ActQ) : ∀ i, (playKQ a i).length ≤ i
  | 0 => by simp [playKQ]
  | i + 1 => by
    have ih := playKQ_length a i
    cases hx : a[i]? with
    | none =>
      have : playKQ a (i + 1) = playKQ a i := by unfold playKQ; rw [List.take_add_one, hx]; simp
      rw [this]
      omega
    | some x =>
      rw [playKQ_succ hx]
      have := doKQ_length (playKQ a i) x
      omega

section
variable (a : List ActQ) (aA : Option Addr) (an ac : Nat)

set_option maxHeartbeats 4000000 in
theorem queueAlone_no (hno : 100 < an) (w : World) :
    Calls Try.prog 4 #[.slice aA an ac] w fun e w' => e = .returned (.bool true) ∧ Below w.heap.size w w' := by
  have aw := Lib.hid (fun W => awake14 W)
  have d1 : (100 : Int) < (an : Int) := by omega
  go_enter Try.func4, Try.ntmps4
  go_wp2_with (go_at_call 7; go_must ((with_reducible refine (aw.out _).mono ?_); rintro e w2 ⟨rfl, hb2⟩; have B2 := Lib.hid hb2))
  go_ret
  exact ⟨rfl, B2.out⟩

set_option maxHeartbeats 32000000 in
set_option maxRecDepth 100000 in
theorem queueAlone_main (h100 : an ≤ 100) (w : World) (hA : Acts14 w aA ac a) (han : a.length = an) :
    Calls Try.prog 4 #[.slice aA an ac] w fun e w' => e = .returned (.bool true) ∧ Below w.heap.size w w' := by
  have aw := Lib.hid (fun W => awake14 W)
  have d1 : ¬ (100 : Int) < (an : Int) := by omega
  have hac : an ≤ ac := by have := hA.2.1; omega
  have HA := Lib.hid hA
  have AN := Lib.hid han
  have O0 : Hid (OwnW w.heap.size w none 0 0 (grK (playKQ a 0))) := Lib.hid (OwnW.none _ _)
  clear hA han
  go_enter Try.func4, Try.ntmps4
  go_wp2
  go_loopw [2, 3, 4] (fun _ ls cc wr => ∃ (i n c : Nat) (A : Option Addr), i ≤ an ∧ n ≤ i ∧ cc = .int .i64 i ∧ ls = .slice A n c ∧ Hid (OwnW w.heap.size wr A n c (grK (playKQ a i))) ∧ Hid (Below w.heap.size w wr)) (fun _ _ cc _ => an - (intOf cc).toNat)
  case atStart => exact ⟨0, 0, 0, none, by omega, by omega, rfl, rfl, O0, Lib.hid (Below.refl _ _)⟩
  case round =>
    obtain ⟨i, n, c, A, hi, hn, rfl, rfl, HO, HB⟩ := hrel
    by_cases hlt : i < an
    · have t1 : (i : Int) < (an : Int) := by omega
      have t2 : (i : Int) < (ac : Int) := by omega
      obtain ⟨x, hx⟩ := act_at (l := a) (i := i) (by rw [AN.out]; exact hlt)
      obtain ⟨b1, o1, rfl, hb1, x1, x2, x3⟩ := Acts14.at (HA.out.below HB.out) hx
      have hpl := playKQ_succ hx
      obtain ⟨ask, ex, s⟩ := x
      simp only at x1 x2 x3
      have hQ : Hid (∀ X, Below wr.heap.size wr X → X.cell? ⟨b1, o1 + i * 3 + 1, none⟩ = some (.bool ex) ∧ X.cell? ⟨b1, o1 + i * 3 + 2, none⟩ = some (.int .i64 s) ∧ b1 < X.heap.size) := Lib.hid (fun X hX => ⟨(hX.cell (p := ⟨b1, _, none⟩) hb1).trans x2, (hX.cell (p := ⟨b1, _, none⟩) hb1).trans x3, Nat.lt_of_lt_of_le hb1 hX.size⟩)
      clear hx
      cases ask with
      | true =>
        have HP : Hid (playKQ a (i + 1) = playKQ a i ++ [(s, ex)]) := Lib.hid hpl
        have ha : Hid (∀ X, Below wr.heap.size wr X → Calls Try.prog 8 #[.slice A n c, .int .i64 s, .bool ex] X (VPost w.heap.size (grK (playKQ a (i + 1))) X)) := Lib.hid (fun X hX => by
          have hO := HO.out.below hX
          have := ask_V (B := w.heap.size) hO.sl hO.1 (Nat.le_trans HB.out.size hX.size) (by omega) s ex
          rwa [ask_gr, ← HP.out] at this)
        clear x2 x3 hpl
        go_wp2
        try simp only [List.append_eq, List.cons_append, List.nil_append]
        refine wp_region_saysK 12 (fun x y => Below x.heap.size x y) (fun _ _ _ h k => bnext h k) wr (below_drew1 wr) (by kernel_rfl) (by kernel_rfl) (by kernel_rfl) (by kernel_rfl) (by rfl) ?_
        simp only [List.take_succ_cons, List.take_zero, List.drop_succ_cons, List.drop_zero]
        refine walkK_is ?_ (by first | exact gs0 rfl | exact gs1 rfl rfl rfl) (fun _ => Below.refl _ _) (fun u X hX hd => ?_) ?_
        rotate_left
        · obtain ⟨q1, q2, q3⟩ := hQ.out X hX
          try simp at hd
          go_simp
          try rfl
        apply walkK_norm
        · first | (simp only [List.nil_append]; rfl) | simp only [List.nil_append]
        refine walkK_is ?_ (by first | exact gs0 rfl | exact gs1 rfl rfl rfl) (fun _ => Below.refl _ _) (fun u X hX hd => ?_) ?_
        rotate_left
        · obtain ⟨q1, q2, q3⟩ := hQ.out X hX
          try simp at hd
          go_simp
          try rfl
        apply walkK_norm
        · first | (simp only [List.nil_append, List.cons_append]; rfl) | simp only [List.nil_append, List.cons_append]
        refine walkK_is ?_ (by first | exact gs0 rfl | exact gs1 rfl rfl rfl) (fun _ => Below.refl _ _) (fun u X hX hd => ?_) ?_
        rotate_left
        · obtain ⟨q1, q2, q3⟩ := hQ.out X hX
          try simp at hd
          go_simp
          try rfl
        apply walkK_norm
        · first | (simp only [List.nil_append, List.cons_append]; rfl) | simp only [List.nil_append, List.cons_append]
        refine walkK_is ?_ (by first | exact gs0 rfl | exact gs1 rfl rfl rfl) (fun _ => Below.refl _ _) (fun u X hX hd => ?_) ?_
        rotate_left
        · obtain ⟨q1, q2, q3⟩ := hQ.out X hX
          try simp at hd
          go_simp
          try rfl
        apply walkK_norm
        · first | (simp only [List.nil_append, List.cons_append]; rfl) | simp only [List.nil_append, List.cons_append]
        refine walkK_is ?_ (by first | exact gs0 rfl | exact gs1 rfl rfl rfl) (fun _ => Below.refl _ _) (fun u X hX hd => ?_) ?_
        rotate_left
        · obtain ⟨q1, q2, q3⟩ := hQ.out X hX
          try simp at hd
          go_simp
          try rfl
        apply walkK_norm
        · first | (simp only [List.nil_append, List.cons_append]; rfl) | simp only [List.nil_append, List.cons_append]
        refine walkK_is ?_ (by first | exact gs0 rfl | exact gs1 rfl rfl rfl) (fun _ => Below.refl _ _) (fun u X hX hd => ?_) ?_
        rotate_left
        · obtain ⟨q1, q2, q3⟩ := hQ.out X hX
          try simp at hd
          go_simp
          try rfl
        apply walkK_norm
        · first | (simp only [List.nil_append, List.cons_append]; rfl) | simp only [List.nil_append, List.cons_append]
        refine walkK_is ?_ (by first | exact gs0 rfl | exact gs1 rfl rfl rfl) (fun _ => Below.refl _ _) (fun u X hX hd => ?_) ?_
        rotate_left
        · obtain ⟨q1, q2, q3⟩ := hQ.out X hX
          try simp at hd
          go_simp
          try rfl
        apply walkK_norm
        · first | (simp only [List.nil_append, List.cons_append]; rfl) | simp only [List.nil_append, List.cons_append]
        refine walkK_is ?_ (by first | exact gs0 rfl | exact gs1 rfl rfl rfl) (fun _ => Below.refl _ _) (fun u X hX hd => ?_) ?_
        rotate_left
        · obtain ⟨q1, q2, q3⟩ := hQ.out X hX
          try simp at hd
          go_simp
          try rfl
        apply walkK_norm
        · first | (simp only [List.nil_append, List.cons_append]; rfl) | simp only [List.nil_append, List.cons_append]
        refine walkK_is ?_ (by first | exact gs0 rfl | exact gs1 rfl rfl rfl) (fun _ => Below.refl _ _) (fun u X hX hd => ?_) ?_
        rotate_left
        · obtain ⟨q1, q2, q3⟩ := hQ.out X hX
          try simp at hd
          go_simp
          try rfl
        apply walkK_norm
        · first | (simp only [List.nil_append, List.cons_append]; rfl) | simp only [List.nil_append, List.cons_append]
        refine walkK_is ?_ (by first | exact gs0 rfl | exact gs1 rfl rfl rfl) (fun _ => Below.refl _ _) (fun u X hX hd => ?_) ?_
        rotate_left
        · obtain ⟨q1, q2, q3⟩ := hQ.out X hX
          try simp at hd
          go_simp
          try rfl
        apply walkK_norm
        · first | (simp only [List.nil_append, List.cons_append]; rfl) | simp only [List.nil_append, List.cons_append]
        refine walkK_is ?_ (by first | exact gs0 rfl | exact gs1 rfl rfl rfl) (fun _ => Below.refl _ _) (fun u X hX hd => ?_) ?_
        rotate_left
        · obtain ⟨q1, q2, q3⟩ := hQ.out X hX
          try simp at hd
          go_simp
          try rfl
        apply walkK_norm
        · first | (simp only [List.nil_append, List.cons_append]; rfl) | simp only [List.nil_append, List.cons_append]
        refine walkK_call (wnsV w.heap.size (grK (playKQ a (i + 1)))) 8 ?_ (by first | exact gs0 rfl | exact gs1 rfl rfl rfl) (fun v x y hb h => wnsV_keep v x y hb h) (fun u X hX hd => ?_) (fun X hX => ?_) ?_
        rotate_left
        · obtain ⟨q1, q2, q3⟩ := hQ.out X hX
          try simp at hd
          go_simp
          try rfl
        · exact ha.out X hX
        apply walkK_norm
        · first | (simp only [List.nil_append, List.cons_append]; rfl) | simp only [List.nil_append, List.cons_append]
        intro u X hX hsay
        simp only [sayAll, isV] at hsay
        obtain ⟨-, -, -, -, -, -, -, -, -, -, -, v9, -⟩ := hsay
        obtain ⟨A1, n1, c1, v9, hO⟩ := v9
        simp only [putAll, Act.put, v9, List.setIfInBounds_toArray, List.set_cons_succ, List.set_cons_zero, Nat.zero_add, Nat.reduceAdd]
        have O1 := Lib.hid hO
        have B1 := Lib.hid (HB.out.trans (hX.mono HB.out.size))
        have hn1 : n1 ≤ i + 1 := by have h1 := hO.1; have h2 := playKQ_length a (i + 1); rw [grK_length] at h1; omega
        have KL : Hid ((playKQ a (i + 1)).length = n1) := Lib.hid (by have h1 := hO.1; rwa [grK_length] at h1)
        have hcap := hO.cap
        clear hO hX v9
        obtain ⟨K, hK⟩ : ∃ K, K = playKQ a (i + 1) := ⟨_, rfl⟩
        rw [← hK] at O1 KL
        have KE := Lib.hid hK
        have AL := Lib.hid (alone_K K n1 (by rw [KL.out]; exact Nat.le_refl _))
        clear hK
        go_wp2
        go_loopw [2, 5, 6, 7, 8] (fun _ sm em fr cc wq => ∃ k : Nat, k ≤ n1 ∧ cc = .int .i64 k ∧ sm = .int .i64 (someK K k : Nat) ∧ em = .int .i64 (exclK K k : Nat) ∧ fr = .bool (freeK K k) ∧ someK K k ≤ k ∧ exclK K k ≤ k ∧ Hid (Below X.heap.size X wq)) (fun _ _ _ _ cc _ => n1 - (intOf cc).toNat)
        case atStart => exact ⟨0, by omega, rfl, rfl, rfl, rfl, Nat.le_refl _, Nat.le_refl _, Lib.hid (Below.refl _ _)⟩
        case round =>
          obtain ⟨k, hk, rfl, rfl, rfl, rfl, hsk, hek, HW⟩ := hrel
          by_cases hkl : k < n1
          · have u1 : (k : Int) < (n1 : Int) := by omega
            have u2 : (k : Int) < (c1 : Int) := by omega
            have hkK : k < K.length := by rw [KL.out]; exact hkl
            obtain ⟨b3, o3, rfl, hb3, y1, y2, y3⟩ := ((O1.out.below HW.out).sl).at (grK_at hkK)
            have g1 := has_one hkK
            have g2 := free_succ hkK
            have g3 := some_succ K k
            have g4 := exclK_succ K k
            simp only at y1 y2 y3
            clear hkK
            generalize hso : someK K k = so at *
            generalize heo : exclK K k = eo at *
            generalize hfo : freeK K k = fo at *
            generalize (keyAt K k).2 = ex2 at *
            generalize (keyAt K k).1 = s2 at *
            generalize hasK K k = hs2 at *
            have HF := Lib.hid hfo
            clear hso heo hfo
            rcases Nat.eq_zero_or_pos k with rfl | hpos
            · have z0 : decide ((0 : Nat) = 0) = true := rfl
              obtain rfl : true = fo := by rw [← HF.out]; rfl
              rw [z0, Bool.true_or] at g1
              subst g1
              cases ex2 with
              | true =>
                clear AL
                go_wp2
                go_quiet (fail)
                go_wp2
                go_roundw
                case rel => exact ⟨0 + 1, by omega, by go_num, by rw [g3]; simp, by rw [g4]; simp, by rw [g2]; simp, by rw [g3]; simp; omega, by rw [g4]; simp; omega, Lib.hid (below_drewN HW.out _)⟩
                case measure => simp [intOf]; omega
              | false =>
                clear AL
                go_wp2
                go_quiet (fail)
                go_wp2
                go_roundw
                case rel => exact ⟨0 + 1, by omega, by go_num, by rw [g3]; simp, by rw [g4]; simp, by rw [g2]; simp, by rw [g3]; simp; omega, by rw [g4]; simp; omega, Lib.hid (below_drewN HW.out _)⟩
                case measure => simp [intOf]; omega
            · have z0 : decide (k = 0) = false := decide_eq_false (by omega)
              have z1 : ((k : Int) == 0) = false := beq_eq_false_iff_ne.2 (by omega)
              rw [z0, Bool.false_or] at g1
              subst g1
              cases fo with
              | true =>
                cases ex2 with
                | true =>
                  clear AL
                  go_wp2
                  go_quiet (fail)
                  go_wp2
                  go_roundw
                  case rel => exact ⟨k + 1, by omega, by go_num, by rw [g3]; simp, by rw [g4]; simp, by rw [g2]; simp, by rw [g3]; simp; omega, by rw [g4]; simp; omega, Lib.hid (below_drewN HW.out _)⟩
                  case measure => simp [intOf]; omega
                | false =>
                  clear AL
                  go_wp2
                  go_quiet (fail)
                  go_wp2
                  go_roundw
                  case rel => exact ⟨k + 1, by omega, by go_num, by rw [g3]; simp, by rw [g4]; simp, by rw [g2]; simp, by rw [g3]; simp; omega, by rw [g4]; simp; omega, Lib.hid (below_drewN HW.out _)⟩
                  case measure => simp [intOf]; omega
              | false =>
                clear AL
                go_wp2
                go_quiet (fail)
                go_wp2
                go_roundw
                case rel => exact ⟨k + 1, by omega, by go_num, by rw [g3]; simp, by rw [g4]; simp, by rw [g2]; simp, by rw [g3]; simp; omega, by rw [g4]; simp; omega, Lib.hid (below_drewN HW.out _)⟩
                case measure => simp [intOf]; omega
          · obtain rfl : k = n1 := by omega
            obtain ⟨al1, al2, al3⟩ := AL.out
            have BX := Lib.hid (B1.out.trans (HW.out.mono B1.out.size))
            have OX : Hid (OwnW w.heap.size wr A1 k c1 (grK (playKQ a (i + 1)))) := Lib.hid (by rw [← KE.out]; exact O1.out.below HW.out)
            generalize someK K k = so at *
            generalize exclK K k = eo at *
            clear hkl
            rcases (show eo = 0 ∨ eo = 1 by omega) with rfl | rfl
            · rcases Nat.eq_zero_or_pos k with rfl | hpos
              · clear al1 al2 al3
                go_wp2
                go_roundw
                case rel => exact ⟨i + 1, 0, c1, A1, by omega, by omega, by go_num, rfl, OX, BX⟩
                case measure => simp [intOf]; omega
              · have v1 := al1 hpos
                have v2 : ((so : Int) == 0) = false := beq_eq_false_iff_ne.2 (by omega)
                have v3 : (0 : Int) < (k : Int) := by omega
                clear al1 al2 al3
                go_wp2
                go_roundw
                case rel => exact ⟨i + 1, k, c1, A1, by omega, by omega, by go_num, rfl, OX, BX⟩
                case measure => simp [intOf]; omega
            · obtain rfl : so = 1 := al3 rfl
              clear al1 al2 al3
              go_wp2
              go_roundw
              case rel => exact ⟨i + 1, k, c1, A1, by omega, by omega, by go_num, rfl, OX, BX⟩
              case measure => simp [intOf]; omega
      | false =>
        have HP : Hid (playKQ a (i + 1) = (playKQ a i).filter fun y => decide (y.1 ≠ s)) := Lib.hid hpl
        have hg : Hid (Calls Try.prog 10 #[.slice A n c, .int .i64 s] wr (OPost w.heap.size (grK (playKQ a (i + 1))) wr)) := Lib.hid (by
          have := give_O HO.out HB.out.size (by omega) s
          rwa [give_gr, ← HP.out] at this)
        clear hpl
        go_wp2_with (go_at_call 10; go_must ((with_reducible refine hg.out.mono ?_); rintro e X ⟨A1, n1, c1, rfl, hO, hX⟩))
        have v9 : True := trivial
        have O1 := Lib.hid hO
        have B1 := Lib.hid (HB.out.trans (hX.mono HB.out.size))
        have hn1 : n1 ≤ i + 1 := by have h1 := hO.1; have h2 := playKQ_length a (i + 1); rw [grK_length] at h1; omega
        have KL : Hid ((playKQ a (i + 1)).length = n1) := Lib.hid (by have h1 := hO.1; rwa [grK_length] at h1)
        have hcap := hO.cap
        clear hO hX v9
        obtain ⟨K, hK⟩ : ∃ K, K = playKQ a (i + 1) := ⟨_, rfl⟩
        rw [← hK] at O1 KL
        have KE := Lib.hid hK
        have AL := Lib.hid (alone_K K n1 (by rw [KL.out]; exact Nat.le_refl _))
        clear hK
        go_loopw [2, 5, 6, 7, 8] (fun _ sm em fr cc wq => ∃ k : Nat, k ≤ n1 ∧ cc = .int .i64 k ∧ sm = .int .i64 (someK K k : Nat) ∧ em = .int .i64 (exclK K k : Nat) ∧ fr = .bool (freeK K k) ∧ someK K k ≤ k ∧ exclK K k ≤ k ∧ Hid (Below X.heap.size X wq)) (fun _ _ _ _ cc _ => n1 - (intOf cc).toNat)
        case atStart => exact ⟨0, by omega, rfl, rfl, rfl, rfl, Nat.le_refl _, Nat.le_refl _, Lib.hid (Below.refl _ _)⟩
        case round =>
          obtain ⟨k, hk, rfl, rfl, rfl, rfl, hsk, hek, HW⟩ := hrel
          by_cases hkl : k < n1
          · have u1 : (k : Int) < (n1 : Int) := by omega
            have u2 : (k : Int) < (c1 : Int) := by omega
            have hkK : k < K.length := by rw [KL.out]; exact hkl
            obtain ⟨b3, o3, rfl, hb3, y1, y2, y3⟩ := ((O1.out.below HW.out).sl).at (grK_at hkK)
            have g1 := has_one hkK
            have g2 := free_succ hkK
            have g3 := some_succ K k
            have g4 := exclK_succ K k
            simp only at y1 y2 y3
            clear hkK
            generalize hso : someK K k = so at *
            generalize heo : exclK K k = eo at *
            generalize hfo : freeK K k = fo at *
            generalize (keyAt K k).2 = ex2 at *
            generalize (keyAt K k).1 = s2 at *
            generalize hasK K k = hs2 at *
            have HF := Lib.hid hfo
            clear hso heo hfo
            rcases Nat.eq_zero_or_pos k with rfl | hpos
            · have z0 : decide ((0 : Nat) = 0) = true := rfl
              obtain rfl : true = fo := by rw [← HF.out]; rfl
              rw [z0, Bool.true_or] at g1
              subst g1
              cases ex2 with
              | true =>
                clear AL
                go_wp2
                go_quiet (fail)
                go_wp2
                go_roundw
                case rel => exact ⟨0 + 1, by omega, by go_num, by rw [g3]; simp, by rw [g4]; simp, by rw [g2]; simp, by rw [g3]; simp; omega, by rw [g4]; simp; omega, Lib.hid (below_drewN HW.out _)⟩
                case measure => simp [intOf]; omega
              | false =>
                clear AL
                go_wp2
                go_quiet (fail)
                go_wp2
                go_roundw
                case rel => exact ⟨0 + 1, by omega, by go_num, by rw [g3]; simp, by rw [g4]; simp, by rw [g2]; simp, by rw [g3]; simp; omega, by rw [g4]; simp; omega, Lib.hid (below_drewN HW.out _)⟩
                case measure => simp [intOf]; omega
            · have z0 : decide (k = 0) = false := decide_eq_false (by omega)
              have z1 : ((k : Int) == 0) = false := beq_eq_false_iff_ne.2 (by omega)
              rw [z0, Bool.false_or] at g1
              subst g1
              cases fo with
              | true =>
                cases ex2 with
                | true =>
                  clear AL
                  go_wp2
                  go_quiet (fail)
                  go_wp2
                  go_roundw
                  case rel => exact ⟨k + 1, by omega, by go_num, by rw [g3]; simp, by rw [g4]; simp, by rw [g2]; simp, by rw [g3]; simp; omega, by rw [g4]; simp; omega, Lib.hid (below_drewN HW.out _)⟩
                  case measure => simp [intOf]; omega
                | false =>
                  clear AL
                  go_wp2
                  go_quiet (fail)
                  go_wp2
                  go_roundw
                  case rel => exact ⟨k + 1, by omega, by go_num, by rw [g3]; simp, by rw [g4]; simp, by rw [g2]; simp, by rw [g3]; simp; omega, by rw [g4]; simp; omega, Lib.hid (below_drewN HW.out _)⟩
                  case measure => simp [intOf]; omega
              | false =>
                clear AL
                go_wp2
                go_quiet (fail)
                go_wp2
                go_roundw
                case rel => exact ⟨k + 1, by omega, by go_num, by rw [g3]; simp, by rw [g4]; simp, by rw [g2]; simp, by rw [g3]; simp; omega, by rw [g4]; simp; omega, Lib.hid (below_drewN HW.out _)⟩
                case measure => simp [intOf]; omega
          · obtain rfl : k = n1 := by omega
            obtain ⟨al1, al2, al3⟩ := AL.out
            have BX := Lib.hid (B1.out.trans (HW.out.mono B1.out.size))
            have OX : Hid (OwnW w.heap.size wr A1 k c1 (grK (playKQ a (i + 1)))) := Lib.hid (by rw [← KE.out]; exact O1.out.below HW.out)
            generalize someK K k = so at *
            generalize exclK K k = eo at *
            clear hkl
            rcases (show eo = 0 ∨ eo = 1 by omega) with rfl | rfl
            · rcases Nat.eq_zero_or_pos k with rfl | hpos
              · clear al1 al2 al3
                go_wp2
                go_roundw
                case rel => exact ⟨i + 1, 0, c1, A1, by omega, by omega, by go_num, rfl, OX, BX⟩
                case measure => simp [intOf]; omega
              · have v1 := al1 hpos
                have v2 : ((so : Int) == 0) = false := beq_eq_false_iff_ne.2 (by omega)
                have v3 : (0 : Int) < (k : Int) := by omega
                clear al1 al2 al3
                go_wp2
                go_roundw
                case rel => exact ⟨i + 1, k, c1, A1, by omega, by omega, by go_num, rfl, OX, BX⟩
                case measure => simp [intOf]; omega
            · obtain rfl : so = 1 := al3 rfl
              clear al1 al2 al3
              go_wp2
              go_roundw
              case rel => exact ⟨i + 1, k, c1, A1, by omega, by omega, by go_num, rfl, OX, BX⟩
              case measure => simp [intOf]; omega
    · obtain rfl : i = an := by omega
      clear hlt
      go_wp2_with (go_at_call 7; go_must ((with_reducible refine (aw.out _).mono ?_); rintro e w9 ⟨rfl, hb9⟩; have B9 := Lib.hid (HB.out.trans (hb9.mono HB.out.size)); clear hb9))
      go_ret
      exact ⟨rfl, B9.out⟩

theorem queueAlone_walk (w : World) (hA : Acts14 w aA ac a) (han : a.length = an) :
    Calls Try.prog 4 #[.slice aA an ac] w fun e w' => e = .returned (.bool true) ∧ Below w.heap.size w w' := by
  by_cases h : 100 < an
  · exact queueAlone_no aA an ac h w
  · exact queueAlone_main a aA an ac (by omega) w hA han

end
end Go.Proofs.Ytbgdadofpjjpdaa
