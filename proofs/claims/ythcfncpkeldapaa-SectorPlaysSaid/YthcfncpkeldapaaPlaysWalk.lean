/-
  What SectorPlays answers: true, for every number and every list of deeds in memory. No conditions.
-/
import Derived.Test.YthcfncpkeldapaaPlaysDefs
import Derived.Test.YthcfncpkeldapaaSays
import Derived.Deep.RegionLaw
import Derived.Deep.RegionHeld3
import Derived.Deep.DrawnRows
import Derived.Deep.DeepCutAuto
import Derived.Deep.CutBlock
import Derived.Deep.LoopGhost
namespace Go.Proofs.Ythcfncpkeldapaa
open Go.RowKit

attribute [local go_sem ↓] Go.wp_at_zero Go.wp_at_succ
attribute [local go_sem] look findAt
attribute [local simp] depsOf isV Region.binds

set_option maxRecDepth 100000 in
set_option maxHeartbeats 600000 in
theorem plays_long (n : Int) (A : Option Addr) (m c : Nat) (l : List ActD) (w : World) (h : IsActs w A m l) (hs : shortB l = false ∨ 200 < n) :
    Calls Try.prog 3 #[.int .i64 n, .slice A m c] w fun e w' => e = .returned (.bool true) ∧ Below w.heap.size w w' := by
  have hsh := short_any A m c l w h
  cases hb : shortB l with
  | false =>
    rw [hb] at hsh
    clear hs
    go_enter Try.func3, Try.ntmps3
    go_wp2_with fail
    refine hsh.mono ?_
    rintro e w1 ⟨rfl, rfl⟩
    go_wp2_with fail
    refine (awake_any _).mono ?_
    rintro e w1 ⟨rfl, hb1⟩
    go_wp2
    go_ret
    exact ⟨rfl, hb1⟩
  | true =>
    rw [hb] at hsh
    have hn : 200 < n := by rcases hs with hs | hs <;> simp_all
    clear hs
    go_enter Try.func3, Try.ntmps3
    go_wp2_with fail
    refine hsh.mono ?_
    rintro e w1 ⟨rfl, rfl⟩
    go_wp2_with fail
    refine (awake_any _).mono ?_
    rintro e w1 ⟨rfl, hb1⟩
    go_wp2
    go_ret
    exact ⟨rfl, hb1⟩

/-- Behind the switch. -/
def Met (w : World) (gd gx : Nat) (E : Dk) (s10 s11 : Value) (wc : World) : Prop := ∃ er : Int, s10 = .int .i64 er ∧ s11 = .int .i64 er ∧ Pair wc gd gx E E ∧ Below w.heap.size w wc

/-- Behind the first Put. -/
def MetPut (w : World) (gd gx : Nat) (D E : Dk) (er : Int) (s10 : Value) (wc : World) : Prop := s10 = .int .i64 er ∧ Pair wc gd gx E D ∧ Below w.heap.size w wc

set_option maxRecDepth 100000 in
set_option maxHeartbeats 8000000 in
theorem plays_short (n : Int) (A : Option Addr) (m c : Nat) (l : List ActD) (w : World) (h : IsActs w A m l) (hs : shortB l = true) (hn : n ≤ 200) :
    Calls Try.prog 3 #[.int .i64 n, .slice A m c] w fun e w' => e = .returned (.bool true) ∧ Below w.heap.size w w' := by
  have hsh := short_any A m c l w h
  rw [hs] at hsh
  obtain ⟨hl60, hst⟩ := short_facts hs
  have hm60 : m ≤ 60 := by rw [← h.1]; exact hl60
  have HST := Lib.hid hst
  have H := Lib.hid h
  have DOK := Lib.hid (devD_ok n hn)
  have DLO := Lib.hid (devD_loose n)
  clear hst h hs hl60
  go_enter Try.func3, Try.ntmps3
  go_wp2_with fail
  refine hsh.mono ?_
  rintro e w0 ⟨rfl, rfl⟩
  go_wp2_with fail
  refine (new_dev n _ hn).mono ?_
  rintro e w1 ⟨v, rfl, v1, b1⟩
  have hw1 := b1.size
  obtain ⟨A1, c1, B1, d1, rfl⟩ := v1.cells
  have k1 := Bk.new w1 28 #[.slice A1 (devD n).sec.length c1, .slice B1 (devD n).loose.length d1, .bool (devD n).down, .int .i64 (devD n).left]
  have hbA : Below w1.heap.size w1 (w1.alloc (.cells #[.slice A1 (devD n).sec.length c1, .slice B1 (devD n).loose.length d1, .bool (devD n).down, .int .i64 (devD n).left] 28)) := (Below.refl _ _).alloc (Nat.le_refl _) _
  replace v1 := v1.below hbA
  replace b1 := bnext b1 hbA
  clear hsh hbA
  go_wp2_with fail
  refine (rnew_dev n _ hn).mono ?_
  rintro e w2 ⟨v, rfl, v2, b2⟩
  obtain ⟨A2, c2, B2, d2, rfl⟩ := v2.cells
  replace k1 := k1.below b2
  replace v1 := v1.below b2
  replace b1 := bnext b1 b2
  have k2 := Bk.new w2 28 #[.slice A2 (devD n).sec.length c2, .slice B2 (devD n).loose.length d2, .bool (devD n).down, .int .i64 (devD n).left]
  have hbA : Below w2.heap.size w2 (w2.alloc (.cells #[.slice A2 (devD n).sec.length c2, .slice B2 (devD n).loose.length d2, .bool (devD n).down, .int .i64 (devD n).left] 28)) := (Below.refl _ _).alloc (Nat.le_refl _) _
  have l12 : w1.heap.size < w2.heap.size := k1.lt
  replace v1 := v1.below hbA
  replace v2 := v2.below hbA
  replace k1 := k1.below hbA
  have t0 := bnext b1 hbA
  clear hbA b2
  obtain ⟨p0, p1, p2, p3, pf⟩ := k1.four
  have g1 : (errD n != errD n) = false := by simp
  go_wp2_with fail
  refine (same_any _ _ (devD n) _ v1 v2 DOK.out (by rw [DLO.out]; simp)).mono ?_
  rintro e w3 ⟨rfl, b3⟩
  have pr : Pair w3 w1.heap.size w2.heap.size (devD n) (devD n) := ⟨A1, c1, B1, d1, A2, c2, B2, d2, k1.below b3, v1.below b3, k2.below b3, v2.below b3⟩
  replace t0 := bnext t0 b3
  clear k1 k2 v1 v2 b1 b3 p0 p1 p2 p3 pf
  go_wp2_with fail
  go_loopg [9] m (fun g i wr => ∃ k : Nat, k ≤ m ∧ g = m - k ∧ i = .int .i64 k ∧ Pair wr w1.heap.size w2.heap.size (playD (devD n) (l.take k)) (playD (devD n) (l.take k)) ∧ Below w.heap.size w wr)
  case atStart => exact ⟨0, Nat.zero_le _, by omega, rfl, pr, t0⟩
  case round =>
    clear pr t0
    obtain ⟨k, hk, hgk, rfl, pr, t0⟩ := hrel
    by_cases hlt : k < m
    · have hkl : k < l.length := by rw [H.out.1]; exact hlt
      obtain ⟨b, off, rfl, hbl, hcell⟩ := H.out.2.2 (by omega)
      obtain ⟨S, qc, y0, y1, y2, y3, y4, y5, y6, za, z1, z2⟩ := (hcell k hkl).below t0 hbl
      have hst := (HST.out _ (List.getElem_mem hkl)).2
      have hok := playD_ok (devD n) (l.take k) DOK.out (fun x hx => by
        obtain ⟨j, hj, rfl⟩ := List.getElem_of_mem (List.mem_of_mem_take hx)
        obtain ⟨_, _, _, _, _, _, _, _, _, z, _⟩ := hcell j hj
        exact z)
      have hln : (playD (devD n) (l.take k)).loose.length ≤ k := by
        have h1 := playD_len (devD n) (l.take k)
        have h2 : (devD n).loose.length = 0 := by rw [DLO.out]; rfl
        have h3 : (l.take k).length ≤ k := List.length_take_le _ _
        omega
      have hnext := Lib.hid (playD_snoc (devD n) l k hkl)
      have hactB := Lib.hid ((hcell k hkl))
      obtain ⟨x, hx⟩ : ∃ x, l[k] = x := ⟨_, rfl⟩
      rw [hx] at y0 y1 y2 y3 y4 y5 y6 za z1 z2 hst
      have HX := Lib.hid hx
      obtain ⟨D, hD⟩ : ∃ D, playD (devD n) (l.take k) = D := ⟨_, rfl⟩
      rw [hD] at hok hln pr
      have HD := Lib.hid hD
      have HOK := Lib.hid hok
      have NOK := Lib.hid (doAct_ok D x hok za)
      have hnl : (doAct D x).loose.length ≤ 60 := by have := doAct_len D x; omega
      have NLN := Lib.hid hnl
      have hbS : b < wr.heap.size := Nat.lt_of_lt_of_le hbl t0.size
      clear hx hcell hD hok hnl
      obtain ⟨A1, c1, B1, d1, A2, c2, B2, d2, k1, v1, k2, v2⟩ := pr
      obtain ⟨E, hE⟩ : ∃ E, doAct D x = E := ⟨_, rfl⟩
      have HE := Lib.hid hE
      have EOK : Hid E.ok := by rw [← hE]; exact NOK
      have ELN : Hid (E.loose.length ≤ 60) := by rw [← hE]; exact NLN
      clear hE NOK NLN
      have hne : w1.heap.size ≠ w2.heap.size := by omega
      obtain ⟨xk, xa, xd, xs, xt, xb⟩ := x
      simp only at y0 y1 y2 y3 y4 y5 y6 za z1 z2 hst
      go_upto_block 2 with fail
      go_cut [10, 11] (fun s10 s11 wc => Met w w1.heap.size w2.heap.size E s10 s11 wc)
      case first =>
        have hbd : b ≠ w1.heap.size := by omega
        have hbx : b ≠ w2.heap.size := by omega
        have hw2 : w.heap.size ≤ w2.heap.size := by omega
        have hD1 : D.loose.length ≤ 100000 := by omega
        have hst1 : xs.length ≤ 1000000 := by omega
        obtain ⟨q0, q1, q2, q3, qf⟩ := k1.four
        obtain ⟨r0, r1, r2, r3, rf⟩ := k2.four
        have l1 := k1.lt
        have l2 := k2.lt
        have hk0 : (0 : Int) ≤ (k : Int) := by omega
        have hk1 : (k : Int) < (m : Int) := by omega
        by_cases h0 : xk = 0
        · have e0 : (xk == 0) = true := by simp [h0]
          have e : Hid (E = (putD D xa xd).1) := by unfold Hid; rw [← HE.out]; simp [doAct, h0]
          clear h0
          go_upto_region 13 with fail
          go_cut [10] (fun s10 wc => MetPut w w1.heap.size w2.heap.size D (putD D xa xd).1 (putD D xa xd).2 s10 wc)
          case first =>
            go_region_law (first | (go_simp; go_at_call 15; refine (put_any _ D _ _ _ (v1.below (below_drew1 wr)) HOK.out hD1).mono ?_; rintro e w' ⟨v', rfl, v3, b3⟩; obtain ⟨A3, c3, B3, d3, rfl⟩ := v3.cells; have k3 := (k1.below (below_drew1 wr)).below b3; obtain ⟨p0, p1, p2, p3, g1⟩ := k3.four))
            all_goals
              go_wp2
              go_meet
              exact ⟨rfl, Pair.first hne k3 ((k2.below (below_drew1 wr)).below b3) ((v2.below (below_drew1 wr)).below b3) v3, bset4 (bnext (bnext t0 (below_drew1 wr)) b3) hw1⟩
          case rest =>
            clear q0 q1 q2 q3 qf r0 r1 r2 r3 rf y0 y1 y2 y3 y4 y5 y6 k1 k2 v1 v2
            obtain ⟨rfl, ⟨A3, c3, B3, d3, A4, c4, B4, d4, k3, v3, k4, v4⟩, t3⟩ := hcut
            obtain ⟨S', qc', y0, y1, y2, -⟩ := hactB.out.below t3 hbl
            rw [HX.out] at y0 y1 y2
            simp only at y0 y1 y2
            obtain ⟨r0, r1, r2, r3, rf⟩ := k4.four
            obtain ⟨ee, hee⟩ : ∃ ee, (putD D xa xd).2 = ee := ⟨_, rfl⟩
            have PUT := rput_any (.agg #[.slice A4 D.sec.length c4, .slice B4 D.loose.length d4, .bool D.down, .int .i64 D.left]) D xa xd wc.drew (v4.below (below_drew1 wc)) HOK.out hD1
            rw [hee] at PUT
            have HP := Lib.hid PUT
            clear PUT
            simp only [hee]
            clear hee
            go_wp2_with fail
            go_region_law (first | (go_simp; go_at_call 16; refine HP.out.mono ?_; rintro e w' ⟨v', rfl, v5, b5⟩; obtain ⟨A5, c5, B5, d5, rfl⟩ := v5.cells; have k5 := (k4.below (below_drew1 wc)).below b5; obtain ⟨p0, p1, p2, p3, g1⟩ := k5.four))
            all_goals
              go_wp2
              go_meet
              exact ⟨ee, rfl, rfl, by rw [e.out]; exact Pair.second hne k5 ((k3.below (below_drew1 wc)).below b5) ((v3.below (below_drew1 wc)).below b5) v5, bset4 (bnext (bnext t3 (below_drew1 wc)) b5) hw2⟩
        · have e0 : (xk == 0) = false := by simp [h0]
          by_cases h1 : xk = 1
          · have e1 : (xk == 1) = true := by simp [h1]
            have e : Hid (E = (flushD D).1) := by unfold Hid; rw [← HE.out]; simp [doAct, h1]
            clear h0 h1
            go_wp2_with fail
            refine (flush_any _ D _ v1 HOK.out hD1).mono ?_
            rintro e' w' ⟨v', rfl, v3, b3⟩
            obtain ⟨A3, c3, B3, d3, rfl⟩ := v3.cells
            have k3 := k1.below b3
            have k4 := k2.below b3
            have v4 := v2.below b3
            have t3 := bnext t0 b3
            obtain ⟨p0, p1, p2, p3, g1⟩ := k3.four
            obtain ⟨s0, s1, s2, s3, sg⟩ := k4.four
            have k5 := k3.store4 (.slice A3 (flushD D).1.sec.length c3) (.slice B3 (flushD D).1.loose.length d3) (.bool (flushD D).1.down) (.int .i64 (flushD D).1.left)
            have k6 := far4 k4 (Ne.symm hne) (x0 := .slice A3 (flushD D).1.sec.length c3) (x1 := .slice B3 (flushD D).1.loose.length d3) (x2 := .bool (flushD D).1.down) (x3 := .int .i64 (flushD D).1.left)
            have v5 := v3.store4 k3 (.slice A3 (flushD D).1.sec.length c3) (.slice B3 (flushD D).1.loose.length d3) (.bool (flushD D).1.down) (.int .i64 (flushD D).1.left)
            have v6 := v4.store4 k3 (.slice A3 (flushD D).1.sec.length c3) (.slice B3 (flushD D).1.loose.length d3) (.bool (flushD D).1.down) (.int .i64 (flushD D).1.left)
            have t5 := bset4 t3 hw1 (x0 := .slice A3 (flushD D).1.sec.length c3) (x1 := .slice B3 (flushD D).1.loose.length d3) (x2 := .bool (flushD D).1.down) (x3 := .int .i64 (flushD D).1.left)
            go_wp2_with fail
            generalize ((((w'.setCell ⟨w1.heap.size, 0, none⟩ (.slice A3 (flushD D).1.sec.length c3)).setCell ⟨w1.heap.size, 1, none⟩ (.slice B3 (flushD D).1.loose.length d3)).setCell ⟨w1.heap.size, 2, none⟩ (.bool (flushD D).1.down)).setCell ⟨w1.heap.size, 3, none⟩ (.int .i64 (flushD D).1.left)) = W5 at *
            refine (rflush_any _ D _ v6 HOK.out hD1).mono ?_
            rintro e' w'' ⟨v', rfl, v7, b7⟩
            obtain ⟨A7, c7, B7, d7, rfl⟩ := v7.cells
            replace k5 := k5.below b7
            replace k6 := k6.below b7
            replace v5 := v5.below b7
            replace t5 := bnext t5 b7
            obtain ⟨s4, s5, s6, s7, sg2⟩ := k6.four
            go_wp2
            go_meet
            exact ⟨_, rfl, rfl, by rw [e.out]; exact Pair.second hne k6 k5 v5 v7, bset4 t5 hw2⟩
          · have e1 : (xk == 1) = false := by simp [h1]
            by_cases h2 : xk = 2
            · have e2 : (xk == 2) = true := by simp [h2]
              have e : Hid (E = armD D xa) := by unfold Hid; rw [← HE.out]; simp [doAct, h2]
              clear h0 h1 h2
              go_wp2_with fail
              have cd0 : ∀ X : World, Below wr.heap.size wr X → X.cell? ⟨w1.heap.size, 0, none⟩ = _ := fun X hX => (hX.cell (p := ⟨w1.heap.size, 0, none⟩) l1).trans q0
              have cd1 : ∀ X : World, Below wr.heap.size wr X → X.cell? ⟨w1.heap.size, 1, none⟩ = _ := fun X hX => (hX.cell (p := ⟨w1.heap.size, 1, none⟩) l1).trans q1
              have cd2 : ∀ X : World, Below wr.heap.size wr X → X.cell? ⟨w1.heap.size, 2, none⟩ = _ := fun X hX => (hX.cell (p := ⟨w1.heap.size, 2, none⟩) l1).trans q2
              have cd3 : ∀ X : World, Below wr.heap.size wr X → X.cell? ⟨w1.heap.size, 3, none⟩ = _ := fun X hX => (hX.cell (p := ⟨w1.heap.size, 3, none⟩) l1).trans q3
              have ce0 : ∀ X : World, Below wr.heap.size wr X → X.cell? ⟨w2.heap.size, 0, none⟩ = _ := fun X hX => (hX.cell (p := ⟨w2.heap.size, 0, none⟩) l2).trans r0
              have ce1 : ∀ X : World, Below wr.heap.size wr X → X.cell? ⟨w2.heap.size, 1, none⟩ = _ := fun X hX => (hX.cell (p := ⟨w2.heap.size, 1, none⟩) l2).trans r1
              have ce2 : ∀ X : World, Below wr.heap.size wr X → X.cell? ⟨w2.heap.size, 2, none⟩ = _ := fun X hX => (hX.cell (p := ⟨w2.heap.size, 2, none⟩) l2).trans r2
              have ce3 : ∀ X : World, Below wr.heap.size wr X → X.cell? ⟨w2.heap.size, 3, none⟩ = _ := fun X hX => (hX.cell (p := ⟨w2.heap.size, 3, none⟩) l2).trans r3
              have ca1 : ∀ X : World, Below wr.heap.size wr X → X.cell? ⟨b, off + k * 6 + 1, none⟩ = _ := fun X hX => (hX.cell (p := ⟨b, off + k * 6 + 1, none⟩) hbS).trans y1
              refine wp_region_says 14 (fun x y => Below x.heap.size x y) (fun _ _ _ h k => bnext h k) wr (below_drew1 wr) (by kernel_rfl) (by kernel_rfl) (by kernel_rfl) (by kernel_rfl) (by rfl) ?_
              simp only [List.take_succ_cons, List.take_zero, List.drop_succ_cons, List.drop_zero]
              refine walkS_is ?_ (fun _ => Below.refl _ _) (fun u X hX hd => ?_) ?_
              rotate_left
              · try simp at hd
                go_simp
                rfl
              refine walkS_is ?_ (fun _ => Below.refl _ _) (fun u X hX hd => ?_) ?_
              rotate_left
              · try simp at hd
                go_simp
                rfl
              refine walkS_is ?_ (fun _ => Below.refl _ _) (fun u X hX hd => ?_) ?_
              rotate_left
              · try simp at hd
                go_simp
                rfl
              refine walkS_is ?_ (fun _ => Below.refl _ _) (fun u X hX hd => ?_) ?_
              rotate_left
              · try simp at hd
                go_simp
                rfl
              refine walkS_is ?_ (fun _ => Below.refl _ _) (fun u X hX hd => ?_) ?_
              rotate_left
              · try simp at hd
                go_simp
                rfl
              refine walkS_is ?_ (fun _ => Below.refl _ _) (fun u X hX hd => ?_) ?_
              rotate_left
              · try simp at hd
                go_simp
                rfl
              refine walkS_call (fun v X => IsDk X v (armD D xa)) 19 ?_ (fun v X Y h hv => hv.below h) (fun u X hX hd => ?_) (fun X hX => ?_) ?_
              rotate_left
              · try simp at hd
                go_simp
                rfl
              · exact (arm_dk _ D _ _ (v1.below hX)).mono fun e X' ⟨v', he, hv, hb⟩ => ⟨v', he, hb, hv⟩
              refine walkS_is ?_ (fun _ => Below.refl _ _) (fun u X hX hd => ?_) ?_
              rotate_left
              · try simp at hd
                go_simp
                rfl
              refine walkS_is ?_ (fun _ => Below.refl _ _) (fun u X hX hd => ?_) ?_
              rotate_left
              · try simp at hd
                go_simp
                rfl
              refine walkS_is ?_ (fun _ => Below.refl _ _) (fun u X hX hd => ?_) ?_
              rotate_left
              · try simp at hd
                go_simp
                rfl
              refine walkS_is ?_ (fun _ => Below.refl _ _) (fun u X hX hd => ?_) ?_
              rotate_left
              · try simp at hd
                go_simp
                rfl
              refine walkS_is ?_ (fun _ => Below.refl _ _) (fun u X hX hd => ?_) ?_
              rotate_left
              · try simp at hd
                go_simp
                rfl
              refine walkS_is ?_ (fun _ => Below.refl _ _) (fun u X hX hd => ?_) ?_
              rotate_left
              · try simp at hd
                go_simp
                rfl
              refine walkS_call (fun v X => IsDk X v (armD D xa)) 20 ?_ (fun v X Y h hv => hv.below h) (fun u X hX hd => ?_) (fun X hX => ?_) ?_
              rotate_left
              · try simp at hd
                go_simp
                rfl
              · exact (rarm_dk _ D _ _ (v2.below hX)).mono fun e X' ⟨v', he, hv, hb⟩ => ⟨v', he, hb, hv⟩
              intro u X hX hsay
              simp only [List.nil_append, List.cons_append, sayAll] at hsay
              obtain ⟨-, -, -, -, -, -, vd3, -, -, -, -, -, -, vx3, -⟩ := hsay
              obtain ⟨A3, c3, B3, d3, e6⟩ := IsDk.cells vd3
              obtain ⟨A4, c4, B4, d4, e13⟩ := IsDk.cells vx3
              rw [e6] at vd3
              rw [e13] at vx3
              have k3 := k1.below hX
              have k4 := k2.below hX
              obtain ⟨s0, s1, s2, s3, sf⟩ := k3.four
              obtain ⟨s4, s5, s6, s7, sg⟩ := k4.four
              simp only [putAll, Act.put]
              go_wp2
              go_meet
              exact ⟨0, rfl, rfl, by rw [e.out]; exact Pair.both hne k3 k4 vd3 vx3, bset4 (bset4 (bnext t0 hX) hw1) hw2⟩
            · have e2 : (xk == 2) = false := by simp [h2]
              by_cases h3 : xk = 3
              · have e3 : (xk == 3) = true := by simp [h3]
                have e : Hid (E = startD D xs xt xb) := by unfold Hid; rw [← HE.out]; simp [doAct, h3]
                clear h0 h1 h2 h3
                have HY := Lib.hid y6
                clear y6
                go_wp2_with fail
                have cd0 : ∀ X : World, Below wr.heap.size wr X → X.cell? ⟨w1.heap.size, 0, none⟩ = _ := fun X hX => (hX.cell (p := ⟨w1.heap.size, 0, none⟩) l1).trans q0
                have cd1 : ∀ X : World, Below wr.heap.size wr X → X.cell? ⟨w1.heap.size, 1, none⟩ = _ := fun X hX => (hX.cell (p := ⟨w1.heap.size, 1, none⟩) l1).trans q1
                have cd2 : ∀ X : World, Below wr.heap.size wr X → X.cell? ⟨w1.heap.size, 2, none⟩ = _ := fun X hX => (hX.cell (p := ⟨w1.heap.size, 2, none⟩) l1).trans q2
                have cd3 : ∀ X : World, Below wr.heap.size wr X → X.cell? ⟨w1.heap.size, 3, none⟩ = _ := fun X hX => (hX.cell (p := ⟨w1.heap.size, 3, none⟩) l1).trans q3
                have ce0 : ∀ X : World, Below wr.heap.size wr X → X.cell? ⟨w2.heap.size, 0, none⟩ = _ := fun X hX => (hX.cell (p := ⟨w2.heap.size, 0, none⟩) l2).trans r0
                have ce1 : ∀ X : World, Below wr.heap.size wr X → X.cell? ⟨w2.heap.size, 1, none⟩ = _ := fun X hX => (hX.cell (p := ⟨w2.heap.size, 1, none⟩) l2).trans r1
                have ce2 : ∀ X : World, Below wr.heap.size wr X → X.cell? ⟨w2.heap.size, 2, none⟩ = _ := fun X hX => (hX.cell (p := ⟨w2.heap.size, 2, none⟩) l2).trans r2
                have ce3 : ∀ X : World, Below wr.heap.size wr X → X.cell? ⟨w2.heap.size, 3, none⟩ = _ := fun X hX => (hX.cell (p := ⟨w2.heap.size, 3, none⟩) l2).trans r3
                have ca3 : ∀ X : World, Below wr.heap.size wr X → X.cell? ⟨b, off + k * 6 + 3, none⟩ = _ := fun X hX => (hX.cell (p := ⟨b, off + k * 6 + 3, none⟩) hbS).trans y3
                have ca4 : ∀ X : World, Below wr.heap.size wr X → X.cell? ⟨b, off + k * 6 + 4, none⟩ = _ := fun X hX => (hX.cell (p := ⟨b, off + k * 6 + 4, none⟩) hbS).trans y4
                have ca5 : ∀ X : World, Below wr.heap.size wr X → X.cell? ⟨b, off + k * 6 + 5, none⟩ = _ := fun X hX => (hX.cell (p := ⟨b, off + k * 6 + 5, none⟩) hbS).trans y5
                refine wp_region_says 14 (fun x y => Below x.heap.size x y) (fun _ _ _ h k => bnext h k) wr (below_drew1 wr) (by kernel_rfl) (by kernel_rfl) (by kernel_rfl) (by kernel_rfl) (by rfl) ?_
                simp only [List.take_succ_cons, List.take_zero, List.drop_succ_cons, List.drop_zero]
                refine walkS_is ?_ (fun _ => Below.refl _ _) (fun u X hX hd => ?_) ?_
                rotate_left
                · try simp at hd
                  go_simp
                  rfl
                refine walkS_is ?_ (fun _ => Below.refl _ _) (fun u X hX hd => ?_) ?_
                rotate_left
                · try simp at hd
                  go_simp
                  rfl
                refine walkS_is ?_ (fun _ => Below.refl _ _) (fun u X hX hd => ?_) ?_
                rotate_left
                · try simp at hd
                  go_simp
                  rfl
                refine walkS_is ?_ (fun _ => Below.refl _ _) (fun u X hX hd => ?_) ?_
                rotate_left
                · try simp at hd
                  go_simp
                  rfl
                refine walkS_is ?_ (fun _ => Below.refl _ _) (fun u X hX hd => ?_) ?_
                rotate_left
                · try simp at hd
                  go_simp
                  rfl
                refine walkS_is ?_ (fun _ => Below.refl _ _) (fun u X hX hd => ?_) ?_
                rotate_left
                · try simp at hd
                  go_simp
                  rfl
                refine walkS_call (fun v X => IsDk X v (startD D xs xt xb)) 21 ?_ (fun v X Y h hv => hv.below h) (fun u X hX hd => ?_) (fun X hX => ?_) ?_
                rotate_left
                · try simp at hd
                  go_simp
                  rfl
                · exact (start_any _ _ D xs xt xb _ (v1.below hX) HOK.out hD1 ⟨S, qc, rfl, HY.out.below hX⟩ hst1).mono fun e X' ⟨v', he, hv, hb⟩ => ⟨v', he, hb, hv⟩
                refine walkS_is ?_ (fun _ => Below.refl _ _) (fun u X hX hd => ?_) ?_
                rotate_left
                · try simp at hd
                  go_simp
                  rfl
                refine walkS_is ?_ (fun _ => Below.refl _ _) (fun u X hX hd => ?_) ?_
                rotate_left
                · try simp at hd
                  go_simp
                  rfl
                refine walkS_is ?_ (fun _ => Below.refl _ _) (fun u X hX hd => ?_) ?_
                rotate_left
                · try simp at hd
                  go_simp
                  rfl
                refine walkS_is ?_ (fun _ => Below.refl _ _) (fun u X hX hd => ?_) ?_
                rotate_left
                · try simp at hd
                  go_simp
                  rfl
                refine walkS_is ?_ (fun _ => Below.refl _ _) (fun u X hX hd => ?_) ?_
                rotate_left
                · try simp at hd
                  go_simp
                  rfl
                refine walkS_is ?_ (fun _ => Below.refl _ _) (fun u X hX hd => ?_) ?_
                rotate_left
                · try simp at hd
                  go_simp
                  rfl
                refine walkS_call (fun v X => IsDk X v (startD D xs xt xb)) 22 ?_ (fun v X Y h hv => hv.below h) (fun u X hX hd => ?_) (fun X hX => ?_) ?_
                rotate_left
                · try simp at hd
                  go_simp
                  rfl
                · exact (rstart_any _ _ D xs xt xb _ (v2.below hX) HOK.out hD1 ⟨S, qc, rfl, HY.out.below hX⟩ hst1).mono fun e X' ⟨v', he, hv, hb⟩ => ⟨v', he, hb, hv⟩
                intro u X hX hsay
                simp only [List.nil_append, List.cons_append, sayAll] at hsay
                obtain ⟨-, -, -, -, -, -, vd3, -, -, -, -, -, -, vx3, -⟩ := hsay
                obtain ⟨A3, c3, B3, d3, e6⟩ := IsDk.cells vd3
                obtain ⟨A4, c4, B4, d4, e13⟩ := IsDk.cells vx3
                rw [e6] at vd3
                rw [e13] at vx3
                have k3 := k1.below hX
                have k4 := k2.below hX
                obtain ⟨s0, s1, s2, s3, sf⟩ := k3.four
                obtain ⟨s4, s5, s6, s7, sg⟩ := k4.four
                simp only [putAll, Act.put]
                go_wp2
                go_meet
                exact ⟨0, rfl, rfl, by rw [e.out]; exact Pair.both hne k3 k4 vd3 vx3, bset4 (bset4 (bnext t0 hX) hw1) hw2⟩
              · have e3 : (xk == 3) = false := by simp [h3]
                have e : Hid (E = D) := by unfold Hid; rw [← HE.out]; simp [doAct, h0, h1, h2, h3]
                clear h0 h1 h2 h3
                go_wp2
                go_meet
                exact ⟨0, rfl, rfl, by rw [e.out]; exact ⟨A1, c1, B1, d1, A2, c2, B2, d2, k1, v1, k2, v2⟩, t0⟩
      case rest =>
        obtain ⟨er, rfl, rfl, ⟨A3, c3, B3, d3, A4, c4, B4, d4, k3, v3, k4, v4⟩, t3⟩ := hcut
        have hnx := hnext.out
        rw [HD.out, HX.out, HE.out] at hnx
        have HNX := Lib.hid hnx
        obtain ⟨S', qc', -, w1', -⟩ := hactB.out.below t3 hbl
        rw [HX.out] at w1'
        simp only at w1'
        have lb : b < wc.heap.size := Nat.lt_of_lt_of_le hbl t3.size
        have l3 := k3.lt
        have l4 := k4.lt
        obtain ⟨q0, q1, q2, q3, qf⟩ := k3.four
        obtain ⟨r0, r1, r2, r3, rf⟩ := k4.four
        obtain ⟨rs, hrs⟩ : ∃ rs, (readD E xa).1 = rs := ⟨_, rfl⟩
        obtain ⟨ra, hra⟩ : ∃ ra, (readD E xa).2 = ra := ⟨_, rfl⟩
        have RD := Lib.hid (fun (x : KW wc) => read_any _ E xa x.1 (v3.below x.2) EOK.out (Nat.le_trans ELN.out (by omega)))
        have RX := Lib.hid (fun (x : KW wc) => rread_any _ E xa x.1 (v4.below x.2) EOK.out (Nat.le_trans ELN.out (by omega)))
        have SM := Lib.hid (fun (x : KW wc) => same_any _ _ E x.1 (v3.below x.2) (v4.below x.2) EOK.out (Nat.le_trans ELN.out (by omega)))
        have RG := Lib.hid (fun (x : KW wc) => right_any _ E x.1 (v3.below x.2) EOK.out (Nat.le_trans ELN.out (by omega)))
        have RR := Lib.hid (fun (x : KW wc) => rright_any _ E x.1 (v4.below x.2) EOK.out (Nat.le_trans ELN.out (by omega)))
        rw [hrs, hra] at RD RX
        clear hrs hra hnx hnext HD HX HE hactB
        have e0 := KW.cell q0 l3
        have e1 := KW.cell q1 l3
        have e2 := KW.cell q2 l3
        have e3 := KW.cell q3 l3
        have f0 := KW.cell r0 l4
        have f1 := KW.cell r1 l4
        have f2 := KW.cell r2 l4
        have f3 := KW.cell r3 l4
        have ya := KW.cell w1' lb
        have hk0 : (0 : Int) ≤ (k : Int) := by omega
        have hk1 : (k : Int) < (m : Int) := by omega
        clear q0 q1 q2 q3 qf r0 r1 r2 r3 rf w1' y0 y1 y2 y3 y4 y5 y6 k1 k2 v1 v2
        have hnn : Nonempty (KW wc) := ⟨⟨wc, Below.refl _ _⟩⟩
        go_wp2_with fail
        try simp only [List.append_eq, List.cons_append, List.nil_append]
        refine wp_region_kept wc (Below.refl _ _) (by kernel_rfl) (by kernel_rfl) ?_
        repeat (go_big_quiet_step ((first | (go_at_call 23; with_reducible exact kept_of _ (RD.out _)))))
        refine wpQuiet_nil ?_
        rintro _ ⟨wx, rfl⟩
        go_wp2_with fail
        try simp only [List.append_eq, List.cons_append, List.nil_append]
        refine wp_region_kept wc wx.2 (by kernel_rfl) (by kernel_rfl) ?_
        repeat (go_big_quiet_step ((first | (go_at_call 24; with_reducible exact kept_of _ (RX.out _)))))
        refine wpQuiet_nil ?_
        rintro _ ⟨wy, rfl⟩
        have h1 : (er != er) = false := by simp
        have h2 : (ra != ra) = false := by simp
        have h3 : (rs.toList != rs.toList) = false := by simp
        have h4 : (rs.toList == rs.toList) = true := by simp
        go_wp2_with fail
        try simp only [List.append_eq, List.cons_append, List.nil_append]
        refine wp_region_kept wc wy.2 (by kernel_rfl) (by kernel_rfl) ?_
        repeat (go_big_quiet_step ((first | (go_at_call 14; with_reducible exact kept_of _ (SM.out _)) | (go_at_call 25; with_reducible exact kept_of _ (RG.out _)) | (go_at_call 26; with_reducible exact kept_of _ (RR.out _)))))
        refine wpQuiet_nil ?_
        rintro _ ⟨wz, rfl⟩
        go_wp2
        go_roundg (m - (k + 1))
        case measure => omega
        case rel => exact ⟨k + 1, by omega, rfl, by go_num, by rw [HNX.out]; exact ⟨A3, c3, B3, d3, A4, c4, B4, d4, k3.below wz.2, v3.below wz.2, k4.below wz.2, v4.below wz.2⟩, bnext t3 wz.2⟩
    · go_wp2_with (go_at_call 11; go_must (refine (awake_any _).mono ?_; rintro e w9 ⟨rfl, hb9⟩))
      go_ret
      exact ⟨rfl, bnext t0 hb9⟩

end Go.Proofs.Ythcfncpkeldapaa
