/-
  What foremanref11.Whole and foremanref11.Some answer: all steps, or so many, in whatever memory. No conditions but those that stand there.
-/
import Derived.Test.YtoomadafgkcebaaZRunA
import Derived.Test.YtoomadafgkcebaaQRowT
namespace Go.Proofs.Ytoomadafgkcebaa
open Go.RowKit

section
variable (ra : Option Addr) (nr rc : Nat) (wa : Option Addr) (nw wc : Nat) (aa : Option Addr) (na ac : Nat) (ca : Option Addr) (nc cc : Nat)

set_option maxHeartbeats 4000000 in
theorem rwhole_any (c : Cmd) (own : Blks) (n : Nat) (bA : Option Addr) (bn bc : Nat) (w : World) (hC : CmIn w c ra nr rc wa nw wc aa na ac ca nc cc) (hO : Sl w 8 bA bn bc (blksW own)) (hn : n ≤ 1000) (hE : Ends c (newM c, own) n)
    (hfit : ∀ k, k < n → Fit c (stepsM c k (newM c, own)).1 (stepsM c k (newM c, own)).2) :
    Calls Try.prog 10 #[cmV ra nr rc wa nw wc aa na ac c.fuel ca nc cc, .slice bA bn bc] w (RunPost (stepsM c n (newM c, own)) n w) := by
  have W1 := Lib.hid (bnext (below_alloc1 w (CmObj ra nr rc wa nw wc aa na ac c.fuel ca nc cc)) (below_alloc1 _ (.cells mZ 32)))
  have C1 : Hid (Bk ((w.alloc (CmObj ra nr rc wa nw wc aa na ac c.fuel ca nc cc)).alloc (.cells mZ 32)) w.heap.size 25 #[.slice ra nr rc, .slice wa nw wc, .slice aa na ac, .int .i64 c.fuel, .slice ca nc cc]) := Lib.hid ((Bk.new w _ _).alloc _)
  have R1 : Hid (Bk ((w.alloc (CmObj ra nr rc wa nw wc aa na ac c.fuel ca nc cc)).alloc (.cells mZ 32)) (w.heap.size + 1) 32 mZ) := Lib.hid (by
    have := Bk.new (w.alloc (CmObj ra nr rc wa nw wc aa na ac c.fuel ca nc cc)) 32 mZ
    rwa [World.size_alloc] at this)
  have hnw := Lib.hid (fun W => rmnew_any ra nr rc wa nw wc aa na ac c.fuel ca nc cc W)
  have HF := Lib.hid hfit
  have HE := Lib.hid hE
  have HC := Lib.hid hC
  have HO := Lib.hid hO
  have hst := Lib.hid (fun (r : Mac × Blks) (hf : Fit c r.1 r.2) (W : World) (hW : Below w.heap.size w W) (sA : Option Addr) (sn sc : Nat) (oA : Option Addr) (on oc : Nat) (bA : Option Addr) (bn bc : Nat) hM => rstep_any ra nr rc wa nw wc aa na ac ca nc cc sA sn sc oA on oc bA bn bc c r.1 r.2 W hf (hC.below hW) hM)
  have hsu := Lib.hid (fun k => steps_succ c k (newM c, own))
  have h0 := Lib.hid (show stepsM c 0 (newM c, own) = (newM c, own) from rfl)
  have hnf := Lib.hid (show (newM c).fuel = c.fuel from rfl)
  clear hfit hC hO hE
  go_enter Try.func10, Try.ntmps10
  go_wp2_with (first
    | (go_at_call 22; go_must ((with_reducible refine (hnw.out _).mono ?_); rintro e w1 ⟨rfl, hb1⟩; have B1 := Lib.hid (bnext W1.out hb1); have C2 := Lib.hid (C1.out.below hb1); have R2 := Lib.hid (R1.out.below hb1); have N2 := Lib.hid (Bk.new w1 32 mZ); clear hb1))
    | (with_reducible refine st_mach w1.heap.size N2.out rfl rfl _ _ rfl rfl rfl rfl ?_))
  obtain ⟨G, hG⟩ : ∃ G, G = w1.heap.size := ⟨_, rfl⟩
  have hGw : w.heap.size + 1 < G := by rw [hG]; exact R2.out.lt
  have AT : Hid (MAt G (w.heap.size + 1) (stepsM c 0 (newM c, own)) bA bn bc ((w1.alloc (.cells mZ 32)).setRow w1.heap.size (mC 0 c.fuel (.slice none 0 0) 0 0 0 0 (.slice none 0 0) false 0))) := Lib.hid (by
    rw [h0.out, hG]
    refine ⟨none, 0, 0, none, 0, 0, Bk.setRow N2.out _, MIn.setRow ⟨⟨rfl, Nat.le_refl _, fun _ => ⟨rfl, rfl⟩, fun h => absurd h (by omega)⟩, ⟨rfl, Nat.le_refl _, fun _ => ⟨rfl, rfl⟩, fun h => absurd h (by omega)⟩, HO.out.below (bnext B1.out (below_alloc1 _ _))⟩ ?_ _, ?_, ?_⟩
    all_goals exact ⟨fun h => absurd h (by omega), fun h => absurd h (by omega), fun hn b off he => by
      obtain ⟨b', off', e, hb, _⟩ := HO.out.2.2.2 hn
      rw [he] at e
      injection e with e
      injection e with e
      have := hGw
      omega⟩)
  have C3 : Hid (Bk ((w1.alloc (.cells mZ 32)).setRow w1.heap.size (mC 0 c.fuel (.slice none 0 0) 0 0 0 0 (.slice none 0 0) false 0)) w.heap.size 25 #[.slice ra nr rc, .slice wa nw wc, .slice aa na ac, .int .i64 c.fuel, .slice ca nc cc]) := Lib.hid ((C2.out.alloc _).farRow (by omega) _)
  have R3 : Hid (Bk ((w1.alloc (.cells mZ 32)).setRow w1.heap.size (mC 0 c.fuel (.slice none 0 0) 0 0 0 0 (.slice none 0 0) false 0)) (w.heap.size + 1) 32 mZ) := Lib.hid ((R2.out.alloc _).farRow (by omega) _)
  have B3 : Hid (Below w.heap.size w ((w1.alloc (.cells mZ 32)).setRow w1.heap.size (mC 0 c.fuel (.slice none 0 0) 0 0 0 0 (.slice none 0 0) false 0))) := Lib.hid (below_row (bnext B1.out (below_alloc1 _ _)) (by omega) _)
  rw [← hG] at AT C3 R3 B3 ⊢
  clear hG C2 R2 N2 B1 C1 R1 W1 hnw
  go_loopw [8, 1] (fun ii ss wr => ∃ (k : Nat) (bA : Option Addr) (bn bc : Nat), k ≤ n ∧ ii = .int .i64 (k : Int) ∧ ss = .slice bA bn bc ∧ Hid (Below w.heap.size w wr) ∧ Hid (MAt G (w.heap.size + 1) (stepsM c k (newM c, own)) bA bn bc wr) ∧ Hid (Bk wr w.heap.size 25 #[.slice ra nr rc, .slice wa nw wc, .slice aa na ac, .int .i64 c.fuel, .slice ca nc cc]) ∧ Hid (Bk wr (w.heap.size + 1) 32 mZ)) (fun ii _ _ => n - (intOf ii).toNat)
  case atStart => exact ⟨0, _, _, _, Nat.zero_le _, rfl, rfl, B3, AT, C3, R3⟩
  case round =>
    clear AT C3 R3 B3
    obtain ⟨k, bA', bn', bc', hk, rfl, rfl, HB, HA, HCm, HR⟩ := hrel
    obtain ⟨sA, sn, sc, oA, on, oc, ax, am, ag, ao⟩ := HA.out
    have AX := Lib.hid ax
    have AM := Lib.hid am
    have AO := Lib.hid ao
    have AG := Lib.hid ag
    clear ax am ao ag HA
    obtain ⟨f0, f1, f2, f3, f4, ff⟩ := HCm.out.cmd
    have fl := HCm.out.lt
    have al := AX.out.lt
    by_cases hlt : k < n
    · skip
      have hs1 := hst.out _ (HF.out k hlt) wr HB.out sA sn sc oA on oc bA' bn' bc' AM.out
      have hk1 := Lib.hid (hsu.out k)
      have ho := HE.out.first k hlt
      clear HE HF hst hsu h0 hnf
      generalize stepsM c k (newM c, own) = r at *
      have a8 : wr.cell? ⟨G, 8, none⟩ = some (.bool false) := by rw [AX.out.cell 8, ← ho]; rfl
      clear ho
      obtain ⟨r', hr'⟩ : ∃ r', r' = stepM c r.1 r.2 := ⟨_, rfl⟩
      rw [← hr'] at hs1
      have hr2 : Hid (stepsM c (k + 1) (newM c, own) = r') := Lib.hid (by rw [hk1.out, hr'])
      have HS := Lib.hid hs1
      clear hs1 hr' hk1
      go_wp2_with (first
        | (with_reducible refine ld_mach G AX.out _ rfl rfl rfl ?_)
        | (go_at_call 18; go_must ((with_reducible refine HS.out.mono ?_); rintro e w3 ⟨sA3, sn3, sc3, oA3, on3, oc3, bA3, bn3, bc3, rfl, m3, b3, o3⟩; have M3 := Lib.hid m3; have B3 := Lib.hid b3; have O3 := Lib.hid (o3 G AX.out.lt AG.out); have O4 := Lib.hid (o3 (w.heap.size + 1) HR.out.lt AO.out); have X3 := Lib.hid (AX.out.below b3); have C3 := Lib.hid (HCm.out.below b3); have R3 := Lib.hid (HR.out.below b3); clear m3 b3 o3))
        | (with_reducible refine st_mach G X3.out rfl rfl _ _ rfl rfl rfl rfl ?_))
      go_roundw
      case rel =>
        refine ⟨k + 1, bA3, bn3, bc3, by omega, by go_num, rfl, Lib.hid (below_row (bnext HB.out B3.out) (by omega) _), Lib.hid ?_, Lib.hid (C3.out.farRow (by omega) _), Lib.hid (R3.out.farRow (by omega) _)⟩
        rw [hr2.out]
        exact ⟨sA3, sn3, sc3, oA3, on3, oc3, Bk.setRow X3.out _, M3.out.setRow O3.out _, O3.out, O4.out⟩
      case measure => simp [intOf]; omega
    · obtain rfl : n = k := by omega
      clear hlt
      have ho := HE.out.over
      clear HE HF hst hsu h0 hnf
      generalize stepsM c n (newM c, own) = r at *
      have a8 : wr.cell? ⟨G, 8, none⟩ = some (.bool true) := by rw [AX.out.cell 8, ← ho]; rfl
      clear ho
      go_wp2_with (first
        | (with_reducible refine ld_mach G AX.out _ rfl rfl rfl ?_)
        | (with_reducible refine st_mach (w.heap.size + 1) HR.out rfl rfl _ _ rfl rfl rfl rfl ?_))
      exact bodyPost_ret (v := .tuple #[.agg (mA r.1 sA sn sc oA on oc), .slice bA' bn' bc', .int .i64 (n : Int)]) (res3_mach rfl _ _ (w.heap.size + 1) _ _ rfl rfl rfl (Bk.setRow HR.out _)) rfl
        ⟨_, _, _, _, _, _, _, _, _, rfl, AM.out.setRow AO.out _, below_row HB.out (by omega) _⟩

set_option maxHeartbeats 4000000 in
theorem rsome_any (c : Cmd) (own : Blks) (n : Nat) (most : Int) (bA : Option Addr) (bn bc : Nat) (w : World) (hC : CmIn w c ra nr rc wa nw wc aa na ac ca nc cc) (hO : Sl w 8 bA bn bc (blksW own)) (hn : n ≤ 1000) (hmo : -9223372036854775808 ≤ most ∧ most ≤ 9223372036854775807) (hE : Ends c (newM c, own) n)
    (hfit : ∀ k, k < n → Fit c (stepsM c k (newM c, own)).1 (stepsM c k (newM c, own)).2) :
    Calls Try.prog 12 #[cmV ra nr rc wa nw wc aa na ac c.fuel ca nc cc, .slice bA bn bc, .int .i64 most] w (WPost (stepsM c most.toNat (newM c, own)) w) := by
  have W1 := Lib.hid (bnext (below_alloc1 w (CmObj ra nr rc wa nw wc aa na ac c.fuel ca nc cc)) (below_alloc1 _ (.cells mZ 32)))
  have C1 : Hid (Bk ((w.alloc (CmObj ra nr rc wa nw wc aa na ac c.fuel ca nc cc)).alloc (.cells mZ 32)) w.heap.size 25 #[.slice ra nr rc, .slice wa nw wc, .slice aa na ac, .int .i64 c.fuel, .slice ca nc cc]) := Lib.hid ((Bk.new w _ _).alloc _)
  have R1 : Hid (Bk ((w.alloc (CmObj ra nr rc wa nw wc aa na ac c.fuel ca nc cc)).alloc (.cells mZ 32)) (w.heap.size + 1) 32 mZ) := Lib.hid (by
    have := Bk.new (w.alloc (CmObj ra nr rc wa nw wc aa na ac c.fuel ca nc cc)) 32 mZ
    rwa [World.size_alloc] at this)
  have hnw := Lib.hid (fun W => rmnew_any ra nr rc wa nw wc aa na ac c.fuel ca nc cc W)
  have HF := Lib.hid hfit
  have HE := Lib.hid hE
  have HC := Lib.hid hC
  have HO := Lib.hid hO
  have hst := Lib.hid (fun (r : Mac × Blks) (hf : Fit c r.1 r.2) (W : World) (hW : Below w.heap.size w W) (sA : Option Addr) (sn sc : Nat) (oA : Option Addr) (on oc : Nat) (bA : Option Addr) (bn bc : Nat) hM => rstep_any ra nr rc wa nw wc aa na ac ca nc cc sA sn sc oA on oc bA bn bc c r.1 r.2 W hf (hC.below hW) hM)
  have hsu := Lib.hid (fun k => steps_succ c k (newM c, own))
  have h0 := Lib.hid (show stepsM c 0 (newM c, own) = (newM c, own) from rfl)
  have hnf := Lib.hid (show (newM c).fuel = c.fuel from rfl)
  have hm1 := hmo.1
  have hm2 := hmo.2
  obtain ⟨rF, hrF⟩ : ∃ r, r = stepsM c most.toNat (newM c, own) := ⟨_, rfl⟩
  rw [← hrF]
  have HRF := Lib.hid hrF
  clear hrF
  clear hfit hC hO hE hmo
  go_enter Try.func12, Try.ntmps12
  go_wp2_with (first
    | (go_at_call 22; go_must ((with_reducible refine (hnw.out _).mono ?_); rintro e w1 ⟨rfl, hb1⟩; have B1 := Lib.hid (bnext W1.out hb1); have C2 := Lib.hid (C1.out.below hb1); have R2 := Lib.hid (R1.out.below hb1); have N2 := Lib.hid (Bk.new w1 32 mZ); clear hb1))
    | (with_reducible refine st_mach w1.heap.size N2.out rfl rfl _ _ rfl rfl rfl rfl ?_))
  obtain ⟨G, hG⟩ : ∃ G, G = w1.heap.size := ⟨_, rfl⟩
  have hGw : w.heap.size + 1 < G := by rw [hG]; exact R2.out.lt
  have AT : Hid (MAt G (w.heap.size + 1) (stepsM c 0 (newM c, own)) bA bn bc ((w1.alloc (.cells mZ 32)).setRow w1.heap.size (mC 0 c.fuel (.slice none 0 0) 0 0 0 0 (.slice none 0 0) false 0))) := Lib.hid (by
    rw [h0.out, hG]
    refine ⟨none, 0, 0, none, 0, 0, Bk.setRow N2.out _, MIn.setRow ⟨⟨rfl, Nat.le_refl _, fun _ => ⟨rfl, rfl⟩, fun h => absurd h (by omega)⟩, ⟨rfl, Nat.le_refl _, fun _ => ⟨rfl, rfl⟩, fun h => absurd h (by omega)⟩, HO.out.below (bnext B1.out (below_alloc1 _ _))⟩ ?_ _, ?_, ?_⟩
    all_goals exact ⟨fun h => absurd h (by omega), fun h => absurd h (by omega), fun hn b off he => by
      obtain ⟨b', off', e, hb, _⟩ := HO.out.2.2.2 hn
      rw [he] at e
      injection e with e
      injection e with e
      have := hGw
      omega⟩)
  have C3 : Hid (Bk ((w1.alloc (.cells mZ 32)).setRow w1.heap.size (mC 0 c.fuel (.slice none 0 0) 0 0 0 0 (.slice none 0 0) false 0)) w.heap.size 25 #[.slice ra nr rc, .slice wa nw wc, .slice aa na ac, .int .i64 c.fuel, .slice ca nc cc]) := Lib.hid ((C2.out.alloc _).farRow (by omega) _)
  have R3 : Hid (Bk ((w1.alloc (.cells mZ 32)).setRow w1.heap.size (mC 0 c.fuel (.slice none 0 0) 0 0 0 0 (.slice none 0 0) false 0)) (w.heap.size + 1) 32 mZ) := Lib.hid ((R2.out.alloc _).farRow (by omega) _)
  have B3 : Hid (Below w.heap.size w ((w1.alloc (.cells mZ 32)).setRow w1.heap.size (mC 0 c.fuel (.slice none 0 0) 0 0 0 0 (.slice none 0 0) false 0))) := Lib.hid (below_row (bnext B1.out (below_alloc1 _ _)) (by omega) _)
  rw [← hG] at AT C3 R3 B3 ⊢
  clear hG C2 R2 N2 B1 C1 R1 W1 hnw
  go_loopw [9, 1] (fun ii ss wr => ∃ (k : Nat) (bA : Option Addr) (bn bc : Nat), k ≤ n ∧ k ≤ most.toNat ∧ ii = .int .i64 (k : Int) ∧ ss = .slice bA bn bc ∧ Hid (Below w.heap.size w wr) ∧ Hid (MAt G (w.heap.size + 1) (stepsM c k (newM c, own)) bA bn bc wr) ∧ Hid (Bk wr w.heap.size 25 #[.slice ra nr rc, .slice wa nw wc, .slice aa na ac, .int .i64 c.fuel, .slice ca nc cc]) ∧ Hid (Bk wr (w.heap.size + 1) 32 mZ)) (fun ii _ _ => n + 1 - (intOf ii).toNat)
  case atStart => exact ⟨0, _, _, _, Nat.zero_le _, Nat.zero_le _, rfl, rfl, B3, AT, C3, R3⟩
  case round =>
    clear AT C3 R3 B3
    obtain ⟨k, bA', bn', bc', hk, hkm, rfl, rfl, HB, HA, HCm, HR⟩ := hrel
    obtain ⟨sA, sn, sc, oA, on, oc, ax, am, ag, ao⟩ := HA.out
    have AX := Lib.hid ax
    have AM := Lib.hid am
    have AO := Lib.hid ao
    have AG := Lib.hid ag
    clear ax am ao ag HA
    obtain ⟨f0, f1, f2, f3, f4, ff⟩ := HCm.out.cmd
    have fl := HCm.out.lt
    have al := AX.out.lt
    by_cases hgo : (k : Int) < most
    · have d1 : (k : Int) < most := by omega
      by_cases hlt : k < n
      · skip
        have hs1 := hst.out _ (HF.out k hlt) wr HB.out sA sn sc oA on oc bA' bn' bc' AM.out
        have hk1 := Lib.hid (hsu.out k)
        have ho := HE.out.first k hlt
        clear HE HF hst hsu h0 hnf
        generalize stepsM c k (newM c, own) = r at *
        have a8 : wr.cell? ⟨G, 8, none⟩ = some (.bool false) := by rw [AX.out.cell 8, ← ho]; rfl
        clear ho
        obtain ⟨r', hr'⟩ : ∃ r', r' = stepM c r.1 r.2 := ⟨_, rfl⟩
        rw [← hr'] at hs1
        have hr2 : Hid (stepsM c (k + 1) (newM c, own) = r') := Lib.hid (by rw [hk1.out, hr'])
        have HS := Lib.hid hs1
        clear hs1 hr' hk1
        go_wp2_with (first
          | (with_reducible refine ld_mach G AX.out _ rfl rfl rfl ?_)
          | (go_at_call 18; go_must ((with_reducible refine HS.out.mono ?_); rintro e w3 ⟨sA3, sn3, sc3, oA3, on3, oc3, bA3, bn3, bc3, rfl, m3, b3, o3⟩; have M3 := Lib.hid m3; have B3 := Lib.hid b3; have O3 := Lib.hid (o3 G AX.out.lt AG.out); have O4 := Lib.hid (o3 (w.heap.size + 1) HR.out.lt AO.out); have X3 := Lib.hid (AX.out.below b3); have C3 := Lib.hid (HCm.out.below b3); have R3 := Lib.hid (HR.out.below b3); clear m3 b3 o3))
          | (with_reducible refine st_mach G X3.out rfl rfl _ _ rfl rfl rfl rfl ?_))
        go_roundw
        case rel =>
          refine ⟨k + 1, bA3, bn3, bc3, by omega, by omega, by go_num, rfl, Lib.hid (below_row (bnext HB.out B3.out) (by omega) _), Lib.hid ?_, Lib.hid (C3.out.farRow (by omega) _), Lib.hid (R3.out.farRow (by omega) _)⟩
          rw [hr2.out]
          exact ⟨sA3, sn3, sc3, oA3, on3, oc3, Bk.setRow X3.out _, M3.out.setRow O3.out _, O3.out, O4.out⟩
        case measure => simp [intOf]; omega
      · obtain rfl : n = k := by omega
        have he : stepsM c most.toNat (newM c, own) = stepsM c n (newM c, own) := by
          obtain ⟨j, hj⟩ := Nat.exists_eq_add_of_le hkm
          rw [hj, steps_add, steps_over HE.out.over]
        have hF : Hid (rF = stepsM c n (newM c, own)) := Lib.hid (HRF.out.trans he)
        clear he hlt HRF
        have ho := HE.out.over
        clear HE HF hst hsu h0 hnf
        generalize stepsM c n (newM c, own) = r at *
        have a8 : wr.cell? ⟨G, 8, none⟩ = some (.bool true) := by rw [AX.out.cell 8, ← ho]; rfl
        clear ho
        go_wp2_with (first
          | (with_reducible refine ld_mach G AX.out _ rfl rfl rfl ?_)
          | (with_reducible refine st_mach (w.heap.size + 1) HR.out rfl rfl _ _ rfl rfl rfl rfl ?_))
        exact bodyPost_ret (v := .tuple #[.agg (mA r.1 sA sn sc oA on oc), .slice bA' bn' bc']) (res2_mach rfl _ _ (w.heap.size + 1) _ rfl rfl (Bk.setRow HR.out _)) rfl
          (by rw [hF.out]; exact ⟨_, _, _, _, _, _, _, _, _, rfl, AM.out.setRow AO.out _, below_row HB.out (by omega) _⟩)
    · have hF : Hid (rF = stepsM c k (newM c, own)) := Lib.hid (by rw [HRF.out, show most.toNat = k by omega])
      clear HRF
      have d1 : decide ((k : Int) < most) = false := decide_eq_false (by omega)
      have d2 : decide ((k : Int) < most) = false := decide_eq_false (by omega)
      clear hgo HE HF hst hsu h0 hnf
      generalize stepsM c k (newM c, own) = r at *
      go_wp2_with (first
        | (with_reducible refine ld_mach G AX.out _ rfl rfl rfl ?_)
        | (with_reducible refine st_mach (w.heap.size + 1) HR.out rfl rfl _ _ rfl rfl rfl rfl ?_))
      exact bodyPost_ret (v := .tuple #[.agg (mA r.1 sA sn sc oA on oc), .slice bA' bn' bc']) (res2_mach rfl _ _ (w.heap.size + 1) _ rfl rfl (Bk.setRow HR.out _)) rfl
        (by rw [hF.out]; exact ⟨_, _, _, _, _, _, _, _, _, rfl, AM.out.setRow AO.out _, below_row HB.out (by omega) _⟩)

end
end Go.Proofs.Ytoomadafgkcebaa
