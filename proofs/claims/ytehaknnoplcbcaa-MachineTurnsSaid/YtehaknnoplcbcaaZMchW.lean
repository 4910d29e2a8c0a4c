/-
  What layer 10's laws' went answers: so many steps, in whatever memory. No conditions but those that stand there.
-/
import Derived.Test.YtehaknnoplcbcaaZMchN
namespace Go.Proofs.Ytehaknnoplcbcaa
open Go.RowKit

abbrev mA (m : Mac) (sA : Option Addr) (sn sc : Nat) (oA : Option Addr) (on oc : Nat) : Array Value :=
  mC m.pc m.fuel (.slice sA sn sc) (rg m.regs 0) (rg m.regs 1) (rg m.regs 2) (rg m.regs 3) (.slice oA on oc) m.over m.told

/-- a machine in block G, its lists elsewhere; its blocks. -/
def MAt (G G2 : Nat) (r : Mac × Blks) (bA : Option Addr) (bn bc : Nat) (w : World) : Prop :=
  ∃ sA sn sc oA on oc, Bk w G 32 (mA r.1 sA sn sc oA on oc) ∧ MIn w r.1.stack r.1.out r.2 sA sn sc oA on oc bA bn bc ∧ off3 G sA sn oA on bA bn ∧ off3 G2 sA sn oA on bA bn

/-- what so many steps answer. -/
def WPost (r : Mac × Blks) (w : World) (e : Ending) (w' : World) : Prop :=
  ∃ sA sn sc oA on oc bA bn bc, e = .returned (.tuple #[.agg (mA r.1 sA sn sc oA on oc), .slice bA bn bc]) ∧ MIn w' r.1.stack r.1.out r.2 sA sn sc oA on oc bA bn bc ∧ Below w.heap.size w w'

section
variable (ra : Option Addr) (nr rc : Nat) (wa : Option Addr) (nw wc : Nat) (aa : Option Addr) (na ac : Nat) (ca : Option Addr) (nc cc : Nat)

set_option maxHeartbeats 2000000 in
theorem went_any (c : Cmd) (own : Blks) (n : Nat) (bA : Option Addr) (bn bc : Nat) (w : World) (hC : CmIn w c ra nr rc wa nw wc aa na ac ca nc cc) (hO : Sl w 8 bA bn bc (blksW own)) (hn : n ≤ 1000)
    (hfit : ∀ k, k < n → Fit c (stepsM c k (newM c, own)).1 (stepsM c k (newM c, own)).2) :
    Calls Try.prog 17 #[cmV ra nr rc wa nw wc aa na ac c.fuel ca nc cc, .slice bA bn bc, .int .i64 (n : Int)] w (WPost (stepsM c n (newM c, own)) w) := by
  have W1 := Lib.hid (bnext (below_alloc1 w (CmObj ra nr rc wa nw wc aa na ac c.fuel ca nc cc)) (below_alloc1 _ (.cells mZ 32)))
  have C1 : Hid (Bk ((w.alloc (CmObj ra nr rc wa nw wc aa na ac c.fuel ca nc cc)).alloc (.cells mZ 32)) w.heap.size 25 #[.slice ra nr rc, .slice wa nw wc, .slice aa na ac, .int .i64 c.fuel, .slice ca nc cc]) := Lib.hid ((Bk.new w _ _).alloc _)
  have R1 : Hid (Bk ((w.alloc (CmObj ra nr rc wa nw wc aa na ac c.fuel ca nc cc)).alloc (.cells mZ 32)) (w.heap.size + 1) 32 mZ) := Lib.hid (by
    have := Bk.new (w.alloc (CmObj ra nr rc wa nw wc aa na ac c.fuel ca nc cc)) 32 mZ
    rwa [World.size_alloc] at this)
  have hnw := Lib.hid (fun W => mnew_any ra nr rc wa nw wc aa na ac c.fuel ca nc cc W)
  have HF := Lib.hid hfit
  have HC := Lib.hid hC
  have HO := Lib.hid hO
  have hst := Lib.hid (fun (r : Mac × Blks) (hf : Fit c r.1 r.2) (W : World) (hW : Below w.heap.size w W) (sA : Option Addr) (sn sc : Nat) (oA : Option Addr) (on oc : Nat) (bA : Option Addr) (bn bc : Nat) hM => step_any ra nr rc wa nw wc aa na ac ca nc cc sA sn sc oA on oc bA bn bc c r.1 r.2 W hf (hC.below hW) hM)
  have hsu := Lib.hid (fun k => steps_succ c k (newM c, own))
  have h0 := Lib.hid (show stepsM c 0 (newM c, own) = (newM c, own) from rfl)
  have hnf := Lib.hid (show (newM c).fuel = c.fuel from rfl)
  clear hfit hC hO
  go_enter Try.func17, Try.ntmps17
  go_wp2_with (first
    | (go_at_call 11; go_must ((with_reducible refine (hnw.out _).mono ?_); rintro e w1 ⟨rfl, hb1⟩; have B1 := Lib.hid (bnext W1.out hb1); have C2 := Lib.hid (C1.out.below hb1); have R2 := Lib.hid (R1.out.below hb1); have N2 := Lib.hid (Bk.new w1 32 mZ); clear hb1))
    | (with_reducible refine st_mach w1.heap.size N2.out rfl rfl _ _ rfl rfl rfl rfl ?_))
  obtain ⟨G, hG⟩ : ∃ G, G = w1.heap.size := ⟨_, rfl⟩
  have hGw : w.heap.size + 1 < G := by rw [hG]; exact R2.out.lt
  have AT : Hid (MAt G (w.heap.size + 1) (stepsM c 0 (newM c, own)) bA bn bc ((w1.alloc (.cells mZ 32)).setRow w1.heap.size (mC 0 c.fuel (.slice none 0 0) 0 0 0 0 (.slice none 0 0) false 0))) := Lib.hid (by
    rw [h0.out, hG]
    refine ⟨none, 0, 0, none, 0, 0, Bk.setRow N2.out _, MIn.setRow ⟨⟨rfl, Nat.le_refl _, fun _ => ⟨rfl, rfl⟩, fun h => absurd h (by omega)⟩, ⟨rfl, Nat.le_refl _, fun _ => ⟨rfl, rfl⟩, fun h => absurd h (by omega)⟩, HO.out.below (bnext B1.out (below_alloc1 _ _))⟩ ?_ _, ?_, ?_⟩
    all_goals exact ⟨fun h => absurd h (by omega), fun h => absurd h (by omega), fun hn b off he => by
      obtain ⟨b', off', e, hb, _⟩ := HO.out.2.2.2 hn
      rw [he] at e
      injection e with e
      injection e with e
      have := hGw
      omega⟩)
  have C3 : Hid (Bk ((w1.alloc (.cells mZ 32)).setRow w1.heap.size (mC 0 c.fuel (.slice none 0 0) 0 0 0 0 (.slice none 0 0) false 0)) w.heap.size 25 #[.slice ra nr rc, .slice wa nw wc, .slice aa na ac, .int .i64 c.fuel, .slice ca nc cc]) := Lib.hid ((C2.out.alloc _).farRow (by omega) _)
  have R3 : Hid (Bk ((w1.alloc (.cells mZ 32)).setRow w1.heap.size (mC 0 c.fuel (.slice none 0 0) 0 0 0 0 (.slice none 0 0) false 0)) (w.heap.size + 1) 32 mZ) := Lib.hid ((R2.out.alloc _).farRow (by omega) _)
  have B3 : Hid (Below w.heap.size w ((w1.alloc (.cells mZ 32)).setRow w1.heap.size (mC 0 c.fuel (.slice none 0 0) 0 0 0 0 (.slice none 0 0) false 0))) := Lib.hid (below_row (bnext B1.out (below_alloc1 _ _)) (by omega) _)
  rw [← hG] at AT C3 R3 B3 ⊢
  clear hG C2 R2 N2 B1 C1 R1 W1 hnw
  go_loopw [9, 1] (fun ii ss wr => ∃ (k : Nat) (bA : Option Addr) (bn bc : Nat), k ≤ n ∧ ii = .int .i64 k ∧ ss = .slice bA bn bc ∧ Hid (Below w.heap.size w wr) ∧ Hid (MAt G (w.heap.size + 1) (stepsM c k (newM c, own)) bA bn bc wr) ∧ Hid (Bk wr w.heap.size 25 #[.slice ra nr rc, .slice wa nw wc, .slice aa na ac, .int .i64 c.fuel, .slice ca nc cc]) ∧ Hid (Bk wr (w.heap.size + 1) 32 mZ)) (fun ii _ _ => n - (intOf ii).toNat)
  case atStart => exact ⟨0, _, _, _, Nat.zero_le _, rfl, rfl, B3, AT, C3, R3⟩
  case round =>
    clear AT C3 R3 B3
    obtain ⟨k, bA', bn', bc', hk, rfl, rfl, HB, HA, HCm, HR⟩ := hrel
    obtain ⟨sA, sn, sc, oA, on, oc, ax, am, -, ao⟩ := HA.out
    have AX := Lib.hid ax
    have AM := Lib.hid am
    have AO := Lib.hid ao
    clear ax am ao HA
    obtain ⟨f0, f1, f2, f3, f4, ff⟩ := HCm.out.cmd
    have fl := HCm.out.lt
    by_cases hlt : k < n
    · have d1 : (k : Int) < (n : Int) := by omega
      have hs1 := hst.out _ (HF.out k hlt) wr HB.out sA sn sc oA on oc bA' bn' bc' AM.out
      have hk1 := Lib.hid (hsu.out k)
      generalize stepsM c k (newM c, own) = r at *
      obtain ⟨r', hr'⟩ : ∃ r', r' = stepM c r.1 r.2 := ⟨_, rfl⟩
      rw [← hr'] at hs1
      have hr2 : Hid (stepsM c (k + 1) (newM c, own) = r') := Lib.hid (by rw [hk1.out, hr'])
      have HS := Lib.hid hs1
      clear hs1 hr' hk1
      go_wp2_with (first
        | (with_reducible refine ld_mach G AX.out _ rfl rfl rfl ?_)
        | (go_at_call 13; go_must ((with_reducible refine HS.out.mono ?_); rintro e w3 ⟨sA3, sn3, sc3, oA3, on3, oc3, bA3, bn3, bc3, rfl, m3, b3, o3⟩; have M3 := Lib.hid m3; have B3 := Lib.hid b3; have O3 := Lib.hid (o3 G AX.out.lt); have O4 := Lib.hid (o3 (w.heap.size + 1) HR.out.lt); have X3 := Lib.hid (AX.out.below b3); have C3 := Lib.hid (HCm.out.below b3); have R3 := Lib.hid (HR.out.below b3); clear m3 b3 o3))
        | (with_reducible refine st_mach G X3.out rfl rfl _ _ rfl rfl rfl rfl ?_))
      go_roundw
      case rel =>
        refine ⟨k + 1, bA3, bn3, bc3, by omega, by go_num, rfl, Lib.hid (below_row (bnext HB.out B3.out) (by omega) _), Lib.hid ?_, Lib.hid (C3.out.farRow (by omega) _), Lib.hid (R3.out.farRow (by omega) _)⟩
        rw [hr2.out]
        exact ⟨sA3, sn3, sc3, oA3, on3, oc3, Bk.setRow X3.out _, M3.out.setRow O3.out _, O3.out, O4.out⟩
      case measure => simp [intOf]; omega
    · obtain rfl : n = k := by omega
      clear hlt hst hsu HF h0 hnf
      generalize stepsM c n (newM c, own) = r at *
      go_wp2_with (first
        | (with_reducible refine ld_mach G AX.out _ rfl rfl rfl ?_)
        | (with_reducible refine st_mach (w.heap.size + 1) HR.out rfl rfl _ _ rfl rfl rfl rfl ?_))
      exact bodyPost_ret (v := .tuple #[.agg (mA r.1 sA sn sc oA on oc), .slice bA' bn' bc']) (res2_mach rfl _ _ (w.heap.size + 1) _ rfl rfl (Bk.setRow HR.out _)) rfl
        ⟨_, _, _, _, _, _, _, _, _, rfl, AM.out.setRow AO.out _, below_row HB.out (by omega) _⟩

end
end Go.Proofs.Ytehaknnoplcbcaa
