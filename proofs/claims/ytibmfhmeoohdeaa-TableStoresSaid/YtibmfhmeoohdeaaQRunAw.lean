/-
  Words and contracts of this claim, 6 texts laid into one, each under its own remark. No conditions but those that stand at each.
-/
import Derived.Test.YtibmfhmeoohdeaaQMchM
import Derived.Test.YtibmfhmeoohdeaaQRowT
import Derived.Test.YtibmfhmeoohdeaaZRunQ

/-
  What run.Whole answers: all steps, in whatever memory. No conditions but those that stand there.
-/
namespace Go.Proofs.Ytibmfhmeoohdeaa
open Go.RowKit

/-- what all steps answer. -/
def RunPost (r : Mac × Blks) (n : Nat) (w : World) (e : Ending) (w' : World) : Prop :=
  ∃ sA sn sc oA on oc bA bn bc, e = .returned (.tuple #[.agg (mA r.1 sA sn sc oA on oc), .slice bA bn bc, .int .i64 (n : Int)]) ∧ MIn w' r.1.stack r.1.out r.2 sA sn sc oA on oc bA bn bc ∧ Below w.heap.size w w'

theorem res3_row {fn : Func} {p q s : Tmp} {ty : TypeId} (h : fn.results = #[.cell p ty, .tmp q, .tmp s]) (tmps : Array Value) (w : World) (g : Nat) (cs : Array Value) (x y : Value)
    (hp : tmps.getD p undef = .pointer (some ⟨g, 0, none⟩)) (hq : tmps.getD q undef = x) (hs : tmps.getD s undef = y) (hl : (loadVar ty ⟨g, 0, none⟩).run Try.prog w = .ok (.agg cs) w) :
    (results fn tmps).run Try.prog w = .ok (.tuple #[.agg cs, x, y]) w := by
  have hp' : tmps[p]?.getD undef = .pointer (some ⟨g, 0, none⟩) := by simpa using hp
  have hq' : tmps[q]?.getD undef = x := by simpa using hq
  have hs' : tmps[s]?.getD undef = y := by simpa using hs
  simp [results, h, hp', hq', hs', asAddr, hl]

theorem res3_mach {fn : Func} {p q s : Tmp} (hf : fn.results = #[.cell p 54, .tmp q, .tmp s]) (tmps : Array Value) (w : World) (g : Nat) {pc fuel : Int} {S : Value} {r0 r1 r2 r3 : Int} {O : Value} {ov : Bool} {e0 : Int} (x y : Value)
    (hp : tmps.getD p undef = .pointer (some ⟨g, 0, none⟩)) (hq : tmps.getD q undef = x) (hs : tmps.getD s undef = y) (hk : Bk w g 54 (mC pc fuel S r0 r1 r2 r3 O ov e0)) : (results fn tmps).run Try.prog w = .ok (.tuple #[.agg (mC pc fuel S r0 r1 r2 r3 O ov e0), x, y]) w :=
  res3_row hf tmps w g _ x y hp hq hs (run_loadVar_row w g _ _ _ (0, 0) _ hk Try.underlying54 rfl infoMc)

section
variable (ra : Option Addr) (nr rc : Nat) (wa : Option Addr) (nw wc : Nat) (aa : Option Addr) (na ac : Nat) (ca : Option Addr) (nc cc : Nat)

set_option maxHeartbeats 4000000 in
theorem whole_any (c : Cmd) (own : Blks) (n : Nat) (bA : Option Addr) (bn bc : Nat) (w : World) (hC : CmIn w c ra nr rc wa nw wc aa na ac ca nc cc) (hO : Sl w 8 bA bn bc (blksW own)) (hn : n ≤ 1000) (hE : Ends c (newM c, own) n)
    (hfit : ∀ k, k < n → Fit c (stepsM c k (newM c, own)).1 (stepsM c k (newM c, own)).2) :
    Calls Try.prog 22 #[cmV ra nr rc wa nw wc aa na ac c.fuel ca nc cc, .slice bA bn bc] w (RunPost (stepsM c n (newM c, own)) n w) := by
  have W1 := Lib.hid (bnext (below_alloc1 w (CmObj ra nr rc wa nw wc aa na ac c.fuel ca nc cc)) (below_alloc1 _ (.cells mZ 54)))
  have C1 : Hid (Bk ((w.alloc (CmObj ra nr rc wa nw wc aa na ac c.fuel ca nc cc)).alloc (.cells mZ 54)) w.heap.size 26 #[.slice ra nr rc, .slice wa nw wc, .slice aa na ac, .int .i64 c.fuel, .slice ca nc cc]) := Lib.hid ((Bk.new w _ _).alloc _)
  have R1 : Hid (Bk ((w.alloc (CmObj ra nr rc wa nw wc aa na ac c.fuel ca nc cc)).alloc (.cells mZ 54)) (w.heap.size + 1) 54 mZ) := Lib.hid (by
    have := Bk.new (w.alloc (CmObj ra nr rc wa nw wc aa na ac c.fuel ca nc cc)) 54 mZ
    rwa [World.size_alloc] at this)
  have hnw := Lib.hid (fun W => mnew_any ra nr rc wa nw wc aa na ac c.fuel ca nc cc W)
  have HF := Lib.hid hfit
  have HE := Lib.hid hE
  have HC := Lib.hid hC
  have HO := Lib.hid hO
  have hst := Lib.hid (fun (r : Mac × Blks) (hf : Fit c r.1 r.2) (W : World) (hW : Below w.heap.size w W) (sA : Option Addr) (sn sc : Nat) (oA : Option Addr) (on oc : Nat) (bA : Option Addr) (bn bc : Nat) hM => step_any ra nr rc wa nw wc aa na ac ca nc cc sA sn sc oA on oc bA bn bc c r.1 r.2 W hf (hC.below hW) hM)
  have hsu := Lib.hid (fun k => steps_succ c k (newM c, own))
  have h0 := Lib.hid (show stepsM c 0 (newM c, own) = (newM c, own) from rfl)
  have hnf := Lib.hid (show (newM c).fuel = c.fuel from rfl)
  clear hfit hC hO hE
  go_enter Try.func22, Try.ntmps22
  go_wp2_with (first
    | (go_at_call 33; go_must ((with_reducible refine (hnw.out _).mono ?_); rintro e w1 ⟨rfl, hb1⟩; have B1 := Lib.hid (bnext W1.out hb1); have C2 := Lib.hid (C1.out.below hb1); have R2 := Lib.hid (R1.out.below hb1); have N2 := Lib.hid (Bk.new w1 54 mZ); clear hb1))
    | (with_reducible refine st_mach w1.heap.size N2.out rfl rfl _ _ rfl rfl rfl rfl ?_))
  obtain ⟨G, hG⟩ : ∃ G, G = w1.heap.size := ⟨_, rfl⟩
  have hGw : w.heap.size + 1 < G := by rw [hG]; exact R2.out.lt
  have AT : Hid (MAt G (w.heap.size + 1) (stepsM c 0 (newM c, own)) bA bn bc ((w1.alloc (.cells mZ 54)).setRow w1.heap.size (mC 0 c.fuel (.slice none 0 0) 0 0 0 0 (.slice none 0 0) false 0))) := Lib.hid (by
    rw [h0.out, hG]
    refine ⟨none, 0, 0, none, 0, 0, Bk.setRow N2.out _, MIn.setRow ⟨⟨rfl, Nat.le_refl _, fun _ => ⟨rfl, rfl⟩, fun h => absurd h (by omega)⟩, ⟨rfl, Nat.le_refl _, fun _ => ⟨rfl, rfl⟩, fun h => absurd h (by omega)⟩, HO.out.below (bnext B1.out (below_alloc1 _ _))⟩ ?_ _, ?_, ?_⟩
    all_goals exact ⟨fun h => absurd h (by omega), fun h => absurd h (by omega), fun hn b off he => by
      obtain ⟨b', off', e, hb, _⟩ := HO.out.2.2.2 hn
      rw [he] at e
      injection e with e
      injection e with e
      have := hGw
      omega⟩)
  have C3 : Hid (Bk ((w1.alloc (.cells mZ 54)).setRow w1.heap.size (mC 0 c.fuel (.slice none 0 0) 0 0 0 0 (.slice none 0 0) false 0)) w.heap.size 26 #[.slice ra nr rc, .slice wa nw wc, .slice aa na ac, .int .i64 c.fuel, .slice ca nc cc]) := Lib.hid ((C2.out.alloc _).farRow (by omega) _)
  have R3 : Hid (Bk ((w1.alloc (.cells mZ 54)).setRow w1.heap.size (mC 0 c.fuel (.slice none 0 0) 0 0 0 0 (.slice none 0 0) false 0)) (w.heap.size + 1) 54 mZ) := Lib.hid ((R2.out.alloc _).farRow (by omega) _)
  have B3 : Hid (Below w.heap.size w ((w1.alloc (.cells mZ 54)).setRow w1.heap.size (mC 0 c.fuel (.slice none 0 0) 0 0 0 0 (.slice none 0 0) false 0))) := Lib.hid (below_row (bnext B1.out (below_alloc1 _ _)) (by omega) _)
  rw [← hG] at AT C3 R3 B3 ⊢
  clear hG C2 R2 N2 B1 C1 R1 W1 hnw
  go_loopw [8, 1] (fun ii ss wr => ∃ (k : Nat) (bA : Option Addr) (bn bc : Nat), k ≤ n ∧ ii = .int .i64 (k : Int) ∧ ss = .slice bA bn bc ∧ Hid (Below w.heap.size w wr) ∧ Hid (MAt G (w.heap.size + 1) (stepsM c k (newM c, own)) bA bn bc wr) ∧ Hid (Bk wr w.heap.size 26 #[.slice ra nr rc, .slice wa nw wc, .slice aa na ac, .int .i64 c.fuel, .slice ca nc cc]) ∧ Hid (Bk wr (w.heap.size + 1) 54 mZ)) (fun ii _ _ => n - (intOf ii).toNat)
  case atStart => exact ⟨0, _, _, _, Nat.zero_le _, rfl, rfl, B3, AT, C3, R3⟩
  case round =>
    clear AT C3 R3 B3
    obtain ⟨k, bA', bn', bc', hk, rfl, rfl, HB, HA, HCm, HR⟩ := hrel
    obtain ⟨sA, sn, sc, oA, on, oc, ax, am, ag, ao⟩ := HA.out
    have AX := Lib.hid ax
    have AM := Lib.hid am
    have AO := Lib.hid ao
    have AG := Lib.hid ag
    clear ax am ao ag HA
    obtain ⟨f0, f1, f2, f3, f4, ff⟩ := HCm.out.cmd
    have fl := HCm.out.lt
    have al := AX.out.lt
    by_cases hlt : k < n
    · skip
      have hs1 := hst.out _ (HF.out k hlt) wr HB.out sA sn sc oA on oc bA' bn' bc' AM.out
      have hk1 := Lib.hid (hsu.out k)
      have ho := HE.out.first k hlt
      clear HE HF hst hsu h0 hnf
      generalize stepsM c k (newM c, own) = r at *
      have a8 : wr.cell? ⟨G, 8, none⟩ = some (.bool false) := by rw [AX.out.cell 8, ← ho]; rfl
      clear ho
      obtain ⟨r', hr'⟩ : ∃ r', r' = stepM c r.1 r.2 := ⟨_, rfl⟩
      rw [← hr'] at hs1
      have hr2 : Hid (stepsM c (k + 1) (newM c, own) = r') := Lib.hid (by rw [hk1.out, hr'])
      have HS := Lib.hid hs1
      clear hs1 hr' hk1
      go_wp2_with (first
        | (with_reducible refine ld_mach G AX.out _ rfl rfl rfl ?_)
        | (go_at_call 34; go_must ((with_reducible refine HS.out.mono ?_); rintro e w3 ⟨sA3, sn3, sc3, oA3, on3, oc3, bA3, bn3, bc3, rfl, m3, b3, o3⟩; have M3 := Lib.hid m3; have B3 := Lib.hid b3; have O3 := Lib.hid (o3 G AX.out.lt); have O4 := Lib.hid (o3 (w.heap.size + 1) HR.out.lt); have X3 := Lib.hid (AX.out.below b3); have C3 := Lib.hid (HCm.out.below b3); have R3 := Lib.hid (HR.out.below b3); clear m3 b3 o3))
        | (with_reducible refine st_mach G X3.out rfl rfl _ _ rfl rfl rfl rfl ?_))
      go_roundw
      case rel =>
        refine ⟨k + 1, bA3, bn3, bc3, by omega, by go_num, rfl, Lib.hid (below_row (bnext HB.out B3.out) (by omega) _), Lib.hid ?_, Lib.hid (C3.out.farRow (by omega) _), Lib.hid (R3.out.farRow (by omega) _)⟩
        rw [hr2.out]
        exact ⟨sA3, sn3, sc3, oA3, on3, oc3, Bk.setRow X3.out _, M3.out.setRow O3.out _, O3.out, O4.out⟩
      case measure => simp [intOf]; omega
    · obtain rfl : n = k := by omega
      clear hlt
      have ho := HE.out.over
      clear HE HF hst hsu h0 hnf
      generalize stepsM c n (newM c, own) = r at *
      have a8 : wr.cell? ⟨G, 8, none⟩ = some (.bool true) := by rw [AX.out.cell 8, ← ho]; rfl
      clear ho
      go_wp2_with (first
        | (with_reducible refine ld_mach G AX.out _ rfl rfl rfl ?_)
        | (with_reducible refine st_mach (w.heap.size + 1) HR.out rfl rfl _ _ rfl rfl rfl rfl ?_))
      exact bodyPost_ret (v := .tuple #[.agg (mA r.1 sA sn sc oA on oc), .slice bA' bn' bc', .int .i64 (n : Int)]) (res3_mach rfl _ _ (w.heap.size + 1) _ _ rfl rfl rfl (Bk.setRow HR.out _)) rfl
        ⟨_, _, _, _, _, _, _, _, _, rfl, AM.out.setRow AO.out _, below_row HB.out (by omega) _⟩

end
end Go.Proofs.Ytibmfhmeoohdeaa

/-
  What run.Whole answers lies in no block that was there ahead of it, unless its own blocks do. No conditions but those that stand there.
-/
namespace Go.Proofs.Ytibmfhmeoohdeaa
open Go.RowKit

/-- a machine in block G, its lists elsewhere, and in no block that was there, unless its own blocks were; its blocks. -/
def MAu (G G2 N : Nat) (A0 : Option Addr) (n0 : Nat) (r : Mac × Blks) (bA : Option Addr) (bn bc : Nat) (w : World) : Prop :=
  ∃ sA sn sc oA on oc, Bk w G 54 (mA r.1 sA sn sc oA on oc) ∧ MIn w r.1.stack r.1.out r.2 sA sn sc oA on oc bA bn bc ∧ off3 G sA sn oA on bA bn ∧ off3 G2 sA sn oA on bA bn ∧ ∀ g, g < N → offA g A0 n0 → off3 g sA sn oA on bA bn

/-- what all steps answer, and where it doesn't lie. -/
def RunPostO (A0 : Option Addr) (n0 : Nat) (r : Mac × Blks) (n : Nat) (w : World) (e : Ending) (w' : World) : Prop :=
  ∃ sA sn sc oA on oc bA bn bc, e = .returned (.tuple #[.agg (mA r.1 sA sn sc oA on oc), .slice bA bn bc, .int .i64 (n : Int)]) ∧ MIn w' r.1.stack r.1.out r.2 sA sn sc oA on oc bA bn bc ∧ Below w.heap.size w w' ∧ ∀ g, g < w.heap.size → offA g A0 n0 → off3 g sA sn oA on bA bn

section
variable (ra : Option Addr) (nr rc : Nat) (wa : Option Addr) (nw wc : Nat) (aa : Option Addr) (na ac : Nat) (ca : Option Addr) (nc cc : Nat)

set_option maxHeartbeats 4000000 in
theorem whole_off (c : Cmd) (own : Blks) (n : Nat) (bA : Option Addr) (bn bc : Nat) (w : World) (hC : CmIn w c ra nr rc wa nw wc aa na ac ca nc cc) (hO : Sl w 8 bA bn bc (blksW own)) (A0 : Option Addr) (n0 : Nat) (hA0 : A0 = bA) (hn0 : n0 = bn) (hn : n ≤ 1000) (hE : Ends c (newM c, own) n)
    (hfit : ∀ k, k < n → Fit c (stepsM c k (newM c, own)).1 (stepsM c k (newM c, own)).2) :
    Calls Try.prog 22 #[cmV ra nr rc wa nw wc aa na ac c.fuel ca nc cc, .slice bA bn bc] w (RunPostO A0 n0 (stepsM c n (newM c, own)) n w) := by
  have W1 := Lib.hid (bnext (below_alloc1 w (CmObj ra nr rc wa nw wc aa na ac c.fuel ca nc cc)) (below_alloc1 _ (.cells mZ 54)))
  have C1 : Hid (Bk ((w.alloc (CmObj ra nr rc wa nw wc aa na ac c.fuel ca nc cc)).alloc (.cells mZ 54)) w.heap.size 26 #[.slice ra nr rc, .slice wa nw wc, .slice aa na ac, .int .i64 c.fuel, .slice ca nc cc]) := Lib.hid ((Bk.new w _ _).alloc _)
  have R1 : Hid (Bk ((w.alloc (CmObj ra nr rc wa nw wc aa na ac c.fuel ca nc cc)).alloc (.cells mZ 54)) (w.heap.size + 1) 54 mZ) := Lib.hid (by
    have := Bk.new (w.alloc (CmObj ra nr rc wa nw wc aa na ac c.fuel ca nc cc)) 54 mZ
    rwa [World.size_alloc] at this)
  have hnw := Lib.hid (fun W => mnew_any ra nr rc wa nw wc aa na ac c.fuel ca nc cc W)
  have HA0 := Lib.hid hA0
  have HN0 := Lib.hid hn0
  clear hA0 hn0
  have HF := Lib.hid hfit
  have HE := Lib.hid hE
  have HC := Lib.hid hC
  have HO := Lib.hid hO
  have hst := Lib.hid (fun (r : Mac × Blks) (hf : Fit c r.1 r.2) (W : World) (hW : Below w.heap.size w W) (sA : Option Addr) (sn sc : Nat) (oA : Option Addr) (on oc : Nat) (bA : Option Addr) (bn bc : Nat) hM => step_any ra nr rc wa nw wc aa na ac ca nc cc sA sn sc oA on oc bA bn bc c r.1 r.2 W hf (hC.below hW) hM)
  have hsu := Lib.hid (fun k => steps_succ c k (newM c, own))
  have h0 := Lib.hid (show stepsM c 0 (newM c, own) = (newM c, own) from rfl)
  have hnf := Lib.hid (show (newM c).fuel = c.fuel from rfl)
  clear hfit hC hO hE
  go_enter Try.func22, Try.ntmps22
  go_wp2_with (first
    | (go_at_call 33; go_must ((with_reducible refine (hnw.out _).mono ?_); rintro e w1 ⟨rfl, hb1⟩; have B1 := Lib.hid (bnext W1.out hb1); have C2 := Lib.hid (C1.out.below hb1); have R2 := Lib.hid (R1.out.below hb1); have N2 := Lib.hid (Bk.new w1 54 mZ); clear hb1))
    | (with_reducible refine st_mach w1.heap.size N2.out rfl rfl _ _ rfl rfl rfl rfl ?_))
  obtain ⟨G, hG⟩ : ∃ G, G = w1.heap.size := ⟨_, rfl⟩
  have hGw : w.heap.size + 1 < G := by rw [hG]; exact R2.out.lt
  have AT : Hid (MAu G (w.heap.size + 1) w.heap.size A0 n0 (stepsM c 0 (newM c, own)) bA bn bc ((w1.alloc (.cells mZ 54)).setRow w1.heap.size (mC 0 c.fuel (.slice none 0 0) 0 0 0 0 (.slice none 0 0) false 0))) := Lib.hid (by
    rw [h0.out, hG]
    refine ⟨none, 0, 0, none, 0, 0, Bk.setRow N2.out _, MIn.setRow ⟨⟨rfl, Nat.le_refl _, fun _ => ⟨rfl, rfl⟩, fun h => absurd h (by omega)⟩, ⟨rfl, Nat.le_refl _, fun _ => ⟨rfl, rfl⟩, fun h => absurd h (by omega)⟩, HO.out.below (bnext B1.out (below_alloc1 _ _))⟩ ?_ _, ?_, ?_, fun _ _ ho => ⟨fun h => absurd h (by omega), fun h => absurd h (by omega), by rw [HA0.out, HN0.out] at ho; exact ho⟩⟩
    all_goals exact ⟨fun h => absurd h (by omega), fun h => absurd h (by omega), fun hn b off he => by
      obtain ⟨b', off', e, hb, _⟩ := HO.out.2.2.2 hn
      rw [he] at e
      injection e with e
      injection e with e
      have := hGw
      omega⟩)
  have C3 : Hid (Bk ((w1.alloc (.cells mZ 54)).setRow w1.heap.size (mC 0 c.fuel (.slice none 0 0) 0 0 0 0 (.slice none 0 0) false 0)) w.heap.size 26 #[.slice ra nr rc, .slice wa nw wc, .slice aa na ac, .int .i64 c.fuel, .slice ca nc cc]) := Lib.hid ((C2.out.alloc _).farRow (by omega) _)
  have R3 : Hid (Bk ((w1.alloc (.cells mZ 54)).setRow w1.heap.size (mC 0 c.fuel (.slice none 0 0) 0 0 0 0 (.slice none 0 0) false 0)) (w.heap.size + 1) 54 mZ) := Lib.hid ((R2.out.alloc _).farRow (by omega) _)
  have B3 : Hid (Below w.heap.size w ((w1.alloc (.cells mZ 54)).setRow w1.heap.size (mC 0 c.fuel (.slice none 0 0) 0 0 0 0 (.slice none 0 0) false 0))) := Lib.hid (below_row (bnext B1.out (below_alloc1 _ _)) (by omega) _)
  rw [← hG] at AT C3 R3 B3 ⊢
  clear hG C2 R2 N2 B1 C1 R1 W1 hnw
  go_loopw [8, 1] (fun ii ss wr => ∃ (k : Nat) (bA : Option Addr) (bn bc : Nat), k ≤ n ∧ ii = .int .i64 (k : Int) ∧ ss = .slice bA bn bc ∧ Hid (Below w.heap.size w wr) ∧ Hid (MAu G (w.heap.size + 1) w.heap.size A0 n0 (stepsM c k (newM c, own)) bA bn bc wr) ∧ Hid (Bk wr w.heap.size 26 #[.slice ra nr rc, .slice wa nw wc, .slice aa na ac, .int .i64 c.fuel, .slice ca nc cc]) ∧ Hid (Bk wr (w.heap.size + 1) 54 mZ)) (fun ii _ _ => n - (intOf ii).toNat)
  case atStart => exact ⟨0, _, _, _, Nat.zero_le _, rfl, rfl, B3, AT, C3, R3⟩
  case round =>
    clear AT C3 R3 B3
    obtain ⟨k, bA', bn', bc', hk, rfl, rfl, HB, HA, HCm, HR⟩ := hrel
    obtain ⟨sA, sn, sc, oA, on, oc, ax, am, ag, ao, au⟩ := HA.out
    have AX := Lib.hid ax
    have AM := Lib.hid am
    have AO := Lib.hid ao
    have AU := Lib.hid au
    have AG := Lib.hid ag
    clear au ax am ao ag HA
    obtain ⟨f0, f1, f2, f3, f4, ff⟩ := HCm.out.cmd
    have fl := HCm.out.lt
    have al := AX.out.lt
    by_cases hlt : k < n
    · skip
      have hs1 := hst.out _ (HF.out k hlt) wr HB.out sA sn sc oA on oc bA' bn' bc' AM.out
      have hk1 := Lib.hid (hsu.out k)
      have ho := HE.out.first k hlt
      clear HE HF hst hsu h0 hnf
      generalize stepsM c k (newM c, own) = r at *
      have a8 : wr.cell? ⟨G, 8, none⟩ = some (.bool false) := by rw [AX.out.cell 8, ← ho]; rfl
      clear ho
      obtain ⟨r', hr'⟩ : ∃ r', r' = stepM c r.1 r.2 := ⟨_, rfl⟩
      rw [← hr'] at hs1
      have hr2 : Hid (stepsM c (k + 1) (newM c, own) = r') := Lib.hid (by rw [hk1.out, hr'])
      have HS := Lib.hid hs1
      clear hs1 hr' hk1
      go_wp2_with (first
        | (with_reducible refine ld_mach G AX.out _ rfl rfl rfl ?_)
        | (go_at_call 34; go_must ((with_reducible refine HS.out.mono ?_); rintro e w3 ⟨sA3, sn3, sc3, oA3, on3, oc3, bA3, bn3, bc3, rfl, m3, b3, o3⟩; have M3 := Lib.hid m3; have B3 := Lib.hid b3; have O3 := Lib.hid (o3 G AX.out.lt); have O4 := Lib.hid (o3 (w.heap.size + 1) HR.out.lt); have O5 : Hid (∀ g, g < w.heap.size → offA g A0 n0 → off3 g sA3 sn3 oA3 on3 bA3 bn3) := Lib.hid (fun g hg ho => o3 g (by have := HB.out.size; omega)); have X3 := Lib.hid (AX.out.below b3); have C3 := Lib.hid (HCm.out.below b3); have R3 := Lib.hid (HR.out.below b3); clear m3 b3 o3))
        | (with_reducible refine st_mach G X3.out rfl rfl _ _ rfl rfl rfl rfl ?_))
      go_roundw
      case rel =>
        refine ⟨k + 1, bA3, bn3, bc3, by omega, by go_num, rfl, Lib.hid (below_row (bnext HB.out B3.out) (by omega) _), Lib.hid ?_, Lib.hid (C3.out.farRow (by omega) _), Lib.hid (R3.out.farRow (by omega) _)⟩
        rw [hr2.out]
        exact ⟨sA3, sn3, sc3, oA3, on3, oc3, Bk.setRow X3.out _, M3.out.setRow O3.out _, O3.out, O4.out, O5.out⟩
      case measure => simp [intOf]; omega
    · obtain rfl : n = k := by omega
      clear hlt
      have ho := HE.out.over
      clear HE HF hst hsu h0 hnf
      generalize stepsM c n (newM c, own) = r at *
      have a8 : wr.cell? ⟨G, 8, none⟩ = some (.bool true) := by rw [AX.out.cell 8, ← ho]; rfl
      clear ho
      go_wp2_with (first
        | (with_reducible refine ld_mach G AX.out _ rfl rfl rfl ?_)
        | (with_reducible refine st_mach (w.heap.size + 1) HR.out rfl rfl _ _ rfl rfl rfl rfl ?_))
      exact bodyPost_ret (v := .tuple #[.agg (mA r.1 sA sn sc oA on oc), .slice bA' bn' bc', .int .i64 (n : Int)]) (res3_mach rfl _ _ (w.heap.size + 1) _ _ rfl rfl rfl (Bk.setRow HR.out _)) rfl
        ⟨_, _, _, _, _, _, _, _, _, rfl, AM.out.setRow AO.out _, below_row HB.out (by omega) _, AU.out⟩

end
end Go.Proofs.Ytibmfhmeoohdeaa

/-
  What foremanref11.Whole answers: all steps, in whatever memory. No conditions but those that stand there.
-/
namespace Go.Proofs.Ytibmfhmeoohdeaa
open Go.RowKit

section
variable (ra : Option Addr) (nr rc : Nat) (wa : Option Addr) (nw wc : Nat) (aa : Option Addr) (na ac : Nat) (ca : Option Addr) (nc cc : Nat)

set_option maxHeartbeats 4000000 in
theorem rwhole_any (c : Cmd) (own : Blks) (n : Nat) (bA : Option Addr) (bn bc : Nat) (w : World) (hC : CmIn w c ra nr rc wa nw wc aa na ac ca nc cc) (hO : Sl w 8 bA bn bc (blksW own)) (hn : n ≤ 1000) (hE : Ends c (newM c, own) n)
    (hfit : ∀ k, k < n → Fit c (stepsM c k (newM c, own)).1 (stepsM c k (newM c, own)).2) :
    Calls Try.prog 25 #[cmV ra nr rc wa nw wc aa na ac c.fuel ca nc cc, .slice bA bn bc] w (RunPost (stepsM c n (newM c, own)) n w) := by
  have W1 := Lib.hid (bnext (below_alloc1 w (CmObj ra nr rc wa nw wc aa na ac c.fuel ca nc cc)) (below_alloc1 _ (.cells mZ 54)))
  have C1 : Hid (Bk ((w.alloc (CmObj ra nr rc wa nw wc aa na ac c.fuel ca nc cc)).alloc (.cells mZ 54)) w.heap.size 26 #[.slice ra nr rc, .slice wa nw wc, .slice aa na ac, .int .i64 c.fuel, .slice ca nc cc]) := Lib.hid ((Bk.new w _ _).alloc _)
  have R1 : Hid (Bk ((w.alloc (CmObj ra nr rc wa nw wc aa na ac c.fuel ca nc cc)).alloc (.cells mZ 54)) (w.heap.size + 1) 54 mZ) := Lib.hid (by
    have := Bk.new (w.alloc (CmObj ra nr rc wa nw wc aa na ac c.fuel ca nc cc)) 54 mZ
    rwa [World.size_alloc] at this)
  have hnw := Lib.hid (fun W => rmnew_any ra nr rc wa nw wc aa na ac c.fuel ca nc cc W)
  have HF := Lib.hid hfit
  have HE := Lib.hid hE
  have HC := Lib.hid hC
  have HO := Lib.hid hO
  have hst := Lib.hid (fun (r : Mac × Blks) (hf : Fit c r.1 r.2) (W : World) (hW : Below w.heap.size w W) (sA : Option Addr) (sn sc : Nat) (oA : Option Addr) (on oc : Nat) (bA : Option Addr) (bn bc : Nat) hM => rstep_any ra nr rc wa nw wc aa na ac ca nc cc sA sn sc oA on oc bA bn bc c r.1 r.2 W hf (hC.below hW) hM)
  have hsu := Lib.hid (fun k => steps_succ c k (newM c, own))
  have h0 := Lib.hid (show stepsM c 0 (newM c, own) = (newM c, own) from rfl)
  have hnf := Lib.hid (show (newM c).fuel = c.fuel from rfl)
  clear hfit hC hO hE
  go_enter Try.func25, Try.ntmps25
  go_wp2_with (first
    | (go_at_call 36; go_must ((with_reducible refine (hnw.out _).mono ?_); rintro e w1 ⟨rfl, hb1⟩; have B1 := Lib.hid (bnext W1.out hb1); have C2 := Lib.hid (C1.out.below hb1); have R2 := Lib.hid (R1.out.below hb1); have N2 := Lib.hid (Bk.new w1 54 mZ); clear hb1))
    | (with_reducible refine st_mach w1.heap.size N2.out rfl rfl _ _ rfl rfl rfl rfl ?_))
  obtain ⟨G, hG⟩ : ∃ G, G = w1.heap.size := ⟨_, rfl⟩
  have hGw : w.heap.size + 1 < G := by rw [hG]; exact R2.out.lt
  have AT : Hid (MAt G (w.heap.size + 1) (stepsM c 0 (newM c, own)) bA bn bc ((w1.alloc (.cells mZ 54)).setRow w1.heap.size (mC 0 c.fuel (.slice none 0 0) 0 0 0 0 (.slice none 0 0) false 0))) := Lib.hid (by
    rw [h0.out, hG]
    refine ⟨none, 0, 0, none, 0, 0, Bk.setRow N2.out _, MIn.setRow ⟨⟨rfl, Nat.le_refl _, fun _ => ⟨rfl, rfl⟩, fun h => absurd h (by omega)⟩, ⟨rfl, Nat.le_refl _, fun _ => ⟨rfl, rfl⟩, fun h => absurd h (by omega)⟩, HO.out.below (bnext B1.out (below_alloc1 _ _))⟩ ?_ _, ?_, ?_⟩
    all_goals exact ⟨fun h => absurd h (by omega), fun h => absurd h (by omega), fun hn b off he => by
      obtain ⟨b', off', e, hb, _⟩ := HO.out.2.2.2 hn
      rw [he] at e
      injection e with e
      injection e with e
      have := hGw
      omega⟩)
  have C3 : Hid (Bk ((w1.alloc (.cells mZ 54)).setRow w1.heap.size (mC 0 c.fuel (.slice none 0 0) 0 0 0 0 (.slice none 0 0) false 0)) w.heap.size 26 #[.slice ra nr rc, .slice wa nw wc, .slice aa na ac, .int .i64 c.fuel, .slice ca nc cc]) := Lib.hid ((C2.out.alloc _).farRow (by omega) _)
  have R3 : Hid (Bk ((w1.alloc (.cells mZ 54)).setRow w1.heap.size (mC 0 c.fuel (.slice none 0 0) 0 0 0 0 (.slice none 0 0) false 0)) (w.heap.size + 1) 54 mZ) := Lib.hid ((R2.out.alloc _).farRow (by omega) _)
  have B3 : Hid (Below w.heap.size w ((w1.alloc (.cells mZ 54)).setRow w1.heap.size (mC 0 c.fuel (.slice none 0 0) 0 0 0 0 (.slice none 0 0) false 0))) := Lib.hid (below_row (bnext B1.out (below_alloc1 _ _)) (by omega) _)
  rw [← hG] at AT C3 R3 B3 ⊢
  clear hG C2 R2 N2 B1 C1 R1 W1 hnw
  go_loopw [8, 1] (fun ii ss wr => ∃ (k : Nat) (bA : Option Addr) (bn bc : Nat), k ≤ n ∧ ii = .int .i64 (k : Int) ∧ ss = .slice bA bn bc ∧ Hid (Below w.heap.size w wr) ∧ Hid (MAt G (w.heap.size + 1) (stepsM c k (newM c, own)) bA bn bc wr) ∧ Hid (Bk wr w.heap.size 26 #[.slice ra nr rc, .slice wa nw wc, .slice aa na ac, .int .i64 c.fuel, .slice ca nc cc]) ∧ Hid (Bk wr (w.heap.size + 1) 54 mZ)) (fun ii _ _ => n - (intOf ii).toNat)
  case atStart => exact ⟨0, _, _, _, Nat.zero_le _, rfl, rfl, B3, AT, C3, R3⟩
  case round =>
    clear AT C3 R3 B3
    obtain ⟨k, bA', bn', bc', hk, rfl, rfl, HB, HA, HCm, HR⟩ := hrel
    obtain ⟨sA, sn, sc, oA, on, oc, ax, am, ag, ao⟩ := HA.out
    have AX := Lib.hid ax
    have AM := Lib.hid am
    have AO := Lib.hid ao
    have AG := Lib.hid ag
    clear ax am ao ag HA
    obtain ⟨f0, f1, f2, f3, f4, ff⟩ := HCm.out.cmd
    have fl := HCm.out.lt
    have al := AX.out.lt
    by_cases hlt : k < n
    · skip
      have hs1 := hst.out _ (HF.out k hlt) wr HB.out sA sn sc oA on oc bA' bn' bc' AM.out
      have hk1 := Lib.hid (hsu.out k)
      have ho := HE.out.first k hlt
      clear HE HF hst hsu h0 hnf
      generalize stepsM c k (newM c, own) = r at *
      have a8 : wr.cell? ⟨G, 8, none⟩ = some (.bool false) := by rw [AX.out.cell 8, ← ho]; rfl
      clear ho
      obtain ⟨r', hr'⟩ : ∃ r', r' = stepM c r.1 r.2 := ⟨_, rfl⟩
      rw [← hr'] at hs1
      have hr2 : Hid (stepsM c (k + 1) (newM c, own) = r') := Lib.hid (by rw [hk1.out, hr'])
      have HS := Lib.hid hs1
      clear hs1 hr' hk1
      go_wp2_with (first
        | (with_reducible refine ld_mach G AX.out _ rfl rfl rfl ?_)
        | (go_at_call 37; go_must ((with_reducible refine HS.out.mono ?_); rintro e w3 ⟨sA3, sn3, sc3, oA3, on3, oc3, bA3, bn3, bc3, rfl, m3, b3, o3⟩; have M3 := Lib.hid m3; have B3 := Lib.hid b3; have O3 := Lib.hid (o3 G AX.out.lt AG.out); have O4 := Lib.hid (o3 (w.heap.size + 1) HR.out.lt AO.out); have X3 := Lib.hid (AX.out.below b3); have C3 := Lib.hid (HCm.out.below b3); have R3 := Lib.hid (HR.out.below b3); clear m3 b3 o3))
        | (with_reducible refine st_mach G X3.out rfl rfl _ _ rfl rfl rfl rfl ?_))
      go_roundw
      case rel =>
        refine ⟨k + 1, bA3, bn3, bc3, by omega, by go_num, rfl, Lib.hid (below_row (bnext HB.out B3.out) (by omega) _), Lib.hid ?_, Lib.hid (C3.out.farRow (by omega) _), Lib.hid (R3.out.farRow (by omega) _)⟩
        rw [hr2.out]
        exact ⟨sA3, sn3, sc3, oA3, on3, oc3, Bk.setRow X3.out _, M3.out.setRow O3.out _, O3.out, O4.out⟩
      case measure => simp [intOf]; omega
    · obtain rfl : n = k := by omega
      clear hlt
      have ho := HE.out.over
      clear HE HF hst hsu h0 hnf
      generalize stepsM c n (newM c, own) = r at *
      have a8 : wr.cell? ⟨G, 8, none⟩ = some (.bool true) := by rw [AX.out.cell 8, ← ho]; rfl
      clear ho
      go_wp2_with (first
        | (with_reducible refine ld_mach G AX.out _ rfl rfl rfl ?_)
        | (with_reducible refine st_mach (w.heap.size + 1) HR.out rfl rfl _ _ rfl rfl rfl rfl ?_))
      exact bodyPost_ret (v := .tuple #[.agg (mA r.1 sA sn sc oA on oc), .slice bA' bn' bc', .int .i64 (n : Int)]) (res3_mach rfl _ _ (w.heap.size + 1) _ _ rfl rfl rfl (Bk.setRow HR.out _)) rfl
        ⟨_, _, _, _, _, _, _, _, _, rfl, AM.out.setRow AO.out _, below_row HB.out (by omega) _⟩

end
end Go.Proofs.Ytibmfhmeoohdeaa

/-
  What foremanref11.Whole answers lies in no block that was there ahead of it, unless its own blocks do. No conditions but those that stand there.
-/
namespace Go.Proofs.Ytibmfhmeoohdeaa
open Go.RowKit

section
variable (ra : Option Addr) (nr rc : Nat) (wa : Option Addr) (nw wc : Nat) (aa : Option Addr) (na ac : Nat) (ca : Option Addr) (nc cc : Nat)

set_option maxHeartbeats 4000000 in
theorem rwhole_off (c : Cmd) (own : Blks) (n : Nat) (bA : Option Addr) (bn bc : Nat) (w : World) (hC : CmIn w c ra nr rc wa nw wc aa na ac ca nc cc) (hO : Sl w 8 bA bn bc (blksW own)) (A0 : Option Addr) (n0 : Nat) (hA0 : A0 = bA) (hn0 : n0 = bn) (hn : n ≤ 1000) (hE : Ends c (newM c, own) n)
    (hfit : ∀ k, k < n → Fit c (stepsM c k (newM c, own)).1 (stepsM c k (newM c, own)).2) :
    Calls Try.prog 25 #[cmV ra nr rc wa nw wc aa na ac c.fuel ca nc cc, .slice bA bn bc] w (RunPostO A0 n0 (stepsM c n (newM c, own)) n w) := by
  have W1 := Lib.hid (bnext (below_alloc1 w (CmObj ra nr rc wa nw wc aa na ac c.fuel ca nc cc)) (below_alloc1 _ (.cells mZ 54)))
  have C1 : Hid (Bk ((w.alloc (CmObj ra nr rc wa nw wc aa na ac c.fuel ca nc cc)).alloc (.cells mZ 54)) w.heap.size 26 #[.slice ra nr rc, .slice wa nw wc, .slice aa na ac, .int .i64 c.fuel, .slice ca nc cc]) := Lib.hid ((Bk.new w _ _).alloc _)
  have R1 : Hid (Bk ((w.alloc (CmObj ra nr rc wa nw wc aa na ac c.fuel ca nc cc)).alloc (.cells mZ 54)) (w.heap.size + 1) 54 mZ) := Lib.hid (by
    have := Bk.new (w.alloc (CmObj ra nr rc wa nw wc aa na ac c.fuel ca nc cc)) 54 mZ
    rwa [World.size_alloc] at this)
  have hnw := Lib.hid (fun W => rmnew_any ra nr rc wa nw wc aa na ac c.fuel ca nc cc W)
  have HA0 := Lib.hid hA0
  have HN0 := Lib.hid hn0
  clear hA0 hn0
  have HF := Lib.hid hfit
  have HE := Lib.hid hE
  have HC := Lib.hid hC
  have HO := Lib.hid hO
  have hst := Lib.hid (fun (r : Mac × Blks) (hf : Fit c r.1 r.2) (W : World) (hW : Below w.heap.size w W) (sA : Option Addr) (sn sc : Nat) (oA : Option Addr) (on oc : Nat) (bA : Option Addr) (bn bc : Nat) hM => rstep_any ra nr rc wa nw wc aa na ac ca nc cc sA sn sc oA on oc bA bn bc c r.1 r.2 W hf (hC.below hW) hM)
  have hsu := Lib.hid (fun k => steps_succ c k (newM c, own))
  have h0 := Lib.hid (show stepsM c 0 (newM c, own) = (newM c, own) from rfl)
  have hnf := Lib.hid (show (newM c).fuel = c.fuel from rfl)
  clear hfit hC hO hE
  go_enter Try.func25, Try.ntmps25
  go_wp2_with (first
    | (go_at_call 36; go_must ((with_reducible refine (hnw.out _).mono ?_); rintro e w1 ⟨rfl, hb1⟩; have B1 := Lib.hid (bnext W1.out hb1); have C2 := Lib.hid (C1.out.below hb1); have R2 := Lib.hid (R1.out.below hb1); have N2 := Lib.hid (Bk.new w1 54 mZ); clear hb1))
    | (with_reducible refine st_mach w1.heap.size N2.out rfl rfl _ _ rfl rfl rfl rfl ?_))
  obtain ⟨G, hG⟩ : ∃ G, G = w1.heap.size := ⟨_, rfl⟩
  have hGw : w.heap.size + 1 < G := by rw [hG]; exact R2.out.lt
  have AT : Hid (MAu G (w.heap.size + 1) w.heap.size A0 n0 (stepsM c 0 (newM c, own)) bA bn bc ((w1.alloc (.cells mZ 54)).setRow w1.heap.size (mC 0 c.fuel (.slice none 0 0) 0 0 0 0 (.slice none 0 0) false 0))) := Lib.hid (by
    rw [h0.out, hG]
    refine ⟨none, 0, 0, none, 0, 0, Bk.setRow N2.out _, MIn.setRow ⟨⟨rfl, Nat.le_refl _, fun _ => ⟨rfl, rfl⟩, fun h => absurd h (by omega)⟩, ⟨rfl, Nat.le_refl _, fun _ => ⟨rfl, rfl⟩, fun h => absurd h (by omega)⟩, HO.out.below (bnext B1.out (below_alloc1 _ _))⟩ ?_ _, ?_, ?_, fun _ _ ho => ⟨fun h => absurd h (by omega), fun h => absurd h (by omega), by rw [HA0.out, HN0.out] at ho; exact ho⟩⟩
    all_goals exact ⟨fun h => absurd h (by omega), fun h => absurd h (by omega), fun hn b off he => by
      obtain ⟨b', off', e, hb, _⟩ := HO.out.2.2.2 hn
      rw [he] at e
      injection e with e
      injection e with e
      have := hGw
      omega⟩)
  have C3 : Hid (Bk ((w1.alloc (.cells mZ 54)).setRow w1.heap.size (mC 0 c.fuel (.slice none 0 0) 0 0 0 0 (.slice none 0 0) false 0)) w.heap.size 26 #[.slice ra nr rc, .slice wa nw wc, .slice aa na ac, .int .i64 c.fuel, .slice ca nc cc]) := Lib.hid ((C2.out.alloc _).farRow (by omega) _)
  have R3 : Hid (Bk ((w1.alloc (.cells mZ 54)).setRow w1.heap.size (mC 0 c.fuel (.slice none 0 0) 0 0 0 0 (.slice none 0 0) false 0)) (w.heap.size + 1) 54 mZ) := Lib.hid ((R2.out.alloc _).farRow (by omega) _)
  have B3 : Hid (Below w.heap.size w ((w1.alloc (.cells mZ 54)).setRow w1.heap.size (mC 0 c.fuel (.slice none 0 0) 0 0 0 0 (.slice none 0 0) false 0))) := Lib.hid (below_row (bnext B1.out (below_alloc1 _ _)) (by omega) _)
  rw [← hG] at AT C3 R3 B3 ⊢
  clear hG C2 R2 N2 B1 C1 R1 W1 hnw
  go_loopw [8, 1] (fun ii ss wr => ∃ (k : Nat) (bA : Option Addr) (bn bc : Nat), k ≤ n ∧ ii = .int .i64 (k : Int) ∧ ss = .slice bA bn bc ∧ Hid (Below w.heap.size w wr) ∧ Hid (MAu G (w.heap.size + 1) w.heap.size A0 n0 (stepsM c k (newM c, own)) bA bn bc wr) ∧ Hid (Bk wr w.heap.size 26 #[.slice ra nr rc, .slice wa nw wc, .slice aa na ac, .int .i64 c.fuel, .slice ca nc cc]) ∧ Hid (Bk wr (w.heap.size + 1) 54 mZ)) (fun ii _ _ => n - (intOf ii).toNat)
  case atStart => exact ⟨0, _, _, _, Nat.zero_le _, rfl, rfl, B3, AT, C3, R3⟩
  case round =>
    clear AT C3 R3 B3
    obtain ⟨k, bA', bn', bc', hk, rfl, rfl, HB, HA, HCm, HR⟩ := hrel
    obtain ⟨sA, sn, sc, oA, on, oc, ax, am, ag, ao, au⟩ := HA.out
    have AX := Lib.hid ax
    have AM := Lib.hid am
    have AO := Lib.hid ao
    have AU := Lib.hid au
    have AG := Lib.hid ag
    clear au ax am ao ag HA
    obtain ⟨f0, f1, f2, f3, f4, ff⟩ := HCm.out.cmd
    have fl := HCm.out.lt
    have al := AX.out.lt
    by_cases hlt : k < n
    · skip
      have hs1 := hst.out _ (HF.out k hlt) wr HB.out sA sn sc oA on oc bA' bn' bc' AM.out
      have hk1 := Lib.hid (hsu.out k)
      have ho := HE.out.first k hlt
      clear HE HF hst hsu h0 hnf
      generalize stepsM c k (newM c, own) = r at *
      have a8 : wr.cell? ⟨G, 8, none⟩ = some (.bool false) := by rw [AX.out.cell 8, ← ho]; rfl
      clear ho
      obtain ⟨r', hr'⟩ : ∃ r', r' = stepM c r.1 r.2 := ⟨_, rfl⟩
      rw [← hr'] at hs1
      have hr2 : Hid (stepsM c (k + 1) (newM c, own) = r') := Lib.hid (by rw [hk1.out, hr'])
      have HS := Lib.hid hs1
      clear hs1 hr' hk1
      go_wp2_with (first
        | (with_reducible refine ld_mach G AX.out _ rfl rfl rfl ?_)
        | (go_at_call 37; go_must ((with_reducible refine HS.out.mono ?_); rintro e w3 ⟨sA3, sn3, sc3, oA3, on3, oc3, bA3, bn3, bc3, rfl, m3, b3, o3⟩; have M3 := Lib.hid m3; have B3 := Lib.hid b3; have O3 := Lib.hid (o3 G AX.out.lt AG.out); have O4 := Lib.hid (o3 (w.heap.size + 1) HR.out.lt AO.out); have O5 : Hid (∀ g, g < w.heap.size → offA g A0 n0 → off3 g sA3 sn3 oA3 on3 bA3 bn3) := Lib.hid (fun g hg ho => o3 g (by have := HB.out.size; omega) (AU.out g hg ho)); have X3 := Lib.hid (AX.out.below b3); have C3 := Lib.hid (HCm.out.below b3); have R3 := Lib.hid (HR.out.below b3); clear m3 b3 o3))
        | (with_reducible refine st_mach G X3.out rfl rfl _ _ rfl rfl rfl rfl ?_))
      go_roundw
      case rel =>
        refine ⟨k + 1, bA3, bn3, bc3, by omega, by go_num, rfl, Lib.hid (below_row (bnext HB.out B3.out) (by omega) _), Lib.hid ?_, Lib.hid (C3.out.farRow (by omega) _), Lib.hid (R3.out.farRow (by omega) _)⟩
        rw [hr2.out]
        exact ⟨sA3, sn3, sc3, oA3, on3, oc3, Bk.setRow X3.out _, M3.out.setRow O3.out _, O3.out, O4.out, O5.out⟩
      case measure => simp [intOf]; omega
    · obtain rfl : n = k := by omega
      clear hlt
      have ho := HE.out.over
      clear HE HF hst hsu h0 hnf
      generalize stepsM c n (newM c, own) = r at *
      have a8 : wr.cell? ⟨G, 8, none⟩ = some (.bool true) := by rw [AX.out.cell 8, ← ho]; rfl
      clear ho
      go_wp2_with (first
        | (with_reducible refine ld_mach G AX.out _ rfl rfl rfl ?_)
        | (with_reducible refine st_mach (w.heap.size + 1) HR.out rfl rfl _ _ rfl rfl rfl rfl ?_))
      exact bodyPost_ret (v := .tuple #[.agg (mA r.1 sA sn sc oA on oc), .slice bA' bn' bc', .int .i64 (n : Int)]) (res3_mach rfl _ _ (w.heap.size + 1) _ _ rfl rfl rfl (Bk.setRow HR.out _)) rfl
        ⟨_, _, _, _, _, _, _, _, _, rfl, AM.out.setRow AO.out _, below_row HB.out (by omega) _, AU.out⟩

end
end Go.Proofs.Ytibmfhmeoohdeaa

/-
  What run.Whole, and the reference's, answer of a command that may be, with its machine taken apart. No conditions but those that stand there.
-/
namespace Go.Proofs.Ytibmfhmeoohdeaa
open Go.RowKit

/-- a machine, blocks and a number. -/
def XPost (pc fuel : Int) (st : List Int) (r0 r1 r2 r3 : Int) (ou : List Int) (ov : Bool) (e0 : Int) (own : Blks) (n : Nat) (w : World) (e : Ending) (w' : World) : Prop :=
  ∃ sA sn sc oA on oc bA bn bc, e = .returned (.tuple #[.agg (mC pc fuel (.slice sA sn sc) r0 r1 r2 r3 (.slice oA on oc) ov e0), .slice bA bn bc, .int .i64 (n : Int)]) ∧ MIn w' st ou own sA sn sc oA on oc bA bn bc ∧ Below w.heap.size w w'
/-- a machine and blocks. -/
def YPost (pc fuel : Int) (st : List Int) (r0 r1 r2 r3 : Int) (ou : List Int) (ov : Bool) (e0 : Int) (own : Blks) (w : World) (e : Ending) (w' : World) : Prop :=
  ∃ sA sn sc oA on oc bA bn bc, e = .returned (.tuple #[.agg (mC pc fuel (.slice sA sn sc) r0 r1 r2 r3 (.slice oA on oc) ov e0), .slice bA bn bc]) ∧ MIn w' st ou own sA sn sc oA on oc bA bn bc ∧ Below w.heap.size w w'

/-- behind so many steps. -/
structure RunsTo (c : Cmd) (own : Blks) (n : Nat) (pc f : Int) (st regs ou : List Int) (ov : Bool) (to : Nat) (bl : Blks) : Prop where
  is : stepsM c n (newM c, own) = (⟨pc, f, st, regs, ou, ov, to⟩, bl)
  deep : st.length ≤ 8
  out : ou.length ≤ 8
  cells : ∀ b ∈ bl, b.length = 8
  many : bl.length = own.length

theorem runs_to {c : Cmd} {own : Blks} (hm : MayBe c) (hown : own.length = c.reads.length + c.writes.length) (h8 : ∀ b ∈ own, b.length = 8) (n : Nat) :
    ∃ pc f st regs ou ov to bl, RunsTo c own n pc f st regs ou ov to bl := by
  obtain ⟨d, hd⟩ := hm.depths
  have h := steps_ok hm hd (r := (newM c, own)) (new_ok hm hd hown h8) n
  obtain ⟨⟨⟨pc, f, st, regs, ou, ov, to⟩, bl⟩, hr⟩ : ∃ r, r = stepsM c n (newM c, own) := ⟨_, rfl⟩
  rw [← hr] at h
  exact ⟨pc, f, st, regs, ou, ov, to, bl, hr.symm, h.deep, h.out, h.cells, by rw [h.many, hown]⟩

/-- its end. -/
theorem run_ends {c : Cmd} {own : Blks} (hm : MayBe c) (hown : own.length = c.reads.length + c.writes.length) (h8 : ∀ b ∈ own, b.length = 8) :
    ∃ n pc f st regs ou to bl, Ends c (newM c, own) n ∧ RunsTo c own n pc f st regs ou true to bl ∧ 1 ≤ n ∧ n ≤ 201 ∧ (n : Int) ≤ c.fuel + 1 ∧ (to = 0 ∨ to = 11 ∨ to = 12 ∨ to = 13) ∧ ((n : Int) = c.fuel + 1 ↔ to = 11) := by
  obtain ⟨d, hd⟩ := hm.depths
  obtain ⟨-, -, -, -, f5, f6⟩ := hm.few
  obtain ⟨N, hN⟩ := Int.eq_ofNat_of_zero_le (show (0 : Int) ≤ c.fuel by omega)
  have h0 := new_ok hm hd hown h8
  obtain ⟨n, -, hE⟩ := ends hm hd N (newM c, own) h0 hN
  obtain ⟨g1, g2, g3, g4⟩ := end_bound hm hd (r := (newM c, own)) h0 rfl hE
  rw [show (newM c, own).1.fuel = c.fuel from rfl] at g2 g4
  obtain ⟨pc, f, st, regs, ou, ov, to, bl, hR⟩ := runs_to hm hown h8 n
  have ho := hE.over
  rw [hR.is] at ho g3 g4
  simp only at ho g3 g4
  subst ho
  exact ⟨n, pc, f, st, regs, ou, to, bl, hE, hR, g1, by omega, g2, g3, g4⟩

section
variable (ra : Option Addr) (nr rc : Nat) (wa : Option Addr) (nw wc : Nat) (aa : Option Addr) (na ac : Nat) (ca : Option Addr) (nc cc : Nat)
variable {c : Cmd} {own : Blks} {n : Nat} {pc f : Int} {st regs ou : List Int} {ov : Bool} {to : Nat} {bl : Blks} {bA : Option Addr} {bn bc : Nat}

theorem whole_runs (hm : MayBe c) (hown : own.length = c.reads.length + c.writes.length) (h8 : ∀ b ∈ own, b.length = 8) (hE : Ends c (newM c, own) n) (hn : n ≤ 201) (hR : RunsTo c own n pc f st regs ou ov to bl)
    (w : World) (hC : CmIn w c ra nr rc wa nw wc aa na ac ca nc cc) (hO : Sl w 8 bA bn bc (blksW own)) :
    Calls Try.prog 22 #[cmV ra nr rc wa nw wc aa na ac c.fuel ca nc cc, .slice bA bn bc] w (XPost pc f st (rg regs 0) (rg regs 1) (rg regs 2) (rg regs 3) ou ov to bl n w) := by
  obtain ⟨d, hd⟩ := hm.depths
  have h := whole_any ra nr rc wa nw wc aa na ac ca nc cc c own n bA bn bc w hC hO (by omega) hE (fun k _ => steps_fit hm hd hown h8 k)
  rw [hR.is] at h
  exact h

theorem rwhole_runs (hm : MayBe c) (hown : own.length = c.reads.length + c.writes.length) (h8 : ∀ b ∈ own, b.length = 8) (hE : Ends c (newM c, own) n) (hn : n ≤ 201) (hR : RunsTo c own n pc f st regs ou ov to bl)
    (w : World) (hC : CmIn w c ra nr rc wa nw wc aa na ac ca nc cc) (hO : Sl w 8 bA bn bc (blksW own)) :
    Calls Try.prog 25 #[cmV ra nr rc wa nw wc aa na ac c.fuel ca nc cc, .slice bA bn bc] w (XPost pc f st (rg regs 0) (rg regs 1) (rg regs 2) (rg regs 3) ou ov to bl n w) := by
  obtain ⟨d, hd⟩ := hm.depths
  have h := rwhole_any ra nr rc wa nw wc aa na ac ca nc cc c own n bA bn bc w hC hO (by omega) hE (fun k _ => steps_fit hm hd hown h8 k)
  rw [hR.is] at h
  exact h

end

theorem same_bks {st ou st' ou' : List Int} {bl : Blks} (h8 : ∀ b ∈ bl, b.length = 8) (hb : bl.length ≤ 1000) {w : World} {sA : Option Addr} {sn sc : Nat} {oA : Option Addr} {on oc : Nat} {bA : Option Addr} {bn bc : Nat} {sA' : Option Addr} {sn' sc' : Nat} {oA' : Option Addr} {on' oc' : Nat} {bA' : Option Addr} {bn' bc' : Nat}
    (h : MIn w st ou bl sA sn sc oA on oc bA bn bc) (h' : MIn w st' ou' bl sA' sn' sc' oA' on' oc' bA' bn' bc') :
    Calls Try.prog 14 #[.slice bA bn bc, .slice bA' bn' bc'] w fun e w' => e = .returned (.bool true) ∧ Below w.heap.size w w' := by
  obtain ⟨-, -, p3⟩ := h.lens h8
  obtain ⟨-, -, q3⟩ := h'.lens h8
  have k := h.bk
  have k' := h'.bk
  rw [p3] at k ⊢
  rw [q3] at k' ⊢
  exact rsameB_yes bl h8 _ _ _ _ _ w k k' rfl (by omega)

end Go.Proofs.Ytibmfhmeoohdeaa

/-
  What run.Whole, and the reference's, answer of a command that may be, with its machine taken apart, and in no block that was there ahead of it, unless its own blocks are. No conditions but those that stand there.
-/
namespace Go.Proofs.Ytibmfhmeoohdeaa
open Go.RowKit

/-- a machine, blocks and a number, and where they don't lie. -/
def ZPost (A0 : Option Addr) (n0 : Nat) (pc fuel : Int) (st : List Int) (r0 r1 r2 r3 : Int) (ou : List Int) (ov : Bool) (e0 : Int) (own : Blks) (n : Nat) (w : World) (e : Ending) (w' : World) : Prop :=
  ∃ sA sn sc oA on oc bA bn bc, e = .returned (.tuple #[.agg (mC pc fuel (.slice sA sn sc) r0 r1 r2 r3 (.slice oA on oc) ov e0), .slice bA bn bc, .int .i64 (n : Int)]) ∧ MIn w' st ou own sA sn sc oA on oc bA bn bc ∧ Below w.heap.size w w' ∧ ∀ g, g < w.heap.size → offA g A0 n0 → off3 g sA sn oA on bA bn

section
variable (ra : Option Addr) (nr rc : Nat) (wa : Option Addr) (nw wc : Nat) (aa : Option Addr) (na ac : Nat) (ca : Option Addr) (nc cc : Nat)
variable {c : Cmd} {own : Blks} {n : Nat} {pc f : Int} {st regs ou : List Int} {ov : Bool} {to : Nat} {bl : Blks} {bA : Option Addr} {bn bc : Nat}

theorem whole_runs_off (hm : MayBe c) (hown : own.length = c.reads.length + c.writes.length) (h8 : ∀ b ∈ own, b.length = 8) (hE : Ends c (newM c, own) n) (hn : n ≤ 201) (hR : RunsTo c own n pc f st regs ou ov to bl)
    (w : World) (hC : CmIn w c ra nr rc wa nw wc aa na ac ca nc cc) (hO : Sl w 8 bA bn bc (blksW own)) :
    Calls Try.prog 22 #[cmV ra nr rc wa nw wc aa na ac c.fuel ca nc cc, .slice bA bn bc] w (ZPost bA bn pc f st (rg regs 0) (rg regs 1) (rg regs 2) (rg regs 3) ou ov to bl n w) := by
  obtain ⟨d, hd⟩ := hm.depths
  have h := whole_off ra nr rc wa nw wc aa na ac ca nc cc c own n bA bn bc w hC hO bA bn rfl rfl (by omega) hE (fun k _ => steps_fit hm hd hown h8 k)
  rw [hR.is] at h
  exact h

theorem rwhole_runs_off (hm : MayBe c) (hown : own.length = c.reads.length + c.writes.length) (h8 : ∀ b ∈ own, b.length = 8) (hE : Ends c (newM c, own) n) (hn : n ≤ 201) (hR : RunsTo c own n pc f st regs ou ov to bl)
    (w : World) (hC : CmIn w c ra nr rc wa nw wc aa na ac ca nc cc) (hO : Sl w 8 bA bn bc (blksW own)) :
    Calls Try.prog 25 #[cmV ra nr rc wa nw wc aa na ac c.fuel ca nc cc, .slice bA bn bc] w (ZPost bA bn pc f st (rg regs 0) (rg regs 1) (rg regs 2) (rg regs 3) ou ov to bl n w) := by
  obtain ⟨d, hd⟩ := hm.depths
  have h := rwhole_off ra nr rc wa nw wc aa na ac ca nc cc c own n bA bn bc w hC hO bA bn rfl rfl (by omega) hE (fun k _ => steps_fit hm hd hown h8 k)
  rw [hR.is] at h
  exact h

end
end Go.Proofs.Ytibmfhmeoohdeaa
