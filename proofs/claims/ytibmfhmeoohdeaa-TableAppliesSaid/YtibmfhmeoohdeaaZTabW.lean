/-
  awake of layer 12's laws: true, in whatever memory.
-/
import Derived.Test.YtibmfhmeoohdeaaQTabE
import Derived.Test.YtibmfhmeoohdeaaZTabR
import Derived.Test.YtibmfhmeoohdeaaZInsN
namespace Go.Proofs.Ytibmfhmeoohdeaa
open Go.RowKit

def codeT : List Ins := [⟨4, 0, 0⟩, ⟨5, 1, 2⟩, ⟨17, 0, 0⟩]
def codeU : List Ins := [⟨4, 0, 0⟩, ⟨5, 1, 2⟩, ⟨16, 0, 0⟩]
def cmdT : Cmd := ⟨[0], [1], [], 9, codeT⟩
def cmdU : Cmd := ⟨[0], [1], [], 9, codeU⟩
def lQ : List Ent := [⟨[6, 0, 0, 0, 0, 0, 0, 0], 0⟩, entZ]
def lR : List Ent := [⟨[6, 0, 0, 0, 0, 0, 0, 0], 0⟩, ⟨[0, 0, 6, 0, 0, 0, 0, 0], 3⟩]
abbrev ownQ : Blks := [[6, 0, 0, 0, 0, 0, 0, 0], [0, 0, 0, 0, 0, 0, 0, 0]]
abbrev ownR : Blks := [[6, 0, 0, 0, 0, 0, 0, 0], [0, 0, 6, 0, 0, 0, 0, 0]]
theorem maybeT : MayBe cmdT := (check_zero cmdT).1 (by decide)
theorem maybeU : MayBe cmdU := (check_zero cmdU).1 (by decide)
theorem eightQ : Eight lQ := by intro e he; simp [lQ] at he; rcases he with rfl | rfl <;> rfl
theorem fitsT1 : fitsT cmdT lQ.length := ⟨by intro x hx; simp [cmdT] at hx; subst hx; decide, by intro x hx; simp [cmdT] at hx; subst hx; decide⟩
theorem fitsU1 : fitsT cmdU lQ.length := ⟨by intro x hx; simp [cmdU] at hx; subst hx; decide, by intro x hx; simp [cmdU] at hx; subst hx; decide⟩
theorem loadT1 : loadT lQ cmdT = ownQ := by kernel_rfl
theorem loadU1 : loadT lQ cmdU = ownQ := by kernel_rfl
theorem storeT1 : storeT lQ cmdT ownR 3 = lR := by kernel_rfl
theorem stepsT1 : stepsM cmdT 1 (newM cmdT, ownQ) = (⟨1, 8, [6], [0, 0, 0, 0], [], false, 0⟩, ownQ) := by kernel_rfl
theorem stepsT2 : stepsM cmdT 2 (newM cmdT, ownQ) = (⟨2, 7, [], [0, 0, 0, 0], [], false, 0⟩, ownR) := by kernel_rfl
theorem stepsT3 : stepsM cmdT 3 (newM cmdT, ownQ) = (⟨3, 6, [], [0, 0, 0, 0], [], true, 0⟩, ownR) := by kernel_rfl
theorem stepsU1 : stepsM cmdU 1 (newM cmdU, ownQ) = (⟨1, 8, [6], [0, 0, 0, 0], [], false, 0⟩, ownQ) := by kernel_rfl
theorem stepsU2 : stepsM cmdU 2 (newM cmdU, ownQ) = (⟨2, 7, [], [0, 0, 0, 0], [], false, 0⟩, ownR) := by kernel_rfl
theorem stepsU3 : stepsM cmdU 3 (newM cmdU, ownQ) = (⟨3, 6, [], [0, 0, 0, 0], [], true, 13⟩, ownR) := by kernel_rfl
theorem endsT : Ends cmdT (newM cmdT, ownQ) 3 := ⟨by rw [stepsT3], fun k hk => by
  rcases (show k = 0 ∨ k = 1 ∨ k = 2 by omega) with rfl | rfl | rfl
  · rfl
  · rw [stepsT1]
  · rw [stepsT2]⟩
theorem endsU : Ends cmdU (newM cmdU, ownQ) 3 := ⟨by rw [stepsU3], fun k hk => by
  rcases (show k = 0 ∨ k = 1 ∨ k = 2 by omega) with rfl | rfl | rfl
  · rfl
  · rw [stepsU1]
  · rw [stepsU2]⟩
theorem eightR : ∀ b ∈ ownR, b.length = 8 := by intro b hb; simp [ownR] at hb; rcases hb with rfl | rfl <;> rfl
theorem runsT : RunsTo cmdT ownQ 3 3 6 [] [0, 0, 0, 0] [] true 0 ownR := ⟨stepsT3, by decide, by decide, eightR, rfl⟩
theorem runsU : RunsTo cmdU ownQ 3 3 6 [] [0, 0, 0, 0] [] true 13 ownR := ⟨stepsU3, by decide, by decide, eightR, rfl⟩

theorem nilT (W : World) (size : Nat) : Sl W size none 0 0 [] := ⟨by simp, Nat.le_refl _, fun _ => ⟨rfl, rfl⟩, fun h => absurd h (by omega)⟩
theorem ints_one (v : Int) (w : World) : Ints (w.alloc (.cells #[.int .i64 v] 3)) (some ⟨w.heap.size, 0, none⟩) 1 [v] := by
  have hk := Bk.new w 3 #[.int .i64 v]
  refine ⟨rfl, Nat.le_refl _, fun h => (by cases h), fun _ => ⟨_, _, rfl, hk.lt, fun j hj => ?_⟩⟩
  obtain rfl : j = 0 := by simp at hj; omega
  exact hk.cell 0

/-- what the document's example lies in. -/
abbrev tW0 (w : World) : World := w.alloc (.cells #[.int .i64 0] 3)
abbrev tW1 (w : World) : World := (tW0 w).alloc (.cells #[.int .i64 1] 3)
abbrev tW2 (w : World) : World := (tW1 w).alloc (.cells #[.int .i64 4, .int .i64 0, .int .i64 0, .int .i64 5, .int .i64 1, .int .i64 2, .int .i64 17, .int .i64 0, .int .i64 0] 51)
abbrev tW3 (w : World) : World := (tW2 w).alloc (.cells #[.slice (some ⟨w.heap.size, 0, none⟩) 1 1, .slice (some ⟨w.heap.size + 1, 0, none⟩) 1 1, .slice none 0 0, .int .i64 9, .slice (some ⟨w.heap.size + 2, 0, none⟩) 3 3] 26)
theorem tW_in (w : World) : CmIn (tW3 w) cmdT (some ⟨w.heap.size, 0, none⟩) 1 1 (some ⟨w.heap.size + 1, 0, none⟩) 1 1 none 0 0 (some ⟨w.heap.size + 2, 0, none⟩) 3 3 ∧ Bk (tW3 w) (w.heap.size + 3) 26 #[.slice (some ⟨w.heap.size, 0, none⟩) 1 1, .slice (some ⟨w.heap.size + 1, 0, none⟩) 1 1, .slice none 0 0, .int .i64 9, .slice (some ⟨w.heap.size + 2, 0, none⟩) 3 3] ∧ Below w.heap.size w (tW3 w) := by
  have s0 : (tW0 w).heap.size = w.heap.size + 1 := World.size_alloc _ _
  have s1 : (tW1 w).heap.size = w.heap.size + 2 := by rw [World.size_alloc, s0]
  have s2 : (tW2 w).heap.size = w.heap.size + 3 := by rw [World.size_alloc, s1]
  have b1 : Below (tW0 w).heap.size (tW0 w) (tW1 w) := below_alloc1 _ _
  have b2 : Below (tW1 w).heap.size (tW1 w) (tW2 w) := below_alloc1 _ _
  have b3 : Below (tW2 w).heap.size (tW2 w) (tW3 w) := below_alloc1 _ _
  have k0 := Ints.below (ints_one 0 w) (bnext b1 (bnext b2 b3))
  have k1 := Ints.below (ints_one 1 (tW0 w)) (bnext b2 b3)
  have k2 := Inss.below (inss_new codeT (tW1 w)) b3
  have k3 := Bk.new (tW2 w) 26 #[.slice (some ⟨w.heap.size, 0, none⟩) 1 1, .slice (some ⟨w.heap.size + 1, 0, none⟩) 1 1, .slice none 0 0, .int .i64 9, .slice (some ⟨w.heap.size + 2, 0, none⟩) 3 3]
  rw [s0] at k1
  rw [s1] at k2
  rw [s2] at k3
  exact ⟨⟨rfl, rfl, rfl, rfl, k0, k1, nilT _ 1, k2, by decide, by decide, by decide, by decide⟩, k3, bnext (below_alloc1 w _) (bnext b1 (bnext b2 b3))⟩

/-- two blocks of noughts. -/
theorem new_two (w : World) : Calls Try.prog 18 #[.int .i64 2] w fun e w' =>
    ∃ g cap, e = .returned (.slice (some ⟨g, 0, none⟩) 2 cap) ∧ w.heap.size ≤ g ∧ 2 ≤ cap ∧ w'.cell? ⟨g, 0, none⟩ = some (.int .i64 0) ∧ w'.frozen? ⟨g, 0, none⟩ = false ∧ g < w'.heap.size ∧ Below w.heap.size w (w'.setCell ⟨g, 0, none⟩ (.int .i64 6)) ∧ Ents (w'.setCell ⟨g, 0, none⟩ (.int .i64 6)) (some ⟨g, 0, none⟩) cap lQ := by
  refine (new_yes 2 ⟨by decide, by decide⟩ w).mono ?_
  rintro e w' ⟨A, c, rfl, ho, hb⟩
  obtain ⟨hl, h0 | ⟨g, cap, cur, hv, hg, hk, hnc, hcm, hcs, ht⟩⟩ := ho
  · exact absurd h0.2 (by decide)
  injection hv with e1 e2 e3
  subst e1 e3
  have hk : Bk w' g 45 cur := hk
  have hcur : ∀ j, j < 18 → cur[j]? = some (.int .i64 0) := fun j hj => by
    have h1 : (cur.toList.take (2 * 9))[j]? = (entsW (List.replicate 2 entZ))[j]? := by rw [ht]
    rw [List.getElem?_take, if_pos (by omega)] at h1
    rw [← Array.getElem?_toList, h1]
    rcases j with _ | _ | _ | _ | _ | _ | _ | _ | _ | _ | _ | _ | _ | _ | _ | _ | _ | _ | j
    all_goals first | rfl | omega
  have hs : 18 ≤ cur.size := by omega
  have hk' := hk.set 0 (.int .i64 6)
  have hlt := hk.lt
  refine ⟨g, c, rfl, hg, hnc, by rw [hk.cell 0, hcur 0 (by decide)], hk.frozen 0, hlt, hb.setCell hg _, ⟨rfl, hnc, fun h => (by cases h), fun _ => ⟨g, 0, rfl, hk'.lt, fun j hj => ?_⟩⟩⟩
  rw [Nat.zero_add, hk'.cell j, Array.getElem?_setIfInBounds]
  have hj : j < 18 := hj
  by_cases h0 : 0 = j
  · subst h0
    rw [if_pos rfl, if_pos (by omega)]
    rfl
  · rw [if_neg h0, hcur j hj]
    rcases j with _ | _ | _ | _ | _ | _ | _ | _ | _ | _ | _ | _ | _ | _ | _ | _ | _ | _ | j
    all_goals first | rfl | omega

/-- a variable more: a result. -/
theorem varR_below (w : World) (cs : Array Value) : Below w.heap.size w ((w.alloc (.cells rsZ 31)).setRow w.heap.size cs) := below_row (below_alloc1 _ _) (Nat.le_refl _) _
theorem varR_bk (w : World) (cs : Array Value) : Bk ((w.alloc (.cells rsZ 31)).setRow w.heap.size cs) w.heap.size 31 cs := Bk.setRow (Bk.new _ _ _) _

theorem apply_t (a0 a1 a2 : Option Addr) (A : Option Addr) (k : Nat) (W : World) (hC : CmIn W cmdT a0 1 1 a1 1 1 none 0 0 a2 3 3) (hL : Ents W A k lQ) :
    Calls Try.prog 9 #[.slice A 2 k, .agg #[.slice a0 1 1, .slice a1 1 1, .slice none 0 0, .int .i64 9, .slice a2 3 3], .int .i64 3] W (ApPost lR 2 3 0 [] W) := by
  have h := apply_any a0 1 1 a1 1 1 none 0 0 a2 3 3 cmdT lQ A 2 k 3 maybeT eightQ fitsT1 rfl (by decide) (n := 3) (pc := 3) (f := 6) (st := []) (regs := [0, 0, 0, 0]) (ou := []) (to := 0) (bl := ownR) (by rw [loadT1]; exact endsT) (by decide) (by rw [loadT1]; exact runsT) W hC hL
  rw [if_pos (by rfl), storeT1] at h
  exact h
theorem apply_u (a0 a1 a2 : Option Addr) (A : Option Addr) (k : Nat) (W : World) (hC : CmIn W cmdU a0 1 1 a1 1 1 none 0 0 a2 3 3) (hL : Ents W A k lQ) :
    Calls Try.prog 9 #[.slice A 2 k, .agg #[.slice a0 1 1, .slice a1 1 1, .slice none 0 0, .int .i64 9, .slice a2 3 3], .int .i64 4] W (ApPost lQ 2 4 13 [] W) := by
  have h := apply_any a0 1 1 a1 1 1 none 0 0 a2 3 3 cmdU lQ A 2 k 4 maybeU eightQ fitsU1 rfl (by decide) (n := 3) (pc := 3) (f := 6) (st := []) (regs := [0, 0, 0, 0]) (ou := []) (to := 13) (bl := ownR) (by rw [loadU1]; exact endsU) (by decide) (by rw [loadU1]; exact runsU) W hC hL
  rw [if_neg (by decide)] at h
  exact h

theorem load_t (a0 a1 a2 : Option Addr) (A : Option Addr) (k : Nat) (W : World) (hC : CmIn W cmdT a0 1 1 a1 1 1 none 0 0 a2 3 3) (hL : Ents W A k lQ) :
    Calls Try.prog 11 #[.slice A 2 k, .agg #[.slice a0 1 1, .slice a1 1 1, .slice none 0 0, .int .i64 9, .slice a2 3 3]] W (LoadPost lQ cmdT 2 W) :=
  load_any a0 1 1 a1 1 1 none 0 0 a2 3 3 cmdT lQ A 2 k W hC hL eightQ maybeT.sets fitsT1 rfl

theorem ents_two {W : World} {A : Option Addr} {k : Nat} (h : Sl W 9 A 2 k (entsW lQ)) : Ents W A k lQ := h

theorem cmU_in {a0 a1 a2 : Option Addr} {W : World} (h : CmIn W cmdT a0 1 1 a1 1 1 none 0 0 a2 3 3) (o : Obj) (k : Nat) (hk : k = W.heap.size + 1) :
    CmIn ((W.alloc o).alloc (.cells #[.int .i64 4, .int .i64 0, .int .i64 0, .int .i64 5, .int .i64 1, .int .i64 2, .int .i64 16, .int .i64 0, .int .i64 0] 51)) cmdU a0 1 1 a1 1 1 none 0 0 (some ⟨k, 0, none⟩) 3 3 := by
  have b := bnext (below_alloc1 W o) (below_alloc1 _ (.cells #[.int .i64 4, .int .i64 0, .int .i64 0, .int .i64 5, .int .i64 1, .int .i64 2, .int .i64 16, .int .i64 0, .int .i64 0] 51))
  have hi := inss_new codeU (W.alloc o)
  rw [World.size_alloc, ← hk] at hi
  exact ⟨rfl, rfl, rfl, rfl, h.reads.below b, h.writes.below b, nilT _ 1, hi, by decide, by decide, by decide, by decide⟩

set_option maxRecDepth 100000 in
set_option maxHeartbeats 8000000 in
theorem awake12 (w : World) : Calls Try.prog 8 #[] w fun e w' => e = .returned (.bool true) ∧ Below w.heap.size w w' := by
  obtain ⟨i1, i2, i3⟩ := tW_in w
  have C0 := Lib.hid i1
  have D0 := Lib.hid i2
  have B0 := Lib.hid i3
  clear i1 i2 i3
  have nA : True := trivial
  have nB : True := trivial
  go_enter Try.func8, Try.ntmps8
  go_wp2_with (first
    | (go_at_call 18; clear nA; go_must ((with_reducible refine (new_two _).mono ?_); rintro e w1 ⟨g, cap, rfl, hg, hc2, z0, zf, zl, hb, hL⟩; have D1 := Lib.hid (D0.out.below hb); have C1 := Lib.hid (C0.out.below hb); have L1 := Lib.hid hL; have B1 := Lib.hid (bnext B0.out hb); obtain ⟨e0, e1, e2, e3, e4, ef⟩ := D1.out.cmd; have el := D1.out.lt; clear hb hL))
    | (go_at_call 9; clear nB; go_must ((with_reducible refine (apply_t _ _ _ _ _ _ C1.out L1.out).mono ?_); rintro e w2 ⟨mA, mk, oA, on, oc, rfl, hm, ho, hb⟩; obtain rfl : on = 0 := (by have := ho.1; simp at this; omega); have E2 := Lib.hid (bnext hb (varR_below w2 (rC 3 0 (.slice oA 0 oc)))); have N2 := Lib.hid (Bk.new w2 31 rsZ); have R2 := Lib.hid (varR_bk w2 (rC 3 0 (.slice oA 0 oc))); have M2 := Lib.hid (hm.below (varR_below w2 (rC 3 0 (.slice oA 0 oc)))); have D2 := Lib.hid (D1.out.below E2.out); have C2 := Lib.hid (C1.out.below E2.out); have L2 := Lib.hid (L1.out.below E2.out); have B2 := Lib.hid (bnext B1.out E2.out); clear e0 e1 e2 e3 e4 ef el z0 zf zl; obtain ⟨e0, e1, e2, e3, e4, ef⟩ := D2.out.cmd; have el := D2.out.lt; clear hb hm ho))
    | (with_reducible refine st_rs w2.heap.size N2.out rfl _ _ rfl rfl rfl rfl ?_)
    | (go_at_call 9; go_must ((with_reducible refine (apply_u _ _ _ _ _ _ (cmU_in C2.out _ (w2.heap.size + 1 + 1) (by simp)) (L2.out.below (bnext (below_alloc1 _ _) (below_alloc1 _ _)))).mono ?_); rintro e w3 ⟨nA', nk, oB, on, od, rfl, hm, ho, hb0⟩; obtain rfl : on = 0 := (by have := ho.1; simp at this; omega); have hb := bnext (bnext (below_alloc1 _ _) (below_alloc1 _ _)) hb0; have E3 := Lib.hid (bnext hb (varR_below w3 (rC 4 13 (.slice oB 0 od)))); have N3 := Lib.hid (Bk.new w3 31 rsZ); have R3 := Lib.hid (varR_bk w3 (rC 4 13 (.slice oB 0 od))); have M3 := Lib.hid (ents_two (hm.below (varR_below w3 (rC 4 13 (.slice oB 0 od))))); have M23 := Lib.hid (M2.out.below E3.out); have D3 := Lib.hid (D2.out.below E3.out); have C3 := Lib.hid (C2.out.below E3.out); have L3 := Lib.hid (L2.out.below E3.out); have R23 := Lib.hid (R2.out.below E3.out); have B3 := Lib.hid (bnext B2.out E3.out); clear e0 e1 e2 e3 e4 ef el; obtain ⟨b, off, rfl, hbl, hcl⟩ := M23.out.2.2.2 (by decide); have m1 := hcl (9 + 2) (by decide); have m2 := hcl (9 + 8) (by decide); have m3 := hcl 8 (by decide); rw [show (entsW lR)[9 + 2]? = some (.int .i64 6) from rfl] at m1; rw [show (entsW lR)[9 + 8]? = some (.int .i64 3) from rfl] at m2; rw [show (entsW lR)[8]? = some (.int .i64 0) from rfl] at m3; have r1 := R23.out.cell 1; simp only [List.getElem?_toArray, List.getElem?_cons_zero, List.getElem?_cons_succ] at r1; have r1l := R23.out.lt; clear hb hb0 hm ho hcl))
    | (with_reducible refine st_rs w3.heap.size N3.out rfl _ _ rfl rfl rfl rfl ?_)
    | (go_at_call 12; go_must ((with_reducible refine (rsameE_yes lQ eightQ _ _ 2 _ _ _ M3.out L3.out rfl (by decide)).mono ?_); rintro e w4 ⟨rfl, hb⟩; have D4 := Lib.hid (D3.out.below hb); have C4 := Lib.hid (C3.out.below hb); have L4 := Lib.hid (L3.out.below hb); have R4 := Lib.hid (R3.out.below hb); have B4 := Lib.hid (bnext B3.out hb); clear m1 m2 m3 r1 r1l; have r1 := R4.out.cell 1; simp only [List.getElem?_toArray, List.getElem?_cons_zero, List.getElem?_cons_succ] at r1; have r1l := R4.out.lt; obtain ⟨e0, e1, e2, e3, e4, ef⟩ := D4.out.cmd; have el := D4.out.lt; clear hb))
    | (go_at_call 11; go_must ((with_reducible refine (load_t _ _ _ _ _ _ C4.out L4.out).mono ?_); rintro e w5 ⟨A5, k5, rfl, -, hb⟩; have B5 := Lib.hid (bnext B4.out hb); clear e0 e1 e2 e3 e4 ef el r1 r1l hb))
    | (go_at_call 18; go_must ((with_reducible refine (new_no (-1) (by decide) _).mono ?_); rintro e w6 ⟨A6, k6, rfl, -, hb⟩; have B6 := Lib.hid (bnext B5.out hb); clear hb)))
  go_ret
  exact ⟨rfl, B6.out⟩

end Go.Proofs.Ytibmfhmeoohdeaa
