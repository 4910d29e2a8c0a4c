/-
  What shade.has, shade.fits, shade.See and foremanref13.See answer, in whatever memory. No conditions but those that stand there.
-/
import Derived.Test.YtgoamkneenmbgaaShdM
import Derived.Test.YtgoamkneenmbgaaBlw
namespace Go.Proofs.Ytgoamkneenmbgaa
open Go.RowKit

theorem hasE_any (A : Option Addr) (n c : Nat) (i : Int) (b : Bool) (w : World) (hb : b = true ↔ 0 ≤ i ∧ i < (n : Int)) :
    Calls Try.prog 17 #[.slice A n c, .int .i64 i] w fun e w' => e = .returned (.bool b) ∧ w = w' := by
  by_cases h0 : 0 ≤ i
  · by_cases h1 : i < (n : Int)
    · obtain rfl : b = true := hb.2 ⟨h0, h1⟩
      clear hb
      go_enter Try.func17, Try.ntmps17
      go_wp2
      go_ret
      exact ⟨rfl, rfl⟩
    · obtain rfl : b = false := by
        cases b
        · rfl
        · exact absurd (hb.1 rfl).2 h1
      clear hb
      go_enter Try.func17, Try.ntmps17
      go_wp2
      go_ret
      exact ⟨rfl, rfl⟩
  · obtain rfl : b = false := by
      cases b
      · rfl
      · exact absurd (hb.1 rfl).1 h0
    clear hb
    go_enter Try.func17, Try.ntmps17
    go_wp2
    go_ret
    exact ⟨rfl, rfl⟩

theorem hasB_any (A : Option Addr) (n c : Nat) (i : Int) (b : Bool) (w : World) (hb : b = true ↔ 0 ≤ i ∧ i < (n : Int)) :
    Calls Try.prog 19 #[.slice A n c, .int .i64 i] w fun e w' => e = .returned (.bool b) ∧ w = w' := by
  by_cases h0 : 0 ≤ i
  · by_cases h1 : i < (n : Int)
    · obtain rfl : b = true := hb.2 ⟨h0, h1⟩
      clear hb
      go_enter Try.func19, Try.ntmps19
      go_wp2
      go_ret
      exact ⟨rfl, rfl⟩
    · obtain rfl : b = false := by
        cases b
        · rfl
        · exact absurd (hb.1 rfl).2 h1
      clear hb
      go_enter Try.func19, Try.ntmps19
      go_wp2
      go_ret
      exact ⟨rfl, rfl⟩
  · obtain rfl : b = false := by
      cases b
      · rfl
      · exact absurd (hb.1 rfl).1 h0
    clear hb
    go_enter Try.func19, Try.ntmps19
    go_wp2
    go_ret
    exact ⟨rfl, rfl⟩

section
variable (on : Bool) (a1 a2 a3 a4 a5 a6 : Int) (oA : Option Addr) (no oc : Nat) (kA : Option Addr) (kc : Nat)

theorem fits_is (i : Int) (b : Bool) (w : World) (hb : b = true ↔ 0 ≤ i ∧ i < (no : Int)) :
    Calls Try.prog 18 #[.agg (mkC on a1 a2 a3 a4 a5 a6 (.slice oA no oc) (.slice kA no kc)), .int .i64 i] w fun e w' => e = .returned (.bool b) ∧ Below w.heap.size w w' := by
  have h1 := Lib.hid (fun W => hasB_any kA no kc i b W hb)
  have h2 := Lib.hid (fun W => hasE_any oA no oc i b W hb)
  have B0 := Lib.hid (below_alloc1 w (.cells (mkC on a1 a2 a3 a4 a5 a6 (.slice oA no oc) (.slice kA no kc)) 25))
  clear hb
  cases b
  · go_enter Try.func18, Try.ntmps18
    go_wp2_with (first
      | (go_at_call 19; go_must ((with_reducible refine (h1.out _).mono ?_); rintro e w1 ⟨rfl, rfl⟩))
      | (go_at_call 17; go_must ((with_reducible refine (h2.out _).mono ?_); rintro e w1 ⟨rfl, rfl⟩)))
    go_ret
    exact ⟨rfl, B0.out⟩
  · go_enter Try.func18, Try.ntmps18
    go_wp2_with (first
      | (go_at_call 19; go_must ((with_reducible refine (h1.out _).mono ?_); rintro e w1 ⟨rfl, rfl⟩))
      | (go_at_call 17; go_must ((with_reducible refine (h2.out _).mono ?_); rintro e w1 ⟨rfl, rfl⟩)))
    go_ret
    exact ⟨rfl, B0.out⟩

/-- a mark in its box, and a result's block. -/
abbrev kB (cs : Array Value) (z : Array Value) (t : TypeId) (w : World) : World := (w.alloc (.cells cs 25)).alloc (.cells z t)
theorem kB_below (cs z : Array Value) (t : TypeId) (w : World) : Below w.heap.size w (kB cs z t w) := bnext (below_alloc1 _ _) (below_alloc1 _ _)
theorem kB_box (cs z : Array Value) (t : TypeId) (w : World) : Bk (kB cs z t w) w.heap.size 25 cs := (Bk.new w _ _).alloc _
theorem kB_res (cs z : Array Value) (t : TypeId) (w : World) : Bk (kB cs z t w) (w.heap.size + 1) t z := by
  have := Bk.new (w.alloc (.cells cs 25)) t z
  rwa [World.size_alloc] at this
theorem Bk.nine {w : World} {g : Nat} {t : TypeId} {a b c d e f x y z : Value} (h : Bk w g t #[a, b, c, d, e, f, x, y, z]) :
    w.cell? ⟨g, 0, none⟩ = some a ∧ w.cell? ⟨g, 7, none⟩ = some y ∧ w.cell? ⟨g, 8, none⟩ = some z ∧ ∀ o, w.frozen? ⟨g, o, none⟩ = false :=
  ⟨h.cell 0, h.cell 7, h.cell 8, fun o => h.frozen o⟩
theorem bkC_entZ : bkC (entI entZ) = #[.int .i64 0, .int .i64 0, .int .i64 0, .int .i64 0, .int .i64 0, .int .i64 0, .int .i64 0, .int .i64 0, .int .i64 0] := rfl

set_option maxHeartbeats 4000000 in
theorem see_any (old : List Ent) (kept : List Bool) (l : List Ent) (lA : Option Addr) (ln lc : Nat) (i : Int) (w : World) (hM : MkIn w old kept oA no oc kA no kc) (hL : Ents w lA lc l) (h8 : Eight l) (hln : l.length = ln) :
    Calls Try.prog 13 #[.agg (mkC on a1 a2 a3 a4 a5 a6 (.slice oA no oc) (.slice kA no kc)), .slice lA ln lc, .int .i64 i] w
      fun e w' => e = .returned (.agg (bkC (entI (seeS ⟨on, old, kept⟩ l i)))) ∧ Below w.heap.size w w' := by
  have HM := Lib.hid hM
  have HL := Lib.hid hL
  have hoc : no ≤ oc := hM.so.2.1
  have hkc : no ≤ kc := hM.sk.2.1
  have hlc : ln ≤ lc := by have := hL.2.1; omega
  have hlk := hM.lk
  have hlo := hM.lo
  have e8 := hM.e8
  have B0 := Lib.hid (kB_below (mkC on a1 a2 a3 a4 a5 a6 (.slice oA no oc) (.slice kA no kc)) (bkC (entI entZ)) 34 w)
  have X0 := Lib.hid (kB_box (mkC on a1 a2 a3 a4 a5 a6 (.slice oA no oc) (.slice kA no kc)) (bkC (entI entZ)) 34 w)
  have R0 := Lib.hid (kB_res (mkC on a1 a2 a3 a4 a5 a6 (.slice oA no oc) (.slice kA no kc)) (bkC (entI entZ)) 34 w)
  clear hM hL
  by_cases hi : 0 ≤ i ∧ i < (ln : Int)
  · have hs : seeS ⟨on, old, kept⟩ l i = if on = true ∧ kept[i.toNat]? = some true then old[i.toNat]?.getD entZ else l[i.toNat]?.getD entZ := by
      unfold seeS
      rw [if_pos (by rw [hln]; exact hi)]
    obtain ⟨j, rfl⟩ : ∃ j : Nat, i = (j : Int) := ⟨i.toNat, by omega⟩
    rw [Int.toNat_natCast] at hs
    have hj : j < ln := by omega
    have hhas := Lib.hid (fun W => hasE_any lA ln lc (j : Int) true W ⟨fun _ => by omega, fun _ => rfl⟩)
    have d0 : (0 : Int) ≤ (j : Int) := by omega
    have d1 : (j : Int) < (ln : Int) := by omega
    have d2 : (j : Int) < (lc : Int) := by omega
    by_cases hc : on = true ∧ kept[j]? = some true
    · rw [if_pos hc] at hs
      obtain ⟨rfl, hk⟩ := hc
      have hjk : j < no := by
        rcases Nat.lt_or_ge j no with h | h
        · exact h
        · rw [List.getElem?_eq_none (by omega)] at hk; cases hk
      obtain ⟨b, off, rfl, hb, hv⟩ := HM.out.sk.bool (j := j) hjk
      rw [hk] at hv
      have hv := (B0.out.cell (p := ⟨b, off + j, none⟩) hb).trans hv
      obtain ⟨g, og, rfl, hg, hl⟩ := HM.out.ents.range e8 (i := j) (by omega)
      have hz := e8.at j
      have hfit := Lib.hid (fun W => fits_is true a1 a2 a3 a4 a5 a6 (some ⟨g, og, none⟩) no oc (some ⟨b, off, none⟩) kc (j : Int) true W ⟨fun _ => by omega, fun _ => rfl⟩)
      have d3 : (j : Int) < (no : Int) := by omega
      have d4 : (j : Int) < (kc : Int) := by omega
      have d6 : (j : Int) < (oc : Int) := by omega
      rw [hs]
      generalize old[j]?.getD entZ = x at *
      have HR := Lib.hid (fun W hW => (hl W hW).1)
      have i9 : (Try.prog.info? 34).map (·.size) = some ((entI x).map (Value.int .i64)).length := by rw [List.length_map, entI_length hz]; exact infoEnt9
      have i9' := infoEnt hz
      have s9 : (bkC (entI x)).size = 9 := by rw [bkC_size, entI_length hz]
      obtain ⟨c0, c7, c8, cf⟩ := X0.out.nine
      have cl := X0.out.lt
      have HV := Lib.hid hv
      have hb' : b < w.heap.size + 1 + 1 := by omega
      rw [bkC_entZ] at *
      clear hs hl hk e8 hlk hlo hln h8 hv
      go_enter Try.func13, Try.ntmps13
      go_wp2_with (first
        | (go_at_call 17; go_must ((with_reducible refine (hhas.out _).mono ?_); rintro e w1 ⟨rfl, rfl⟩))
        | (go_at_call 18; go_must ((with_reducible refine (hfit.out _).mono ?_); rintro e w1 ⟨rfl, hb1⟩; have B1 := Lib.hid (bnext B0.out hb1); obtain ⟨f0, f7, f8, ff⟩ := (X0.out.below hb1).nine; have R1 := Lib.hid (R0.out.below hb1); have V1 := (hb1.cell (p := ⟨b, off + j, none⟩) (Nat.lt_of_lt_of_le hb B0.out.size)).trans HV.out; clear hb1))
        | (refine wpList_load_mid rfl 34 _ rfl g (og + j * 9) rfl _ _ (HR.out _ B1.out) Try.underlying34 rfl i9 ?_)
        | (refine wpList_store_row rfl 34 _ _ rfl (w.heap.size + 1) (bkC (entI x)) rfl rfl 34 _ R1.out i9' (by rw [s9]; rfl) (bkC_all _) ?_))
      exact bodyPost_ret (v := .agg (bkC (entI x))) (results_cell_row rfl _ _ (w.heap.size + 1) _ _ (0, 0) _ rfl (Bk.setRow R1.out _) Try.underlying34 rfl i9') rfl ⟨rfl, below_row B1.out (by omega) _⟩
    · rw [if_neg hc] at hs
      obtain ⟨g, og, rfl, hg, hl⟩ := HL.out.range h8 (i := j) (by omega)
      have hz := h8.at j
      rw [hs]
      generalize l[j]?.getD entZ = x at *
      have HR := Lib.hid (fun W hW => (hl W hW).1)
      have i9 : (Try.prog.info? 34).map (·.size) = some ((entI x).map (Value.int .i64)).length := by rw [List.length_map, entI_length hz]; exact infoEnt9
      have i9' := infoEnt hz
      have s9 : (bkC (entI x)).size = 9 := by rw [bkC_size, entI_length hz]
      obtain ⟨c0, c7, c8, cf⟩ := X0.out.nine
      have cl := X0.out.lt
      clear hs hl
      cases on with
      | false =>
        rw [bkC_entZ] at *
        clear e8 hlk hlo hln h8 hc
        go_enter Try.func13, Try.ntmps13
        go_wp2_with (first
          | (go_at_call 17; go_must ((with_reducible refine (hhas.out _).mono ?_); rintro e w1 ⟨rfl, rfl⟩))
          | (refine wpList_load_mid rfl 34 _ rfl g (og + j * 9) rfl _ _ (HR.out _ B0.out) Try.underlying34 rfl i9 ?_)
          | (refine wpList_store_row rfl 34 _ _ rfl (w.heap.size + 1) (bkC (entI x)) rfl rfl 34 _ R0.out i9' (by rw [s9]; rfl) (bkC_all _) ?_))
        exact bodyPost_ret (v := .agg (bkC (entI x))) (results_cell_row rfl _ _ (w.heap.size + 1) _ _ (0, 0) _ rfl (Bk.setRow R0.out _) Try.underlying34 rfl i9') rfl ⟨rfl, below_row B0.out (by omega) _⟩
      | true =>
        by_cases hjk : j < no
        · have hk : kept[j]?.getD false = false := by
            rw [List.getElem?_eq_getElem (by omega)] at hc ⊢
            simpa using hc
          obtain ⟨b, off, rfl, hb, hv⟩ := HM.out.sk.bool (j := j) hjk
          rw [hk] at hv
          have hv := (B0.out.cell (p := ⟨b, off + j, none⟩) hb).trans hv
          have d3 : (j : Int) < (no : Int) := by omega
          have d4 : (j : Int) < (kc : Int) := by omega
          have HV := Lib.hid hv
          have hb' : b < w.heap.size + 1 + 1 := by omega
          have hfit := Lib.hid (fun W => fits_is true a1 a2 a3 a4 a5 a6 oA no oc (some ⟨b, off, none⟩) kc (j : Int) true W ⟨fun _ => by omega, fun _ => rfl⟩)
          rw [bkC_entZ] at *
          clear e8 hlk hlo hln h8 hc hk hv
          go_enter Try.func13, Try.ntmps13
          go_wp2_with (first
            | (go_at_call 17; go_must ((with_reducible refine (hhas.out _).mono ?_); rintro e w1 ⟨rfl, rfl⟩))
            | (go_at_call 18; go_must ((with_reducible refine (hfit.out _).mono ?_); rintro e w1 ⟨rfl, hb1⟩; have B1 := Lib.hid (bnext B0.out hb1); obtain ⟨f0, f7, f8, ff⟩ := (X0.out.below hb1).nine; have R1 := Lib.hid (R0.out.below hb1); have V1 := (hb1.cell (p := ⟨b, off + j, none⟩) (Nat.lt_of_lt_of_le hb B0.out.size)).trans HV.out; clear hb1))
            | (refine wpList_load_mid rfl 34 _ rfl g (og + j * 9) rfl _ _ (HR.out _ B1.out) Try.underlying34 rfl i9 ?_)
            | (refine wpList_store_row rfl 34 _ _ rfl (w.heap.size + 1) (bkC (entI x)) rfl rfl 34 _ R1.out i9' (by rw [s9]; rfl) (bkC_all _) ?_))
          exact bodyPost_ret (v := .agg (bkC (entI x))) (results_cell_row rfl _ _ (w.heap.size + 1) _ _ (0, 0) _ rfl (Bk.setRow R1.out _) Try.underlying34 rfl i9') rfl ⟨rfl, below_row B1.out (by omega) _⟩
        · have d3 : ¬ (j : Int) < (no : Int) := by omega
          have hfit := Lib.hid (fun W => fits_is true a1 a2 a3 a4 a5 a6 oA no oc kA kc (j : Int) false W ⟨(fun h => by cases h), fun h => absurd h.2 d3⟩)
          rw [bkC_entZ] at *
          clear e8 hlk hlo hln h8 hc
          go_enter Try.func13, Try.ntmps13
          go_wp2_with (first
            | (go_at_call 17; go_must ((with_reducible refine (hhas.out _).mono ?_); rintro e w1 ⟨rfl, rfl⟩))
            | (go_at_call 18; go_must ((with_reducible refine (hfit.out _).mono ?_); rintro e w1 ⟨rfl, hb1⟩; have B1 := Lib.hid (bnext B0.out hb1); obtain ⟨f0, f7, f8, ff⟩ := (X0.out.below hb1).nine; have R1 := Lib.hid (R0.out.below hb1); clear hb1))
            | (refine wpList_load_mid rfl 34 _ rfl g (og + j * 9) rfl _ _ (HR.out _ B1.out) Try.underlying34 rfl i9 ?_)
            | (refine wpList_store_row rfl 34 _ _ rfl (w.heap.size + 1) (bkC (entI x)) rfl rfl 34 _ R1.out i9' (by rw [s9]; rfl) (bkC_all _) ?_))
          exact bodyPost_ret (v := .agg (bkC (entI x))) (results_cell_row rfl _ _ (w.heap.size + 1) _ _ (0, 0) _ rfl (Bk.setRow R1.out _) Try.underlying34 rfl i9') rfl ⟨rfl, below_row B1.out (by omega) _⟩
  · have hs : seeS ⟨on, old, kept⟩ l i = entZ := by
      unfold seeS
      rw [if_neg (by rw [hln]; exact hi)]
    rw [hs, bkC_entZ]
    have iZ := infoEnt entZ_eight
    rw [bkC_entZ] at *
    have hhas := Lib.hid (fun W => hasE_any lA ln lc i false W ⟨(fun h => by cases h), fun h => absurd h hi⟩)
    clear e8 hlk hlo hln h8 hs hi
    go_enter Try.func13, Try.ntmps13
    go_wp2_with (first
      | (go_at_call 17; go_must ((with_reducible refine (hhas.out _).mono ?_); rintro e w1 ⟨rfl, rfl⟩))
      | (refine wpList_store_row rfl 34 _ _ rfl (w.heap.size + 1) #[.int .i64 0, .int .i64 0, .int .i64 0, .int .i64 0, .int .i64 0, .int .i64 0, .int .i64 0, .int .i64 0, .int .i64 0] rfl rfl 34 _ R0.out iZ rfl rfl ?_))
    exact bodyPost_ret (v := .agg #[.int .i64 0, .int .i64 0, .int .i64 0, .int .i64 0, .int .i64 0, .int .i64 0, .int .i64 0, .int .i64 0, .int .i64 0]) (results_cell_row rfl _ _ (w.heap.size + 1) _ _ (0, 0) _ rfl R0.out Try.underlying34 rfl iZ) rfl ⟨rfl, B0.out⟩

set_option maxHeartbeats 4000000 in
theorem rsee_any (old : List Ent) (kept : List Bool) (l : List Ent) (lA : Option Addr) (ln lc : Nat) (i : Int) (w : World) (hM : MkIn w old kept oA no oc kA no kc) (hL : Ents w lA lc l) (h8 : Eight l) (hln : l.length = ln) :
    Calls Try.prog 14 #[.agg (mkC on a1 a2 a3 a4 a5 a6 (.slice oA no oc) (.slice kA no kc)), .slice lA ln lc, .int .i64 i] w
      fun e w' => e = .returned (.agg (bkC (entI (seeS ⟨on, old, kept⟩ l i)))) ∧ Below w.heap.size w w' := by
  have HM := Lib.hid hM
  have HL := Lib.hid hL
  have hoc : no ≤ oc := hM.so.2.1
  have hkc : no ≤ kc := hM.sk.2.1
  have hlc : ln ≤ lc := by have := hL.2.1; omega
  have hlk := hM.lk
  have hlo := hM.lo
  have e8 := hM.e8
  have B0 := Lib.hid (kB_below (mkC on a1 a2 a3 a4 a5 a6 (.slice oA no oc) (.slice kA no kc)) (bkC (entI entZ)) 34 w)
  have X0 := Lib.hid (kB_box (mkC on a1 a2 a3 a4 a5 a6 (.slice oA no oc) (.slice kA no kc)) (bkC (entI entZ)) 34 w)
  have R0 := Lib.hid (kB_res (mkC on a1 a2 a3 a4 a5 a6 (.slice oA no oc) (.slice kA no kc)) (bkC (entI entZ)) 34 w)
  clear hM hL
  by_cases hi : 0 ≤ i ∧ i < (ln : Int)
  · have hs : seeS ⟨on, old, kept⟩ l i = if on = true ∧ kept[i.toNat]? = some true then old[i.toNat]?.getD entZ else l[i.toNat]?.getD entZ := by
      unfold seeS
      rw [if_pos (by rw [hln]; exact hi)]
    obtain ⟨j, rfl⟩ : ∃ j : Nat, i = (j : Int) := ⟨i.toNat, by omega⟩
    rw [Int.toNat_natCast] at hs
    have hj : j < ln := by omega
    have hhas := Lib.hid (fun W => hasE_any lA ln lc (j : Int) true W ⟨fun _ => by omega, fun _ => rfl⟩)
    have d0 : (0 : Int) ≤ (j : Int) := by omega
    have d1 : (j : Int) < (ln : Int) := by omega
    have d2 : (j : Int) < (lc : Int) := by omega
    by_cases hc : on = true ∧ kept[j]? = some true
    · rw [if_pos hc] at hs
      obtain ⟨rfl, hk⟩ := hc
      have hjk : j < no := by
        rcases Nat.lt_or_ge j no with h | h
        · exact h
        · rw [List.getElem?_eq_none (by omega)] at hk; cases hk
      obtain ⟨b, off, rfl, hb, hv⟩ := HM.out.sk.bool (j := j) hjk
      rw [hk] at hv
      have hv := (B0.out.cell (p := ⟨b, off + j, none⟩) hb).trans hv
      obtain ⟨g, og, rfl, hg, hl⟩ := HM.out.ents.range e8 (i := j) (by omega)
      have hz := e8.at j
      have d3 : (j : Int) < (no : Int) := by omega
      have d4 : (j : Int) < (kc : Int) := by omega
      have d6 : (j : Int) < (oc : Int) := by omega
      rw [hs]
      generalize old[j]?.getD entZ = x at *
      have HR := Lib.hid (fun W hW => (hl W hW).1)
      have i9 : (Try.prog.info? 34).map (·.size) = some ((entI x).map (Value.int .i64)).length := by rw [List.length_map, entI_length hz]; exact infoEnt9
      have i9' := infoEnt hz
      have s9 : (bkC (entI x)).size = 9 := by rw [bkC_size, entI_length hz]
      obtain ⟨c0, c7, c8, cf⟩ := X0.out.nine
      have cl := X0.out.lt
      have HV := Lib.hid hv
      have hb' : b < w.heap.size + 1 + 1 := by omega
      rw [bkC_entZ] at *
      clear hs hl hk e8 hlk hlo hln h8
      go_enter Try.func14, Try.ntmps14
      go_wp2_with (first
        | (refine wpList_load_mid rfl 34 _ rfl g (og + j * 9) rfl _ _ (HR.out _ B0.out) Try.underlying34 rfl i9 ?_)
        | (refine wpList_store_row rfl 34 _ _ rfl (w.heap.size + 1) (bkC (entI x)) rfl rfl 34 _ R0.out i9' (by rw [s9]; rfl) (bkC_all _) ?_))
      exact bodyPost_ret (v := .agg (bkC (entI x))) (results_cell_row rfl _ _ (w.heap.size + 1) _ _ (0, 0) _ rfl (Bk.setRow R0.out _) Try.underlying34 rfl i9') rfl ⟨rfl, below_row B0.out (by omega) _⟩
    · rw [if_neg hc] at hs
      obtain ⟨g, og, rfl, hg, hl⟩ := HL.out.range h8 (i := j) (by omega)
      have hz := h8.at j
      rw [hs]
      generalize l[j]?.getD entZ = x at *
      have HR := Lib.hid (fun W hW => (hl W hW).1)
      have i9 : (Try.prog.info? 34).map (·.size) = some ((entI x).map (Value.int .i64)).length := by rw [List.length_map, entI_length hz]; exact infoEnt9
      have i9' := infoEnt hz
      have s9 : (bkC (entI x)).size = 9 := by rw [bkC_size, entI_length hz]
      obtain ⟨c0, c7, c8, cf⟩ := X0.out.nine
      have cl := X0.out.lt
      clear hs hl
      cases on with
      | false =>
        rw [bkC_entZ] at *
        clear e8 hlk hlo hln h8 hc
        go_enter Try.func14, Try.ntmps14
        go_wp2_with (first
          | (refine wpList_load_mid rfl 34 _ rfl g (og + j * 9) rfl _ _ (HR.out _ B0.out) Try.underlying34 rfl i9 ?_)
          | (refine wpList_store_row rfl 34 _ _ rfl (w.heap.size + 1) (bkC (entI x)) rfl rfl 34 _ R0.out i9' (by rw [s9]; rfl) (bkC_all _) ?_))
        exact bodyPost_ret (v := .agg (bkC (entI x))) (results_cell_row rfl _ _ (w.heap.size + 1) _ _ (0, 0) _ rfl (Bk.setRow R0.out _) Try.underlying34 rfl i9') rfl ⟨rfl, below_row B0.out (by omega) _⟩
      | true =>
        by_cases hjk : j < no
        · have hk : kept[j]?.getD false = false := by
            rw [List.getElem?_eq_getElem (by omega)] at hc ⊢
            simpa using hc
          obtain ⟨b, off, rfl, hb, hv⟩ := HM.out.sk.bool (j := j) hjk
          rw [hk] at hv
          have hv := (B0.out.cell (p := ⟨b, off + j, none⟩) hb).trans hv
          have d3 : (j : Int) < (no : Int) := by omega
          have d4 : (j : Int) < (kc : Int) := by omega
          have HV := Lib.hid hv
          have hb' : b < w.heap.size + 1 + 1 := by omega
          rw [bkC_entZ] at *
          clear e8 hlk hlo hln h8 hc hk
          go_enter Try.func14, Try.ntmps14
          go_wp2_with (first
            | (refine wpList_load_mid rfl 34 _ rfl g (og + j * 9) rfl _ _ (HR.out _ B0.out) Try.underlying34 rfl i9 ?_)
            | (refine wpList_store_row rfl 34 _ _ rfl (w.heap.size + 1) (bkC (entI x)) rfl rfl 34 _ R0.out i9' (by rw [s9]; rfl) (bkC_all _) ?_))
          exact bodyPost_ret (v := .agg (bkC (entI x))) (results_cell_row rfl _ _ (w.heap.size + 1) _ _ (0, 0) _ rfl (Bk.setRow R0.out _) Try.underlying34 rfl i9') rfl ⟨rfl, below_row B0.out (by omega) _⟩
        · have d3 : ¬ (j : Int) < (no : Int) := by omega
          rw [bkC_entZ] at *
          clear e8 hlk hlo hln h8 hc
          go_enter Try.func14, Try.ntmps14
          go_wp2_with (first
            | (refine wpList_load_mid rfl 34 _ rfl g (og + j * 9) rfl _ _ (HR.out _ B0.out) Try.underlying34 rfl i9 ?_)
            | (refine wpList_store_row rfl 34 _ _ rfl (w.heap.size + 1) (bkC (entI x)) rfl rfl 34 _ R0.out i9' (by rw [s9]; rfl) (bkC_all _) ?_))
          exact bodyPost_ret (v := .agg (bkC (entI x))) (results_cell_row rfl _ _ (w.heap.size + 1) _ _ (0, 0) _ rfl (Bk.setRow R0.out _) Try.underlying34 rfl i9') rfl ⟨rfl, below_row B0.out (by omega) _⟩
  · have hs : seeS ⟨on, old, kept⟩ l i = entZ := by
      unfold seeS
      rw [if_neg (by rw [hln]; exact hi)]
    rw [hs, bkC_entZ]
    have iZ := infoEnt entZ_eight
    rw [bkC_entZ] at *
    clear e8 hlk hlo hln h8 hs
    by_cases h0 : i < 0
    · clear hi
      go_enter Try.func14, Try.ntmps14
      go_wp2_with (refine wpList_store_row rfl 34 _ _ rfl (w.heap.size + 1) #[.int .i64 0, .int .i64 0, .int .i64 0, .int .i64 0, .int .i64 0, .int .i64 0, .int .i64 0, .int .i64 0, .int .i64 0] rfl rfl 34 _ R0.out iZ rfl rfl ?_)
      exact bodyPost_ret (v := .agg #[.int .i64 0, .int .i64 0, .int .i64 0, .int .i64 0, .int .i64 0, .int .i64 0, .int .i64 0, .int .i64 0, .int .i64 0]) (results_cell_row rfl _ _ (w.heap.size + 1) _ _ (0, 0) _ rfl R0.out Try.underlying34 rfl iZ) rfl ⟨rfl, B0.out⟩
    · have h1 : (ln : Int) ≤ i := by omega
      clear hi
      go_enter Try.func14, Try.ntmps14
      go_wp2_with (refine wpList_store_row rfl 34 _ _ rfl (w.heap.size + 1) #[.int .i64 0, .int .i64 0, .int .i64 0, .int .i64 0, .int .i64 0, .int .i64 0, .int .i64 0, .int .i64 0, .int .i64 0] rfl rfl 34 _ R0.out iZ rfl rfl ?_)
      exact bodyPost_ret (v := .agg #[.int .i64 0, .int .i64 0, .int .i64 0, .int .i64 0, .int .i64 0, .int .i64 0, .int .i64 0, .int .i64 0, .int .i64 0]) (results_cell_row rfl _ _ (w.heap.size + 1) _ _ (0, 0) _ rfl R0.out Try.underlying34 rfl iZ) rfl ⟨rfl, B0.out⟩

end
end Go.Proofs.Ytgoamkneenmbgaa
