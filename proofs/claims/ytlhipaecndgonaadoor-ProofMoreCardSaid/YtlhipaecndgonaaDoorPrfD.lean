/-
  What proof.Depths answers, in whatever memory, of lists of 1 to 1,000 instructions. No conditions but those that stand there.
-/
import Derived.Test.YtlhipaecndgonaaDoorPrfC
import Derived.Test.YtlhipaecndgonaaDoorPrfQ
import Derived.Test.YtlhipaecndgonaaDoorAsmW
namespace Go.Proofs.YtlhipaecndgonaaDoor
open Go.RowKit

theorem wayD_bounds {len i : Nat} {v : Int} (hv : 0 ≤ v ∧ v ≤ 8) : ∀ (ws : List Int) (d d' : List Int), d.length = len → wayD len i v ws d = .ok d' → (∀ j, -1 ≤ dAt d j ∧ dAt d j ≤ 8) → ∀ j, -1 ≤ dAt d' j ∧ dAt d' j ≤ 8
  | [], d, d', _, h, hb => by
    simp only [wayD, Except.ok.injEq] at h
    subst h
    exact hb
  | w :: ws, d, d', hl, h, hb => by
    rw [wayD] at h
    split at h
    · cases h
    · split at h
      · cases h
      · rename_i h1 h2
        refine wayD_bounds hv ws _ d' (by simp [hl]) h (fun j => ?_)
        by_cases e : i + 1 + w.toNat = j
        · subst e; rw [dAt_set_same (by omega)]; omega
        · rw [dAt_set_ne e]; exact hb j

theorem insD_bounds {l : List Ins} {i : Nat} {d d' : List Int} (hl : d.length = l.length) (h : insD l i d = .ok d') (hb : ∀ j, -1 ≤ dAt d j ∧ dAt d j ≤ 8) : ∀ j, -1 ≤ dAt d' j ∧ dAt d' j ≤ 8 := by
  rw [insD] at h
  split at h
  · simp only [Except.ok.injEq] at h
    subst h
    exact hb
  · split at h
    · cases h
    · rename_i h0 h1
      exact wayD_bounds (by omega) _ _ _ hl h hb

theorem startD0_bounds (n : Nat) : ∀ j, -1 ≤ dAt (startD0 n) j ∧ dAt (startD0 n) j ≤ 8 := by
  intro j
  by_cases hj : j < n
  · rw [startD0_at hj]; split <;> omega
  · rw [dAt, List.getElem?_eq_none (by rw [startD0_length]; omega)]; decide

/-- what Depths answers. -/
def DepthsPost (t : TypeId) (N : Nat) (w : World) (R : Except Nat (List Int)) (e : Ending) (w' : World) : Prop :=
  match R with
  | .error z => e = .returned (.tuple #[.slice none 0 0, .int .i64 (z : Nat)]) ∧ Below w.heap.size w w'
  | .ok d => ∃ g, w.heap.size ≤ g ∧ e = .returned (.tuple #[.slice (some ⟨g, 0, none⟩) N N, .int .i64 0]) ∧ Bk w' g t (dV d) ∧ Below w.heap.size w w'

abbrev depW (w3 : World) (i g H N : Nat) : World := ((w3.setCell ⟨H, 0, none⟩ (.int .i64 ((i : Int) + 1))).setCell ⟨H, 1, none⟩ (.slice (some ⟨g, 0, none⟩) N N)).alloc (WObj ((i : Int) + 1) g N)

theorem dep_row {w3 : World} {i g H N : Nat} {t : TypeId} {d : List Int} (h : Bk w3 g t (dV d)) (hg : g < H) : Bk (depW w3 i g H N) g t (dV d) :=
  ((h.far (p := ⟨H, 0, none⟩) (by simp; omega) _).far (p := ⟨H, 1, none⟩) (by simp; omega) _).alloc _

theorem dep_box {w3 : World} {i g H N : Nat} (h : Bk w3 H 45 #[.int .i64 (i : Int), .slice (some ⟨g, 0, none⟩) N N]) : Bk (depW w3 i g H N) H 45 #[.int .i64 ((i + 1 : Nat) : Int), .slice (some ⟨g, 0, none⟩) N N] := by
  have := ((h.set 0 (.int .i64 ((i : Int) + 1))).set 1 (.slice (some ⟨g, 0, none⟩) N N)).alloc (WObj ((i : Int) + 1) g N)
  simpa using this

theorem dep_below {w w3 : World} {i g H N : Nat} (h : Below w.heap.size w w3) (hH : w.heap.size ≤ H) : Below w.heap.size w (depW w3 i g H N) := by
  have h2 : Below w.heap.size w ((w3.setCell ⟨H, 0, none⟩ (.int .i64 ((i : Int) + 1))).setCell ⟨H, 1, none⟩ (.slice (some ⟨g, 0, none⟩) N N)) := h.trans ⟨rfl, rfl, rfl, by simp, fun k hk => (Below.heap_setCell _ ⟨H, 1, none⟩ _ k (by simp; omega)).trans (Below.heap_setCell _ ⟨H, 0, none⟩ _ k (by simp; omega))⟩
  exact bnext h2 ((Below.refl _ _).alloc (Nat.le_refl _) _)

set_option maxHeartbeats 8000000 in
theorem depths_any (l : List Ins) (A : Option Addr) (c N : Nat) (w : World) (h : Inss w A c l) (hl : l.length = N) (h1 : 1 ≤ N) (hN : N ≤ 1000) :
    Calls Tryd.prog 10 #[.slice A N c] w (DepthsPost 3 N w (depthsN l)) := by
  have hst := Lib.hid (start_any N w h1 hN)
  obtain ⟨R, hR⟩ : ∃ R, R = depthsN l := ⟨_, rfl⟩
  rw [← hR]
  have hR' := Lib.hid (show R = goD l N 0 (startD0 N) by rw [hR, depthsN, hl])
  have hl' := Lib.hid hl
  have h' := Lib.hid h
  have hc := h.2.1
  rw [hl] at hc
  clear h hl hR
  go_enter Tryd.func10, Tryd.ntmps10
  go_wp2_with (go_at_call 17; go_must ((with_reducible refine hst.out.mono ?_); rintro e w1 ⟨g, hg, rfl, hk1, hb1⟩; have K1 := Lib.hid (hk1.alloc (WObj 0 g N)); have H1 := Lib.hid (Bk.new w1 45 #[.int .i64 0, .slice (some ⟨g, 0, none⟩) N N]); have B1 := Lib.hid (bnext hb1 ((Below.refl _ _).alloc (Nat.le_refl _) (WObj 0 g N))); have G1 := hk1.lt; have s1 := hb1.size; clear hk1 hb1))
  obtain ⟨H, hH⟩ : ∃ H, H = w1.heap.size := ⟨_, rfl⟩
  rw [← hH] at H1 G1 s1 ⊢
  have hsz1 : H < (w1.alloc (WObj 0 g N)).heap.size := by rw [World.size_alloc]; omega
  clear hH
  go_loopw [14] (fun cc wr => ∃ (i : Nat) (di : List Int), i ≤ N ∧ cc = .int .i64 i ∧ Hid (Bk wr g 3 (dV di)) ∧ Hid (Bk wr H 45 #[.int .i64 (i : Int), .slice (some ⟨g, 0, none⟩) N N]) ∧ Hid (Below w.heap.size w wr) ∧ Hid (R = goD l (N - i) i di) ∧ Hid (di.length = N) ∧ Hid (∀ j, -1 ≤ dAt di j ∧ dAt di j ≤ 8)) (fun cc _ => N - (intOf cc).toNat)
  case atStart => exact ⟨0, startD0 N, Nat.zero_le _, rfl, K1, H1, B1, hR', Lib.hid (startD0_length N), Lib.hid (startD0_bounds N)⟩
  case round =>
    obtain ⟨i, di, hi, rfl, HK, HH, HB, HR, HL, HD⟩ := hrel
    have r0 := HH.out.cell 0
    have r1 := HH.out.cell 1
    have rl := HH.out.lt
    simp only [List.getElem?_toArray, List.getElem?_cons_zero, List.getElem?_cons_succ] at r0 r1
    by_cases hlt : i < N
    · have d1 : (i : Int) < (N : Int) := by omega
      have d2 : (i : Int) < (c : Int) := by omega
      obtain ⟨b, off, rfl, hbl, x0, x1, x2⟩ := (h'.out.below HB.out).cellAt (j := i) (by rw [hl'.out]; exact hlt)
      have hpa := past_any l di g N i (wr.alloc (IObj (insAt l i))) (HK.out.alloc _) HL.out hl'.out hlt hN HD.out
      have HR2 := HR.out
      rw [show N - i = (N - (i + 1)) + 1 by omega, goD] at HR2
      cases hz : insD l i di with
      | error z =>
        rw [hz] at hpa HR2
        simp only at HR2
        subst HR2
        have hp : Hid (Calls Tryd.prog 18 #[.agg #[.int .i64 (i : Int), .slice (some ⟨g, 0, none⟩) N N], .agg #[.int .i64 (insAt l i).op, .int .i64 (insAt l i).a, .int .i64 (insAt l i).b]] (wr.alloc (IObj (insAt l i))) fun e w' => e = .returned (.tuple #[.agg #[.int .i64 ((i : Int) + 1), .slice (some ⟨g, 0, none⟩) N N], .int .i64 (z : Nat)]) ∧ But g (wr.alloc (IObj (insAt l i))) w') := Lib.hid hpa
        have hz6 : 6 ≤ (z : Int) := by have := insD_err hz; omega
        clear hpa hz
        generalize insAt l i = x at *
        go_wp2_with (go_at_call 18; go_must ((with_reducible refine hp.out.mono ?_); rintro e w3 ⟨rfl, hb3⟩; have B3 := Lib.hid ((hb3).below (bnext HB.out ((Below.refl _ _).alloc (Nat.le_refl _) (IObj x))) hg (by rw [World.size_alloc]; exact Nat.le_succ_of_le HB.out.size)); clear hb3))
        go_ret2
        exact ⟨rfl, bnext B3.out ((Below.refl _ _).alloc (Nat.le_refl _) _)⟩
      | ok d' =>
        rw [hz] at hpa HR2
        simp only at HR2
        have hp : Hid (Calls Tryd.prog 18 #[.agg #[.int .i64 (i : Int), .slice (some ⟨g, 0, none⟩) N N], .agg #[.int .i64 (insAt l i).op, .int .i64 (insAt l i).a, .int .i64 (insAt l i).b]] (wr.alloc (IObj (insAt l i))) fun e w' => e = .returned (.tuple #[.agg #[.int .i64 ((i : Int) + 1), .slice (some ⟨g, 0, none⟩) N N], .int .i64 0]) ∧ Bk w' g 3 (dV d') ∧ But g (wr.alloc (IObj (insAt l i))) w') := Lib.hid hpa
        have HR3 := Lib.hid HR2
        have HL3 : Hid (d'.length = N) := Lib.hid ((ins_grew (HL.out.trans hl'.out.symm) hz).1.len.trans HL.out)
        have HD3 := Lib.hid (insD_bounds (HL.out.trans hl'.out.symm) hz HD.out)
        clear hpa hz HR2
        generalize insAt l i = x at *
        go_wp2_with (go_at_call 18; go_must ((with_reducible refine hp.out.mono ?_); rintro e w3 ⟨rfl, hk3, hb3⟩; have K3 := Lib.hid hk3; have H3 := Lib.hid (hb3.bk (HH.out.alloc (IObj x)) (by omega)); have B3 := Lib.hid ((hb3).below (bnext HB.out ((Below.refl _ _).alloc (Nat.le_refl _) (IObj x))) hg (by rw [World.size_alloc]; exact Nat.le_succ_of_le HB.out.size)); have y0 := H3.out.cell 0; have y1 := H3.out.cell 1; have yl := H3.out.lt; have yf := H3.out.frozen; simp only [List.getElem?_toArray, List.getElem?_cons_zero, List.getElem?_cons_succ] at y0 y1; clear hk3 hb3))
        go_roundw
        case rel => exact ⟨i + 1, d', by omega, by go_num, Lib.hid (dep_row K3.out G1), Lib.hid (dep_box H3.out), Lib.hid (dep_below B3.out s1), HR3, HL3, HD3⟩
        case measure => simp [intOf]; omega
    · obtain rfl : i = N := by omega
      have HR2 := HR.out
      rw [Nat.sub_self, goD] at HR2
      subst HR2
      clear hlt
      go_wp2
      go_ret2
      exact ⟨g, hg, rfl, HK.out, HB.out⟩

end Go.Proofs.YtlhipaecndgonaaDoor
