/-
  What proof's lead and past answer, in whatever memory: a walk's way on, and a walk one instruction further, for lists of at most 1,000 instructions. No conditions but those that stand there.
-/
import Derived.Test.YtlhipaecndgonaaDoorPrfA
import Derived.Test.YtlhipaecndgonaaDoorBut
namespace Go.Proofs.YtlhipaecndgonaaDoor
open Go.RowKit

/-- depths as cells. -/
def dV (d : List Int) : Array Value := (d.map (.int .i64)).toArray
theorem dV_at {d : List Int} {i : Nat} (h : i < d.length) : (dV d)[i]? = some (.int .i64 (dAt d i)) := by simp [dV, dAt, h]
theorem dV_set (d : List Int) (i : Nat) (v : Int) : (dV d).setIfInBounds i (.int .i64 v) = dV (d.set i v) := by
  apply Array.ext'
  simp [dV, List.map_set]

theorem bk_dV {w : World} {g : Nat} {d : List Int} (h : Bk w g 3 (dV d)) {i : Nat} (hi : i < d.length) : w.cell? ⟨g, i, none⟩ = some (.int .i64 (dAt d i)) := (h.cell i).trans (dV_at hi)

abbrev WObj (at' : Int) (g N : Nat) : Obj := .cells #[.int .i64 at', .slice (some ⟨g, 0, none⟩) N N] 45

theorem lead_jump (d : List Int) (g N i : Nat) (wy v : Int) (w : World) (hN : d.length = N) (hi : i + 1 ≤ N) (hN' : N ≤ 1000) (h : wy < 0 ∨ (N : Int) - i - 1 ≤ wy) :
    Calls Tryd.prog 27 #[.agg #[.int .i64 ((i : Int) + 1), .slice (some ⟨g, 0, none⟩) N N], .int .i64 wy, .int .i64 v] w fun e w' => e = .returned (.int .i64 6) ∧ Below w.heap.size w w' := by
  have hb0 : Below w.heap.size w (w.alloc (WObj ((i : Int) + 1) g N)) := (Below.refl _ _).alloc (Nat.le_refl _) _
  have B0 := Lib.hid hb0
  clear hb0
  by_cases h0 : wy < 0
  · clear h
    go_enter Tryd.func27, Tryd.ntmps27
    go_wp2
    go_ret
    exact ⟨rfl, B0.out⟩
  · have h1 : (N : Int) - ((i : Int) + 1) ≤ wy := by omega
    clear h
    go_enter Tryd.func27, Tryd.ntmps27
    go_wp2
    go_ret
    exact ⟨rfl, B0.out⟩

theorem lead_stack (d : List Int) (g N i k : Nat) (v : Int) (w : World) (hN : d.length = N) (hN' : N ≤ 1000) (h : i + 1 + k < N) (hk : Bk w g 3 (dV d)) (h0 : 0 ≤ dAt d (i + 1 + k)) (hv : dAt d (i + 1 + k) ≠ v) :
    Calls Tryd.prog 27 #[.agg #[.int .i64 ((i : Int) + 1), .slice (some ⟨g, 0, none⟩) N N], .int .i64 (k : Int), .int .i64 v] w fun e w' => e = .returned (.int .i64 7) ∧ Below w.heap.size w w' := by
  have hb0 : Below w.heap.size w (w.alloc (WObj ((i : Int) + 1) g N)) := (Below.refl _ _).alloc (Nat.le_refl _) _
  have c0 := bk_dV (hk.below hb0) (i := i + 1 + k) (by omega)
  have B0 := Lib.hid hb0
  have hg := hk.lt
  have e1 : ((i : Int) + 1 + (k : Int)).toNat = i + 1 + k := by omega
  have e2 : (0 : Int) ≤ (i : Int) + 1 + (k : Int) := by omega
  have e3 : (i : Int) + 1 + (k : Int) < (N : Int) := by omega
  have e4 : ¬ (N : Int) - ((i : Int) + 1) ≤ (k : Int) := by omega
  generalize dAt d (i + 1 + k) = x at *
  have f1 : (x != -1) = true := by simp; omega
  have f2 : (x != v) = true := by simpa using hv
  clear hb0 hk hN
  go_enter Tryd.func27, Tryd.ntmps27
  go_wp2
  go_ret
  exact ⟨rfl, B0.out⟩

theorem lead_ok (d : List Int) (g N i k : Nat) (v : Int) (w : World) (hN : d.length = N) (hN' : N ≤ 1000) (h : i + 1 + k < N) (hk : Bk w g 3 (dV d)) (hv : dAt d (i + 1 + k) = -1 ∨ dAt d (i + 1 + k) = v) :
    Calls Tryd.prog 27 #[.agg #[.int .i64 ((i : Int) + 1), .slice (some ⟨g, 0, none⟩) N N], .int .i64 (k : Int), .int .i64 v] w fun e w' => e = .returned (.int .i64 0) ∧ Bk w' g 3 (dV (d.set (i + 1 + k) v)) ∧ But g w w' := by
  have hb0 : Below w.heap.size w (w.alloc (WObj ((i : Int) + 1) g N)) := (Below.refl _ _).alloc (Nat.le_refl _) _
  have k0 := hk.below hb0
  have c0 := bk_dV k0 (i := i + 1 + k) (by omega)
  have c1 := k0.frozen (i + 1 + k)
  have K0 := Lib.hid hk
  have hset := Lib.hid (dV_set d (i + 1 + k) v)
  have hg := hk.lt
  have e1 : ((i : Int) + 1 + (k : Int)).toNat = i + 1 + k := by omega
  have e2 : (0 : Int) ≤ (i : Int) + 1 + (k : Int) := by omega
  have e3 : (i : Int) + 1 + (k : Int) < (N : Int) := by omega
  have e4 : ¬ (N : Int) - ((i : Int) + 1) ≤ (k : Int) := by omega
  generalize dAt d (i + 1 + k) = x at *
  clear hb0 hk hN k0
  rcases hv with rfl | rfl
  · go_enter Tryd.func27, Tryd.ntmps27
    go_wp2
    go_ret
    exact ⟨rfl, by rw [← hset.out]; exact (K0.out.set _ _).alloc _, (But.set _ _ _).trans (But.of_below ((Below.refl _ _).alloc (Nat.le_refl _) _))⟩
  · rcases (show x = -1 ∨ (x != -1) = true by by_cases q : x = -1 <;> simp [q]) with rfl | f1
    · go_enter Tryd.func27, Tryd.ntmps27
      go_wp2
      go_ret
      exact ⟨rfl, by rw [← hset.out]; exact (K0.out.set _ _).alloc _, (But.set _ _ _).trans (But.of_below ((Below.refl _ _).alloc (Nat.le_refl _) _))⟩
    · go_enter Tryd.func27, Tryd.ntmps27
      go_wp2
      go_ret
      exact ⟨rfl, by rw [← hset.out]; exact (K0.out.set _ _).alloc _, (But.set _ _ _).trans (But.of_below ((Below.refl _ _).alloc (Nat.le_refl _) _))⟩

/-- what past answers: the walk one further, with its depths or an error. -/
def PastPost (t : TypeId) (g N i : Nat) (w : World) (R : Except Nat (List Int)) (e : Ending) (w' : World) : Prop :=
  match R with
  | .error z => e = .returned (.tuple #[.agg #[.int .i64 ((i : Int) + 1), .slice (some ⟨g, 0, none⟩) N N], .int .i64 (z : Nat)]) ∧ But g w w'
  | .ok d' => e = .returned (.tuple #[.agg #[.int .i64 ((i : Int) + 1), .slice (some ⟨g, 0, none⟩) N N], .int .i64 0]) ∧ Bk w' g t (dV d') ∧ But g w w'

/-- past's own blocks. -/
structure PastR (t : TypeId) (g N i : Nat) (w wr : World) (d : List Int) : Prop where
  bk : Bk wr g t (dV d)
  box : Bk wr w.heap.size 45 #[.int .i64 ((i : Int) + 1), .slice (some ⟨g, 0, none⟩) N N]
  res : Bk wr (w.heap.size + 1 + 1) 45 #[.int .i64 0, .slice none 0 0]
  but : But g w wr

abbrev past0 (at' : Int) (g N : Nat) (x : Ins) (w : World) : World := ((w.alloc (WObj at' g N)).alloc (.cells #[.int .i64 x.op, .int .i64 x.a, .int .i64 x.b] 35)).alloc (.cells #[.int .i64 0, .slice none 0 0] 45)

theorem past0_below (a : Int) (g N : Nat) (x : Ins) (w : World) : Below w.heap.size w (past0 a g N x w) :=
  (((Below.refl w.heap.size w).alloc (Nat.le_refl _) _).alloc (by rw [World.size_alloc]; omega) _).alloc (by rw [World.size_alloc, World.size_alloc]; omega) _

theorem past0_R {t : TypeId} {g N i : Nat} {w : World} {d : List Int} (x : Ins) (h : Bk w g t (dV d)) : PastR t g N i w (past0 ((i : Int) + 1) g N x w) d := by
  refine ⟨h.below (past0_below _ _ _ _ _), ?_, ?_, But.of_below (past0_below _ _ _ _ _)⟩
  · exact ((Bk.new w 45 _).alloc _).alloc _
  · have := Bk.new ((w.alloc (WObj ((i : Int) + 1) g N)).alloc (.cells #[.int .i64 x.op, .int .i64 x.a, .int .i64 x.b] 35)) 45 #[.int .i64 0, .slice none 0 0]
    rwa [World.size_alloc, World.size_alloc] at this

theorem PastR.below {t : TypeId} {g N i : Nat} {w wr w' : World} {d : List Int} (h : PastR t g N i w wr d) (hb : Below wr.heap.size wr w') : PastR t g N i w w' d :=
  ⟨h.bk.below hb, h.box.below hb, h.res.below hb, h.but.trans (But.of_below hb)⟩

theorem PastR.step {t : TypeId} {g N i : Nat} {w wr w' : World} {d d' : List Int} (h : PastR t g N i w wr d) (hg : g < w.heap.size) (hk : Bk w' g t (dV d')) (hb : But g wr w') : PastR t g N i w w' d' :=
  ⟨hk, hb.bk h.box (by omega), hb.bk h.res (by omega), h.but.trans hb⟩

/-- the end: the walk stored into the result's block. -/
theorem PastR.fin {t : TypeId} {g N i : Nat} {w wr : World} {d : List Int} (h : PastR t g N i w wr d) (hg : g < w.heap.size) :
    Bk ((wr.setCell ⟨w.heap.size + 1 + 1, 0, none⟩ (.int .i64 ((i : Int) + 1))).setCell ⟨w.heap.size + 1 + 1, 1, none⟩ (.slice (some ⟨g, 0, none⟩) N N)) (w.heap.size + 1 + 1) 45 #[.int .i64 ((i : Int) + 1), .slice (some ⟨g, 0, none⟩) N N] ∧
    Bk ((wr.setCell ⟨w.heap.size + 1 + 1, 0, none⟩ (.int .i64 ((i : Int) + 1))).setCell ⟨w.heap.size + 1 + 1, 1, none⟩ (.slice (some ⟨g, 0, none⟩) N N)) g t (dV d) ∧
    But g w ((wr.setCell ⟨w.heap.size + 1 + 1, 0, none⟩ (.int .i64 ((i : Int) + 1))).setCell ⟨w.heap.size + 1 + 1, 1, none⟩ (.slice (some ⟨g, 0, none⟩) N N)) :=
  ⟨by simpa using (h.res.set 0 (.int .i64 ((i : Int) + 1))).set 1 (.slice (some ⟨g, 0, none⟩) N N),
    (h.bk.far (p := ⟨w.heap.size + 1 + 1, 0, none⟩) (by simp; omega) _).far (p := ⟨w.heap.size + 1 + 1, 1, none⟩) (by simp; omega) _,
    (h.but.setNew (p := ⟨w.heap.size + 1 + 1, 0, none⟩) (by simp; omega) _).setNew (p := ⟨w.heap.size + 1 + 1, 1, none⟩) (by simp; omega) _⟩

theorem drop_cons {l : List Int} {k : Nat} (h : k < l.length) : l.drop k = (l[k]?.getD 0) :: l.drop (k + 1) := by
  rw [List.drop_eq_getElem_cons h]
  simp [h]

theorem ways_two (x : Ins) : (waysN x).length ≤ 2 := by
  unfold waysN
  split
  · simp
  · split
    · simp
    · split <;> simp

set_option maxHeartbeats 4000000 in
theorem past_ways (x : Ins) (d : List Int) (g N i : Nat) (dp v : Int) (w : World) (hk : Bk w g 3 (dV d)) (hN : d.length = N) (hi : i < N) (hN' : N ≤ 1000) (hlow : ∀ j, -1 ≤ dAt d j) (hdp : dAt d i = dp) (h0 : 0 ≤ dp) (h1 : (offN x.op : Int) ≤ dp) (h8 : dp ≤ 8) (hv : v = dp - offN x.op + onN x.op) (h9 : v ≤ 8) :
    Calls Tryd.prog 18 #[.agg #[.int .i64 (i : Int), .slice (some ⟨g, 0, none⟩) N N], .agg #[.int .i64 x.op, .int .i64 x.a, .int .i64 x.b]] w (PastPost 3 g N i w (wayD N i v (waysN x) d)) := by
  have hv0 : 0 ≤ v := by omega
  have hbe : Hid (∀ W : World, Calls Tryd.prog 25 #[.int .i64 x.op, .int .i64 dp] W fun e w' => e = .returned (.tuple #[.int .i64 v, .int .i64 0]) ∧ W = w') := Lib.hid (fun W => by
    have := behind_main x.op dp h1 h8 false (decide_eq_false (by omega)) W
    rw [← hv] at this
    exact this)
  have hwy := Lib.hid (fun W => ways_any x W)
  have f0 : (dp == -1) = false := by simp; omega
  have e1 : (i : Int) < (N : Int) := by omega
  have hg := hk.lt
  have c1 : (past0 (i : Int) g N x w).cell? ⟨g, i, none⟩ = some (.int .i64 dp) := by
    rw [← hdp]
    exact bk_dV (hk.below (past0_below _ _ _ _ _)) (by omega)
  have hR0 : Hid (PastR 3 g N i w (past0 ((i : Int) + 1) g N x w) d) := Lib.hid (past0_R x hk)
  have hwl := ways_two x
  obtain ⟨ws, hws⟩ : ∃ ws, ws = waysN x := ⟨_, rfl⟩
  rw [← hws] at hwy hwl ⊢
  obtain ⟨R, hR⟩ : ∃ R, R = wayD N i v ws d := ⟨_, rfl⟩
  rw [← hR]
  have hRw := Lib.hid hR
  have hlow' := Lib.hid hlow
  have hNd := Lib.hid hN
  clear h1 h8 hdp hk hv hws hR hlow hN h0 h9
  go_enter Tryd.func18, Tryd.ntmps18
  go_wp2_with (first
    | (go_at_call 25; go_must ((with_reducible refine (hbe.out _).mono ?_); rintro e w1 ⟨rfl, rfl⟩))
    | (go_at_call 26; go_must ((with_reducible refine (hwy.out _).mono ?_); rintro e w2 ⟨A, rfl, hI, hA, hb2⟩; have R2 := Lib.hid (hR0.out.below hb2); have I2 := Lib.hid hI; have A2 : Hid (∀ b off, A = some ⟨b, off, none⟩ → g ≠ b) := Lib.hid (fun b off h => by have := hA b off h; rw [World.size_alloc, World.size_alloc, World.size_alloc] at this; omega); clear hI hA hb2)))
  go_loopw [38] (fun cc wr => ∃ (k : Nat) (dk : List Int), k ≤ ws.length ∧ cc = .int .i64 k ∧ Hid (PastR 3 g N i w wr dk) ∧ Hid (But g w2 wr) ∧ Hid (R = wayD N i v (ws.drop k) dk) ∧ Hid (dk.length = N) ∧ Hid (∀ j, -1 ≤ dAt dk j)) (fun cc _ => ws.length - (intOf cc).toNat)
  case atStart => exact ⟨0, d, Nat.zero_le _, rfl, R2, Lib.hid (But.refl _ _), hRw, hNd, hlow'⟩
  case round =>
    obtain ⟨k, dk, hkl, rfl, HR, HB, HW, HN, HL⟩ := hrel
    have b0 := HR.out.box.cell 0
    have b1 := HR.out.box.cell 1
    have q0 := HR.out.res.cell 0
    have q1 := HR.out.res.cell 1
    have hsz := HR.out.res.lt
    have qf := HR.out.res.frozen
    simp only [List.getElem?_toArray, List.getElem?_cons_zero, List.getElem?_cons_succ] at b0 b1 q0 q1
    by_cases hlt : k < ws.length
    · have d1 : (k : Int) < (ws.length : Int) := by omega
      obtain ⟨b, off, rfl, hbl, y0⟩ := I2.out.cellAt hlt
      have y1 := (HB.out.cell b (off + k) hbl (A2.out b off rfl).symm).trans y0
      have HW' := HW.out
      rw [drop_cons hlt] at HW'
      obtain ⟨wy, hwy'⟩ : ∃ wy, wy = ws[k]?.getD 0 := ⟨_, rfl⟩
      rw [← hwy'] at HW' y1
      clear y0 hwy'
      rw [wayD] at HW'
      split at HW'
      · rename_i hj
        have hle := Lib.hid (lead_jump dk g N i wy v wr HN.out (by omega) hN' hj)
        clear hj
        subst HW'
        go_wp2_with (go_at_call 27; go_must ((with_reducible refine hle.out.mono ?_); rintro e w3 ⟨rfl, hb3⟩; have R3 := Lib.hid (HR.out.below hb3); have b0' := R3.out.box.cell 0; have b1' := R3.out.box.cell 1; have q0' := R3.out.res.cell 0; have q1' := R3.out.res.cell 1; have hsz' := R3.out.res.lt; have qf' := R3.out.res.frozen; simp only [List.getElem?_toArray, List.getElem?_cons_zero, List.getElem?_cons_succ] at b0' b1' q0' q1'))
        obtain ⟨f1, -, f3⟩ := R3.out.fin hg
        obtain ⟨z0, z1, -⟩ := Bk.two f1
        exact bodyPost_ret (v := .tuple #[.agg #[.int .i64 ((i : Int) + 1), .slice (some ⟨g, 0, none⟩) N N], .int .i64 6]) (by simp [results, Tryd.results18, go_sem, z0, z1]) rfl ⟨rfl, f3⟩
      · rename_i hj
        obtain ⟨kk, rfl⟩ := Int.eq_ofNat_of_zero_le (show 0 ≤ wy by omega)
        have hkk : i + 1 + kk < N := by omega
        rw [Int.toNat_natCast] at HW'
        split at HW'
        · rename_i hs
          have hle := Lib.hid (lead_stack dk g N i kk v wr HN.out hN' hkk HR.out.bk hs.1 hs.2)
          clear hs hj
          subst HW'
          go_wp2_with (go_at_call 27; go_must ((with_reducible refine hle.out.mono ?_); rintro e w3 ⟨rfl, hb3⟩; have R3 := Lib.hid (HR.out.below hb3); have b0' := R3.out.box.cell 0; have b1' := R3.out.box.cell 1; have q0' := R3.out.res.cell 0; have q1' := R3.out.res.cell 1; have hsz' := R3.out.res.lt; have qf' := R3.out.res.frozen; simp only [List.getElem?_toArray, List.getElem?_cons_zero, List.getElem?_cons_succ] at b0' b1' q0' q1'))
          obtain ⟨f1, -, f3⟩ := R3.out.fin hg
          obtain ⟨z0, z1, -⟩ := Bk.two f1
          exact bodyPost_ret (v := .tuple #[.agg #[.int .i64 ((i : Int) + 1), .slice (some ⟨g, 0, none⟩) N N], .int .i64 7]) (by simp [results, Tryd.results18, go_sem, z0, z1]) rfl ⟨rfl, f3⟩
        · rename_i hs
          have hle := Lib.hid (lead_ok dk g N i kk v wr HN.out hN' hkk HR.out.bk (by have := HL.out (i + 1 + kk); omega))
          have HW2 := Lib.hid HW'
          have HN2 : Hid ((dk.set (i + 1 + kk) v).length = N) := Lib.hid (by rw [List.length_set]; exact HN.out)
          have HL2 : Hid (∀ j, -1 ≤ dAt (dk.set (i + 1 + kk) v) j) := Lib.hid (fun j => by
            by_cases e : i + 1 + kk = j
            · subst e; rw [dAt_set_same (by rw [HN.out]; exact hkk)]; omega
            · rw [dAt_set_ne e]; exact HL.out j)
          clear hs hj HW'
          go_wp2_with (go_at_call 27; go_must ((with_reducible refine hle.out.mono ?_); rintro e w3 ⟨rfl, hk3, hb3⟩; have R3 := Lib.hid (HR.out.step hg hk3 hb3); have B3 := Lib.hid (HB.out.trans hb3); clear hk3 hb3))
          go_roundw
          case rel => exact ⟨k + 1, _, by omega, by go_num, R3, B3, HW2, HN2, HL2⟩
          case measure => simp [intOf]; omega
    · obtain rfl : k = ws.length := by omega
      have HW' := HW.out
      rw [List.drop_length, wayD] at HW'
      subst HW'
      clear hlt
      go_wp2
      obtain ⟨f1, f2, f3⟩ := HR.out.fin hg
      obtain ⟨z0, z1, -⟩ := Bk.two f1
      exact bodyPost_ret (v := .tuple #[.agg #[.int .i64 ((i : Int) + 1), .slice (some ⟨g, 0, none⟩) N N], .int .i64 0]) (by simp [results, Tryd.results18, go_sem, z0, z1]) rfl ⟨rfl, f2, f3⟩

theorem past1_fin {t : TypeId} {g N i : Nat} {w : World} {d : List Int} (x : Ins) (h : Bk w g t (dV d)) (W : World) (hW : W = ((w.alloc (WObj ((i : Int) + 1) g N)).alloc (.cells #[.int .i64 x.op, .int .i64 x.a, .int .i64 x.b] 35)).alloc (WObj ((i : Int) + 1) g N)) :
    Bk W (w.heap.size + 1 + 1) 45 #[.int .i64 ((i : Int) + 1), .slice (some ⟨g, 0, none⟩) N N] ∧ Bk W g t (dV d) ∧ But g w W := by
  have hb : Below w.heap.size w W := by
    rw [hW]
    exact (((Below.refl w.heap.size w).alloc (Nat.le_refl _) _).alloc (by rw [World.size_alloc]; omega) _).alloc (by rw [World.size_alloc, World.size_alloc]; omega) _
  refine ⟨?_, h.below hb, But.of_below hb⟩
  rw [hW]
  have := Bk.new ((w.alloc (WObj ((i : Int) + 1) g N)).alloc (.cells #[.int .i64 x.op, .int .i64 x.a, .int .i64 x.b] 35)) 45 #[.int .i64 ((i : Int) + 1), .slice (some ⟨g, 0, none⟩) N N]
  rwa [World.size_alloc, World.size_alloc] at this

/-- past where no way leads. -/
theorem past_none (x : Ins) (d : List Int) (g N i : Nat) (w : World) (hk : Bk w g 3 (dV d)) (hN : d.length = N) (hi : i < N) (hN' : N ≤ 1000) (hdp : dAt d i = -1) :
    Calls Tryd.prog 18 #[.agg #[.int .i64 (i : Int), .slice (some ⟨g, 0, none⟩) N N], .agg #[.int .i64 x.op, .int .i64 x.a, .int .i64 x.b]] w (PastPost 3 g N i w (.ok d)) := by
  have e1 : (i : Int) < (N : Int) := by omega
  have hg := hk.lt
  have c1 : (past0 (i : Int) g N x w).cell? ⟨g, i, none⟩ = some (.int .i64 (-1)) := by
    rw [← hdp]
    exact bk_dV (hk.below (past0_below _ _ _ _ _)) (by omega)
  have hF := Lib.hid (past1_fin (N := N) (i := i) x hk)
  clear hdp hk hN
  go_enter Tryd.func18, Tryd.ntmps18
  go_wp2
  obtain ⟨f1, f2, f3⟩ := hF.out _ rfl
  obtain ⟨z0, z1, -⟩ := Bk.two f1
  exact bodyPost_ret (v := .tuple #[.agg #[.int .i64 ((i : Int) + 1), .slice (some ⟨g, 0, none⟩) N N], .int .i64 0]) (by simp [results, Tryd.results18, go_sem, z0, z1]) rfl ⟨rfl, f2, f3⟩

/-- past where the stack isn't as it must be. -/
theorem past_stack (x : Ins) (d : List Int) (g N i : Nat) (dp : Int) (w : World) (hk : Bk w g 3 (dV d)) (hN : d.length = N) (hi : i < N) (hN' : N ≤ 1000) (hdp : dAt d i = dp) (h0 : 0 ≤ dp) (h8 : dp ≤ 8) (h : dp < offN x.op ∨ 8 < dp - offN x.op + onN x.op) :
    Calls Tryd.prog 18 #[.agg #[.int .i64 (i : Int), .slice (some ⟨g, 0, none⟩) N N], .agg #[.int .i64 x.op, .int .i64 x.a, .int .i64 x.b]] w (PastPost 3 g N i w (.error 7)) := by
  have hbe : Hid (∀ W : World, Calls Tryd.prog 25 #[.int .i64 x.op, .int .i64 dp] W fun e w' => e = .returned (.tuple #[.int .i64 0, .int .i64 7]) ∧ W = w') := Lib.hid (fun W => by
    by_cases h1 : dp < offN x.op
    · exact behind_low x.op dp h1 W
    · exact behind_main x.op dp (by omega) h8 true (decide_eq_true (by omega)) W)
  have f0 : (dp == -1) = false := by simp; omega
  have e1 : (i : Int) < (N : Int) := by omega
  have hg := hk.lt
  have c1 : (past0 (i : Int) g N x w).cell? ⟨g, i, none⟩ = some (.int .i64 dp) := by
    rw [← hdp]
    exact bk_dV (hk.below (past0_below _ _ _ _ _)) (by omega)
  have hF := Lib.hid (past1_fin (N := N) (i := i) x hk)
  clear hdp hk hN h h0 h8
  go_enter Tryd.func18, Tryd.ntmps18
  go_wp2_with (go_at_call 25; go_must ((with_reducible refine (hbe.out _).mono ?_); rintro e w1 ⟨rfl, rfl⟩))
  obtain ⟨f1, f2, f3⟩ := hF.out _ rfl
  obtain ⟨z0, z1, -⟩ := Bk.two f1
  exact bodyPost_ret (v := .tuple #[.agg #[.int .i64 ((i : Int) + 1), .slice (some ⟨g, 0, none⟩) N N], .int .i64 7]) (by simp [results, Tryd.results18, go_sem, z0, z1]) rfl ⟨rfl, f3⟩

/-- past, whatever comes: one instruction further. -/
theorem past_any (l : List Ins) (d : List Int) (g N i : Nat) (w : World) (hk : Bk w g 3 (dV d)) (hN : d.length = N) (hl : l.length = N) (hi : i < N) (hN' : N ≤ 1000) (hd : ∀ j, -1 ≤ dAt d j ∧ dAt d j ≤ 8) :
    Calls Tryd.prog 18 #[.agg #[.int .i64 (i : Int), .slice (some ⟨g, 0, none⟩) N N], .agg #[.int .i64 (insAt l i).op, .int .i64 (insAt l i).a, .int .i64 (insAt l i).b]] w (PastPost 3 g N i w (insD l i d)) := by
  have hdi := hd i
  rw [insD, hl]
  split
  · exact past_none _ d g N i w hk hN hi hN' (by omega)
  · split
    · rename_i h0 h1
      exact past_stack _ d g N i _ w hk hN hi hN' rfl (by omega) hdi.2 h1
    · rename_i h0 h1
      exact past_ways _ d g N i _ _ w hk hN hi hN' (fun j => (hd j).1) rfl (by omega) (by omega) hdi.2 rfl (by omega)

end Go.Proofs.YtlhipaecndgonaaDoor
