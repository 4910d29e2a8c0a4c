/-
  What the reference's Depths of layer 7 answers, in whatever memory, of lists of 1 to 1,000 instructions. No conditions but those that stand there.
-/
import Derived.Test.YtldljohholgmoaaZRckA
import Derived.Test.YtldljohholgmoaaZDptM
import Derived.Test.YtldljohholgmoaaZIntS
import Derived.Test.YtldljohholgmoaaZBut
import Derived.Test.YtldljohholgmoaaZAsmW
import Derived.Test.YtldljohholgmoaaZOwn
import Derived.Deep.DeepMust
import Derived.Deep.MidRow
import Derived.Lib.Agree
namespace Go.Proofs.Ytldljohholgmoaa
open Go.RowKit

/-- the depths while they are filled: a nought, then -1 up to a place, then noughts. -/
def fillD (N i : Nat) : List Int := (List.range N).map fun j => if j = 0 then 0 else if j < i then -1 else 0
theorem fillD_length (N i : Nat) : (fillD N i).length = N := by simp [fillD]
theorem fillD_full (N : Nat) : fillD N N = startD0 N := by
  unfold fillD startD0
  apply List.map_congr_left
  intro j hj
  rw [List.mem_range] at hj
  by_cases h : j = 0
  · rw [if_pos h, if_pos h]
  · rw [if_neg h, if_neg h, if_pos hj]
theorem fillD_set (N i : Nat) (h0 : 1 ≤ i) (h : i < N) : (fillD N i).set i (-1) = fillD N (i + 1) := by
  apply List.ext_getElem?
  intro j
  rw [List.getElem?_set]
  by_cases hj : j < N
  · by_cases e : i = j
    · subst e
      rw [if_pos rfl, if_pos (by rw [fillD_length]; exact h)]
      simp [fillD, h]
      omega
    · rw [if_neg e]
      simp only [fillD, List.getElem?_map, List.getElem?_range hj, Option.map_some]
      by_cases h0 : j = 0
      · rw [if_pos h0, if_pos h0]
      · rw [if_neg h0, if_neg h0]
        by_cases hji : j < i
        · rw [if_pos hji, if_pos (by omega)]
        · rw [if_neg hji, if_neg (by omega)]
  · by_cases e : i = j
    · omega
    · rw [if_neg e, List.getElem?_eq_none (by rw [fillD_length]; omega), List.getElem?_eq_none (by rw [fillD_length]; omega)]
theorem fillD_made (N : Nat) : madeCells #[.int .i64 0] N = dV (fillD N 1) := by
  apply Array.ext'
  rw [toList_madeCells_one]
  unfold dV fillD
  apply List.ext_getElem?
  intro j
  by_cases hj : j < N
  · simp [hj]
  · rw [List.getElem?_eq_none (by simp; omega), List.getElem?_eq_none (by simp; omega)]

theorem infoI3 : (Try.prog.info? 3).map (fun i => (i.zero, i.size, i.bytes)) = some (some (.int .i64 0), 1, 8) := by kernel_rfl
theorem makeD (w : World) (n : Nat) (h : n ≤ 1000) :
    (Instr.makeSlice 23 (.int .i64 (n : Int)) (.int .i64 (n : Int))).run Try.prog w = .ok (.slice (some ⟨w.heap.size, 0, none⟩) n n) (w.alloc (.cells (madeCells #[.int .i64 0] n) 3)) :=
  run_make_row' 23 3 _ 8 Try.underlying23 infoI3 rfl .i64 .i64 n (by omega) (by omega) w

/-- the ways of an instruction, laid: a row of one's own, or none. -/
def WaysIn (w0 w : World) (A : Option Addr) (K : Nat) (ws : List Int) : Prop := Ints w A K ws ∧ K = ws.length ∧ ∀ b off, A = some ⟨b, off, none⟩ → w0.heap.size ≤ b
theorem ways_nilIn (w : World) : WaysIn w w none 0 [] := ⟨⟨rfl, Nat.le_refl _, fun _ => ⟨rfl, rfl⟩, fun h => absurd h (by simp)⟩, rfl, fun _ _ h => by cases h⟩
theorem ways_newIn (l : List Int) (w : World) : WaysIn w (w.alloc (.cells (l.map (.int .i64)).toArray 3)) (some ⟨w.heap.size, 0, none⟩) l.length l :=
  ⟨ints_new l w, rfl, fun b off h => by injection h with h; injection h with h; omega⟩

/-- what comes behind some ways. -/
def nextD (l : List Ins) (N i : Nat) (v : Int) (ws d : List Int) : Except Nat (List Int) :=
  match wayD N i v ws d with
  | .error e => .error e
  | .ok d' => goD l (N - (i + 1)) (i + 1) d'
theorem nextD_nil {l : List Ins} {N i : Nat} {v : Int} {d : List Int} : nextD l N i v [] d = goD l (N - (i + 1)) (i + 1) d := rfl
theorem nextD_jump {l : List Ins} {N i : Nat} {v y : Int} {ws d : List Int} (h : y < 0 ∨ (N : Int) - (i : Int) - 1 ≤ y) : nextD l N i v (y :: ws) d = .error 6 := by
  unfold nextD
  rw [wayD, if_pos h]
theorem nextD_stack {l : List Ins} {N i k : Nat} {v : Int} {ws d : List Int} (h0 : ¬ (k : Int) < 0) (h1 : ¬ (N : Int) - (i : Int) - 1 ≤ (k : Int)) (h : 0 ≤ dAt d (i + 1 + k) ∧ dAt d (i + 1 + k) ≠ v) : nextD l N i v ((k : Int) :: ws) d = .error 7 := by
  unfold nextD
  rw [wayD, if_neg (fun q => q.elim h0 h1), Int.toNat_natCast, if_pos h]
theorem nextD_ok {l : List Ins} {N i k : Nat} {v : Int} {ws d : List Int} (h0 : ¬ (k : Int) < 0) (h1 : ¬ (N : Int) - (i : Int) - 1 ≤ (k : Int)) (h : ¬ (0 ≤ dAt d (i + 1 + k) ∧ dAt d (i + 1 + k) ≠ v)) : nextD l N i v ((k : Int) :: ws) d = nextD l N i v ws (d.set (i + 1 + k) v) := by
  unfold nextD
  rw [wayD, if_neg (fun q => q.elim h0 h1), Int.toNat_natCast, if_neg h]

set_option maxHeartbeats 16000000 in
set_option maxRecDepth 100000 in
theorem rdepths_any (l : List Ins) (A : Option Addr) (c N : Nat) (w : World) (h : Inss w A c l) (hl : l.length = N) (h1 : 1 ≤ N) (hN : N ≤ 1000) :
    Calls Try.prog 49 #[.slice A N c] w (DepthsPost 3 N w (depthsN l)) := by
  obtain ⟨R, hR⟩ : ∃ R, R = depthsN l := ⟨_, rfl⟩
  rw [← hR]
  have hR' := Lib.hid (show R = goD l N 0 (startD0 N) by rw [hR, depthsN, hl])
  have hl' := Lib.hid hl
  have h' := Lib.hid h
  have hc := h.2.1
  rw [hl] at hc
  have hmk := makeD w N hN
  have K0 : Hid (Bk (w.alloc (.cells (madeCells #[.int .i64 0] N) 3)) w.heap.size 3 (dV (fillD N 1))) := Lib.hid (by
    have := Bk.new w 3 (madeCells #[.int .i64 0] N)
    rwa [fillD_made] at this ⊢)
  have B0 := Lib.hid (below_alloc1 w (.cells (madeCells #[.int .i64 0] N) 3))
  clear h hl hR
  go_enter Try.func49, Try.ntmps49
  go_wp2
  clear hmk
  obtain ⟨W0, hW0⟩ : ∃ W0, W0 = w.alloc (.cells (madeCells #[.int .i64 0] N) 3) := ⟨_, rfl⟩
  rw [← hW0] at K0 B0 ⊢
  clear hW0
  obtain ⟨g, hg⟩ : ∃ g, g = w.heap.size := ⟨_, rfl⟩
  rw [← hg] at K0 ⊢
  have hgE := Lib.hid hg
  clear hg
  go_loopw [5] (fun cc wr => ∃ i : Nat, 1 ≤ i ∧ i ≤ N ∧ cc = .int .i64 i ∧ Hid (Bk wr g 3 (dV (fillD N i))) ∧ Hid (Below w.heap.size w wr)) (fun cc _ => N - (intOf cc).toNat)
  case atStart => exact ⟨1, Nat.le_refl _, h1, rfl, K0, B0⟩
  case round =>
    obtain ⟨i, hi1, hi, rfl, HK, HB⟩ := hrel
    have r0 := HK.out.lt
    have rf := HK.out.frozen i
    by_cases hlt : i < N
    · have d1 : (i : Int) < (N : Int) := by omega
      have x0 := bk_dV HK.out (i := i) (by rw [fillD_length]; exact hlt)
      have hst := Lib.hid (dV_set (fillD N i) i (-1))
      go_wp2
      go_roundw
      case rel => exact ⟨i + 1, by omega, by omega, by go_num, Lib.hid (by rw [← fillD_set N i hi1 hlt, ← hst.out]; exact HK.out.set i _), Lib.hid (HB.out.setCell (p := ⟨g, i, none⟩) (by rw [hgE.out]; exact Nat.le_refl _) _)⟩
      case measure => simp [intOf]; omega
    · obtain rfl : i = N := by omega
      clear hlt rf
      have K1 : Hid (Bk wr g 3 (dV (startD0 i))) := Lib.hid (by rw [← fillD_full]; exact HK.out)
      clear HK
      obtain ⟨N, rfl⟩ : ∃ N, N = i := ⟨i, rfl⟩
      clear hi1 hi r0
      go_wp2
      go_loopw [6] (fun cc wr => ∃ (i : Nat) (di : List Int), i ≤ N ∧ cc = .int .i64 i ∧ Hid (Bk wr g 3 (dV di)) ∧ Hid (Below w.heap.size w wr) ∧ Hid (R = goD l (N - i) i di) ∧ Hid (di.length = N) ∧ Hid (∀ j, -1 ≤ dAt di j ∧ dAt di j ≤ 8)) (fun cc _ => N - (intOf cc).toNat)
      case atStart => exact ⟨0, startD0 N, Nat.zero_le _, rfl, K1, HB, hR', Lib.hid (startD0_length N), Lib.hid (startD0_bounds N)⟩
      case round =>
        clear K1 HB hR'
        obtain ⟨i, di, hi, rfl, HK, HB, HR, HL, HD⟩ := hrel
        have r0 := HK.out.lt
        by_cases hlt : i < N
        · have d1 : (i : Int) < (N : Int) := by omega
          have d2 : (i : Int) < (c : Int) := by omega
          have x0 := bk_dV HK.out (i := i) (by rw [HL.out]; exact hlt)
          have hR2 := HR.out
          rw [show N - i = (N - (i + 1)) + 1 by omega, goD, insD] at hR2
          have HDi := HD.out i
          have H0 := Lib.hid (rfl : dAt di i = dAt di i)
          by_cases hneg : dAt di i < 0
          · rw [if_pos hneg] at hR2
            simp only at hR2
            have HR3 := Lib.hid hR2
            have e1 : decide (dAt di i < 0) = true := decide_eq_true hneg
            clear hR2
            generalize dAt di i = dp at *
            go_wp2
            go_roundw
            case rel => exact ⟨i + 1, di, by omega, by go_num, HK, HB, HR3, HL, HD⟩
            case measure => simp [intOf]; omega
          · rw [if_neg hneg] at hR2
            obtain ⟨b, off, rfl, hbl, y0, y1, y2⟩ := (h'.out.below HB.out).cellAt (j := i) (by rw [hl'.out]; exact hlt)
            have e1 : decide (dAt di i < 0) = false := decide_eq_false hneg
            have hof := on_off (insAt l i).op
            have hmv := Lib.hid (fun W => rmoves_any (insAt l i).op W)
            have hgw := Lib.hid (Nat.le_of_eq hgE.out.symm)
            obtain ⟨⟨op, xa, xb⟩, hx⟩ : ∃ x, x = insAt l i := ⟨_, rfl⟩
            rw [hl'.out] at hR2
            rw [← hx] at hR2 y0 y1 y2 hof hmv
            clear hx
            simp only at hR2 y0 y1 y2 hof hmv
            obtain ⟨fo, hfo⟩ : ∃ fo, fo = offN op := ⟨_, rfl⟩
            obtain ⟨po, hpo⟩ : ∃ po, po = onN op := ⟨_, rfl⟩
            rw [← hfo, ← hpo] at hR2 hof hmv
            clear hfo hpo
            obtain ⟨dp, hdp⟩ : ∃ dp, dp = dAt di i := ⟨_, rfl⟩
            have HDP : Hid (dAt di i = dp) := Lib.hid hdp.symm
            rw [← hdp] at hR2 HDi x0 e1 hneg
            clear hdp H0
            have q1 : IntKind.i64.wrap (dp - (fo : Int)) = dp - (fo : Int) := IntWalk.i64_in _ (by omega)
            obtain ⟨v, hv⟩ : ∃ v, v = dp - (fo : Int) + (po : Int) := ⟨_, rfl⟩
            rw [← hv] at hR2
            have q2 : IntKind.i64.wrap (dp - (fo : Int) + (po : Int)) = v := by rw [← hv]; exact IntWalk.i64_in _ (by omega)
            by_cases hb1 : dp < (fo : Int)
            · rw [if_pos (.inl hb1)] at hR2
              simp only at hR2
              subst hR2
              have e2 : decide (dp < (fo : Int)) = true := decide_eq_true hb1
              clear hv
              go_wp2_with (go_at_call 60; go_must ((with_reducible refine (hmv.out _).mono ?_); rintro e w2 ⟨rfl, rfl⟩))
              go_ret2
              exact ⟨rfl, HB.out⟩
            · have e2 : decide (dp < (fo : Int)) = false := decide_eq_false hb1
              by_cases hb2 : 8 < v
              · rw [if_pos (.inr hb2)] at hR2
                simp only at hR2
                subst hR2
                have e3 : decide (8 < v) = true := decide_eq_true hb2
                clear hv
                go_wp2_with (go_at_call 60; go_must ((with_reducible refine (hmv.out _).mono ?_); rintro e w2 ⟨rfl, rfl⟩))
                go_ret2
                exact ⟨rfl, HB.out⟩
              have e3 : decide (8 < v) = false := decide_eq_false hb2
              rw [if_neg (fun h => h.elim hb1 hb2)] at hR2
              have hv0 : 0 ≤ v ∧ v ≤ 8 := by omega
              have HN0 : Hid (R = nextD l N i v (waysN ⟨op, xa, xb⟩) di) := Lib.hid hR2
              clear hv hR2 HR hneg hb1 hb2
              -- WAYS BEGIN
              rcases wayCases op with rfl | rfl | rfl | rfl | ⟨k1, k2, k3, k4⟩
              · have f0 : ((16 : Int) == 17) = false := rfl
                have f1 : ((16 : Int) == 16) = true := rfl
                have HR3 : Hid (R = goD l (N - (i + 1)) (i + 1) di) := Lib.hid (by rw [HN0.out, ways_end _ (.inl rfl), nextD_nil])
                clear HN0
                go_wp2_with (go_at_call 60; go_must ((with_reducible refine (hmv.out _).mono ?_); rintro e w2 ⟨rfl, rfl⟩))
                clear hmv
                go_loopw [10] (fun cc wi => cc = .int .i64 0 ∧ wi = wr) (fun _ _ => 0)
                case atStart => exact ⟨rfl, rfl⟩
                case round =>
                  obtain ⟨rfl, rfl⟩ := hrel
                  go_wp2
                  go_roundw
                  case rel => exact ⟨i + 1, di, by omega, by go_num, HK, HB, HR3, HL, HD⟩
                  case measure => simp [intOf]; omega
              · have f0 : ((17 : Int) == 17) = true := rfl
                have HR3 : Hid (R = goD l (N - (i + 1)) (i + 1) di) := Lib.hid (by rw [HN0.out, ways_end _ (.inr rfl), nextD_nil])
                clear HN0
                go_wp2_with (go_at_call 60; go_must ((with_reducible refine (hmv.out _).mono ?_); rintro e w2 ⟨rfl, rfl⟩))
                clear hmv
                go_loopw [10] (fun cc wi => cc = .int .i64 0 ∧ wi = wr) (fun _ _ => 0)
                case atStart => exact ⟨rfl, rfl⟩
                case round =>
                  obtain ⟨rfl, rfl⟩ := hrel
                  go_wp2
                  go_roundw
                  case rel => exact ⟨i + 1, di, by omega, by go_num, HK, HB, HR3, HL, HD⟩
                  case measure => simp [intOf]; omega
              · rw [ways_go _ rfl] at HN0
                have f0 : ((14 : Int) == 17) = false := rfl
                have f1 : ((14 : Int) == 16) = false := rfl
                have f2 : ((14 : Int) == 14) = true := rfl
                go_wp2_with (go_at_call 60; go_must ((with_reducible refine (hmv.out _).mono ?_); rintro e w2 ⟨rfl, rfl⟩))
                clear hmv
                have WI0 := Lib.hid (ways_newIn ([xa]) wr)
                have BW0 := Lib.hid (below_alloc1 wr (.cells (([xa]).map (.int .i64)).toArray 3))
                have hgb : Hid (∀ b off, (some ⟨wr.heap.size, 0, none⟩ : Option Addr) = some ⟨b, off, none⟩ → b ≠ g) := Lib.hid (fun b off h => by injection h with h; injection h with h; omega)
                simp only [List.map_cons, List.map_nil] at WI0 BW0
                obtain ⟨W9, hW9⟩ : ∃ W9, W9 = wr.alloc (.cells #[.int .i64 xa] 3) := ⟨_, rfl⟩
                have WI : Hid (WaysIn wr W9 (some ⟨wr.heap.size, 0, none⟩) 1 ([xa])) := Lib.hid (by rw [hW9]; exact WI0.out)
                have BW : Hid (Below wr.heap.size wr W9) := Lib.hid (by rw [hW9]; exact BW0.out)
                rw [← hW9]
                clear WI0 BW0 hW9
                obtain ⟨A9, hA9⟩ : ∃ A9 : Option Addr, A9 = some ⟨wr.heap.size, 0, none⟩ := ⟨_, rfl⟩
                rw [← hA9] at WI hgb ⊢
                clear hA9
                go_loopw [10] (fun cc wi => ∃ (k : Nat) (dk : List Int), k ≤ 1 ∧ cc = .int .i64 k ∧ Hid (Bk wi g 3 (dV dk)) ∧ Hid (But g W9 wi) ∧ Hid (R = nextD l N i v ([xa].drop k) dk) ∧ Hid (dk.length = N) ∧ Hid (∀ j, -1 ≤ dAt dk j ∧ dAt dk j ≤ 8) ∧ Hid (dAt dk i = dp)) (fun cc _ => 1 - (intOf cc).toNat)
                case atStart => exact ⟨0, di, Nat.zero_le _, rfl, Lib.hid (HK.out.below BW.out), Lib.hid (But.refl _ _), HN0, HL, HD, HDP⟩
                case round =>
                  clear HN0 HK HL HD HDP x0
                  obtain ⟨k, dk, hkl, rfl, HK, HB9, HW, HL, HD, HDP⟩ := hrel
                  have z0 := HK.out.lt
                  have x0 := bk_dV HK.out (i := i) (by rw [HL.out]; exact hlt)
                  rw [HDP.out] at x0
                  by_cases hkt : k < 1
                  · have d3 : (k : Int) < 1 := by omega
                    obtain ⟨b9, off9, rfl, hbl9, y9⟩ := WI.out.1.cellAt (j := k) hkt
                    have hng := hgb.out b9 off9 rfl
                    have y8 := (HB9.out.cell b9 (off9 + k) hbl9 hng).trans y9
                    clear y9
                    have HW' := HW.out
                    rw [drop_cons (l := [xa]) hkt] at HW'
                    obtain ⟨wy, hwy'⟩ : ∃ wy, wy = ([xa])[k]?.getD 0 := ⟨_, rfl⟩
                    rw [← hwy'] at HW' y8
                    clear hwy'
                    by_cases h0 : wy < 0
                    · rw [nextD_jump (.inl h0)] at HW'
                      subst HW'
                      go_wp2
                      go_ret2
                      exact ⟨rfl, HB9.out.below (bnext HB.out BW.out) hgw.out (bnext HB.out BW.out).size⟩
                    · by_cases h3 : (N : Int) - (i : Int) - 1 ≤ wy
                      · rw [nextD_jump (.inr h3)] at HW'
                        subst HW'
                        have e4 : decide ((N : Int) - (i : Int) - 1 ≤ wy) = true := decide_eq_true h3
                        go_wp2
                        go_ret2
                        exact ⟨rfl, HB9.out.below (bnext HB.out BW.out) hgw.out (bnext HB.out BW.out).size⟩
                      · obtain ⟨kk, rfl⟩ := Int.eq_ofNat_of_zero_le (show 0 ≤ wy by omega)
                        have hkk : i + 1 + kk < N := by omega
                        have e4 : decide ((N : Int) - (i : Int) - 1 ≤ (kk : Int)) = false := decide_eq_false h3
                        have q3 : IntKind.i64.wrap ((i : Int) + 1 + (kk : Int)) = (i : Int) + 1 + (kk : Int) := IntWalk.i64_in _ (by omega)
                        have q4 : ((i : Int) + 1 + (kk : Int)).toNat = i + 1 + kk := by omega
                        have q5 : (0 : Int) ≤ (i : Int) + 1 + (kk : Int) := by omega
                        have q6 : (i : Int) + 1 + (kk : Int) < (N : Int) := by omega
                        have q7 : (i : Int) < (N : Int) := by omega
                        have u0 := bk_dV HK.out (i := i + 1 + kk) (by rw [HL.out]; exact hkk)
                        have uf := HK.out.frozen (i + 1 + kk)
                        have HY := Lib.hid (rfl : dAt dk (i + 1 + kk) = dAt dk (i + 1 + kk))
                        by_cases hs : 0 ≤ dAt dk (i + 1 + kk) ∧ dAt dk (i + 1 + kk) ≠ v
                        · rw [nextD_stack h0 h3 hs] at HW'
                          subst HW'
                          obtain ⟨hs1, hs2⟩ := hs
                          have e5 : decide (0 ≤ dAt dk (i + 1 + kk)) = true := decide_eq_true hs1
                          have e6 : (dAt dk (i + 1 + kk) != v) = true := by simpa using hs2
                          clear HY
                          generalize dAt dk (i + 1 + kk) = y at *
                          go_wp2
                          go_quiet (fail)
                          go_wp2
                          go_ret2
                          exact ⟨rfl, bnext (HB9.out.below (bnext HB.out BW.out) hgw.out (bnext HB.out BW.out).size) (drewR _ _)⟩
                        · rw [nextD_ok h0 h3 hs] at HW'
                          have HW2 := Lib.hid HW'
                          have HL2 : Hid ((dk.set (i + 1 + kk) v).length = N) := Lib.hid (by rw [List.length_set]; exact HL.out)
                          have HD2 : Hid (∀ j, -1 ≤ dAt (dk.set (i + 1 + kk) v) j ∧ dAt (dk.set (i + 1 + kk) v) j ≤ 8) := Lib.hid (fun j => by
                            by_cases e : i + 1 + kk = j
                            · subst e; rw [dAt_set_same (by rw [HL.out]; exact hkk)]; omega
                            · rw [dAt_set_ne e]; exact HD.out j)
                          have HDP2 : Hid (dAt (dk.set (i + 1 + kk) v) i = dp) := Lib.hid (by rw [dAt_set_ne (by omega)]; exact HDP.out)
                          have hset := Lib.hid (dV_set dk (i + 1 + kk) v)
                          clear HW' HY
                          by_cases hs1 : 0 ≤ dAt dk (i + 1 + kk)
                          · have e5 : decide (0 ≤ dAt dk (i + 1 + kk)) = true := decide_eq_true hs1
                            have e6 : (dAt dk (i + 1 + kk) != v) = false := by
                              have : dAt dk (i + 1 + kk) = v := Classical.byContradiction fun h => hs ⟨hs1, h⟩
                              simp [this]
                            clear hs
                            generalize dAt dk (i + 1 + kk) = y at *
                            go_wp2
                            go_quiet (fail)
                            go_wp2
                            go_roundw
                            case rel => exact ⟨k + 1, _, by omega, by go_num, Lib.hid (by rw [← hset.out]; exact (HK.out.below (drewR _ _)).set _ _), Lib.hid ((HB9.out.trans (But.of_below (drewR _ _))).trans (But.set _ _ _)), HW2, HL2, HD2, HDP2⟩
                            case measure => simp [intOf]; omega
                          · have e5 : decide (0 ≤ dAt dk (i + 1 + kk)) = false := decide_eq_false hs1
                            clear hs
                            generalize dAt dk (i + 1 + kk) = y at *
                            go_wp2
                            go_quiet (fail)
                            go_wp2
                            go_roundw
                            case rel => exact ⟨k + 1, _, by omega, by go_num, Lib.hid (by rw [← hset.out]; exact (HK.out.below (drewR _ _)).set _ _), Lib.hid ((HB9.out.trans (But.of_below (drewR _ _))).trans (But.set _ _ _)), HW2, HL2, HD2, HDP2⟩
                            case measure => simp [intOf]; omega
                  · obtain rfl : k = 1 := by omega
                    have HW' := HW.out
                    rw [show ([xa]).drop 1 = [] from rfl, nextD_nil] at HW'
                    have HR3 := Lib.hid HW'
                    clear hkt HW'
                    go_wp2
                    go_roundw
                    case rel => exact ⟨i + 1, dk, by omega, by go_num, HK, Lib.hid (HB9.out.below (bnext HB.out BW.out) hgw.out (bnext HB.out BW.out).size), HR3, HL, HD⟩
                    case measure => simp [intOf]; omega
              · rw [ways_skip _ rfl] at HN0
                have f0 : ((13 : Int) == 17) = false := rfl
                have f1 : ((13 : Int) == 16) = false := rfl
                have f2 : ((13 : Int) == 14) = false := rfl
                have f3 : ((13 : Int) == 13) = true := rfl
                go_wp2_with (go_at_call 60; go_must ((with_reducible refine (hmv.out _).mono ?_); rintro e w2 ⟨rfl, rfl⟩))
                clear hmv
                have WI0 := Lib.hid (ways_newIn ([0, xa]) wr)
                have BW0 := Lib.hid (below_alloc1 wr (.cells (([0, xa]).map (.int .i64)).toArray 3))
                have hgb : Hid (∀ b off, (some ⟨wr.heap.size, 0, none⟩ : Option Addr) = some ⟨b, off, none⟩ → b ≠ g) := Lib.hid (fun b off h => by injection h with h; injection h with h; omega)
                simp only [List.map_cons, List.map_nil] at WI0 BW0
                obtain ⟨W9, hW9⟩ : ∃ W9, W9 = wr.alloc (.cells #[.int .i64 0, .int .i64 xa] 3) := ⟨_, rfl⟩
                have WI : Hid (WaysIn wr W9 (some ⟨wr.heap.size, 0, none⟩) 2 ([0, xa])) := Lib.hid (by rw [hW9]; exact WI0.out)
                have BW : Hid (Below wr.heap.size wr W9) := Lib.hid (by rw [hW9]; exact BW0.out)
                rw [← hW9]
                clear WI0 BW0 hW9
                obtain ⟨A9, hA9⟩ : ∃ A9 : Option Addr, A9 = some ⟨wr.heap.size, 0, none⟩ := ⟨_, rfl⟩
                rw [← hA9] at WI hgb ⊢
                clear hA9
                go_loopw [10] (fun cc wi => ∃ (k : Nat) (dk : List Int), k ≤ 2 ∧ cc = .int .i64 k ∧ Hid (Bk wi g 3 (dV dk)) ∧ Hid (But g W9 wi) ∧ Hid (R = nextD l N i v ([0, xa].drop k) dk) ∧ Hid (dk.length = N) ∧ Hid (∀ j, -1 ≤ dAt dk j ∧ dAt dk j ≤ 8) ∧ Hid (dAt dk i = dp)) (fun cc _ => 2 - (intOf cc).toNat)
                case atStart => exact ⟨0, di, Nat.zero_le _, rfl, Lib.hid (HK.out.below BW.out), Lib.hid (But.refl _ _), HN0, HL, HD, HDP⟩
                case round =>
                  clear HN0 HK HL HD HDP x0
                  obtain ⟨k, dk, hkl, rfl, HK, HB9, HW, HL, HD, HDP⟩ := hrel
                  have z0 := HK.out.lt
                  have x0 := bk_dV HK.out (i := i) (by rw [HL.out]; exact hlt)
                  rw [HDP.out] at x0
                  by_cases hkt : k < 2
                  · have d3 : (k : Int) < 2 := by omega
                    obtain ⟨b9, off9, rfl, hbl9, y9⟩ := WI.out.1.cellAt (j := k) hkt
                    have hng := hgb.out b9 off9 rfl
                    have y8 := (HB9.out.cell b9 (off9 + k) hbl9 hng).trans y9
                    clear y9
                    have HW' := HW.out
                    rw [drop_cons (l := [0, xa]) hkt] at HW'
                    obtain ⟨wy, hwy'⟩ : ∃ wy, wy = ([0, xa])[k]?.getD 0 := ⟨_, rfl⟩
                    rw [← hwy'] at HW' y8
                    clear hwy'
                    by_cases h0 : wy < 0
                    · rw [nextD_jump (.inl h0)] at HW'
                      subst HW'
                      go_wp2
                      go_ret2
                      exact ⟨rfl, HB9.out.below (bnext HB.out BW.out) hgw.out (bnext HB.out BW.out).size⟩
                    · by_cases h3 : (N : Int) - (i : Int) - 1 ≤ wy
                      · rw [nextD_jump (.inr h3)] at HW'
                        subst HW'
                        have e4 : decide ((N : Int) - (i : Int) - 1 ≤ wy) = true := decide_eq_true h3
                        go_wp2
                        go_ret2
                        exact ⟨rfl, HB9.out.below (bnext HB.out BW.out) hgw.out (bnext HB.out BW.out).size⟩
                      · obtain ⟨kk, rfl⟩ := Int.eq_ofNat_of_zero_le (show 0 ≤ wy by omega)
                        have hkk : i + 1 + kk < N := by omega
                        have e4 : decide ((N : Int) - (i : Int) - 1 ≤ (kk : Int)) = false := decide_eq_false h3
                        have q3 : IntKind.i64.wrap ((i : Int) + 1 + (kk : Int)) = (i : Int) + 1 + (kk : Int) := IntWalk.i64_in _ (by omega)
                        have q4 : ((i : Int) + 1 + (kk : Int)).toNat = i + 1 + kk := by omega
                        have q5 : (0 : Int) ≤ (i : Int) + 1 + (kk : Int) := by omega
                        have q6 : (i : Int) + 1 + (kk : Int) < (N : Int) := by omega
                        have q7 : (i : Int) < (N : Int) := by omega
                        have u0 := bk_dV HK.out (i := i + 1 + kk) (by rw [HL.out]; exact hkk)
                        have uf := HK.out.frozen (i + 1 + kk)
                        have HY := Lib.hid (rfl : dAt dk (i + 1 + kk) = dAt dk (i + 1 + kk))
                        by_cases hs : 0 ≤ dAt dk (i + 1 + kk) ∧ dAt dk (i + 1 + kk) ≠ v
                        · rw [nextD_stack h0 h3 hs] at HW'
                          subst HW'
                          obtain ⟨hs1, hs2⟩ := hs
                          have e5 : decide (0 ≤ dAt dk (i + 1 + kk)) = true := decide_eq_true hs1
                          have e6 : (dAt dk (i + 1 + kk) != v) = true := by simpa using hs2
                          clear HY
                          generalize dAt dk (i + 1 + kk) = y at *
                          go_wp2
                          go_quiet (fail)
                          go_wp2
                          go_ret2
                          exact ⟨rfl, bnext (HB9.out.below (bnext HB.out BW.out) hgw.out (bnext HB.out BW.out).size) (drewR _ _)⟩
                        · rw [nextD_ok h0 h3 hs] at HW'
                          have HW2 := Lib.hid HW'
                          have HL2 : Hid ((dk.set (i + 1 + kk) v).length = N) := Lib.hid (by rw [List.length_set]; exact HL.out)
                          have HD2 : Hid (∀ j, -1 ≤ dAt (dk.set (i + 1 + kk) v) j ∧ dAt (dk.set (i + 1 + kk) v) j ≤ 8) := Lib.hid (fun j => by
                            by_cases e : i + 1 + kk = j
                            · subst e; rw [dAt_set_same (by rw [HL.out]; exact hkk)]; omega
                            · rw [dAt_set_ne e]; exact HD.out j)
                          have HDP2 : Hid (dAt (dk.set (i + 1 + kk) v) i = dp) := Lib.hid (by rw [dAt_set_ne (by omega)]; exact HDP.out)
                          have hset := Lib.hid (dV_set dk (i + 1 + kk) v)
                          clear HW' HY
                          by_cases hs1 : 0 ≤ dAt dk (i + 1 + kk)
                          · have e5 : decide (0 ≤ dAt dk (i + 1 + kk)) = true := decide_eq_true hs1
                            have e6 : (dAt dk (i + 1 + kk) != v) = false := by
                              have : dAt dk (i + 1 + kk) = v := Classical.byContradiction fun h => hs ⟨hs1, h⟩
                              simp [this]
                            clear hs
                            generalize dAt dk (i + 1 + kk) = y at *
                            go_wp2
                            go_quiet (fail)
                            go_wp2
                            go_roundw
                            case rel => exact ⟨k + 1, _, by omega, by go_num, Lib.hid (by rw [← hset.out]; exact (HK.out.below (drewR _ _)).set _ _), Lib.hid ((HB9.out.trans (But.of_below (drewR _ _))).trans (But.set _ _ _)), HW2, HL2, HD2, HDP2⟩
                            case measure => simp [intOf]; omega
                          · have e5 : decide (0 ≤ dAt dk (i + 1 + kk)) = false := decide_eq_false hs1
                            clear hs
                            generalize dAt dk (i + 1 + kk) = y at *
                            go_wp2
                            go_quiet (fail)
                            go_wp2
                            go_roundw
                            case rel => exact ⟨k + 1, _, by omega, by go_num, Lib.hid (by rw [← hset.out]; exact (HK.out.below (drewR _ _)).set _ _), Lib.hid ((HB9.out.trans (But.of_below (drewR _ _))).trans (But.set _ _ _)), HW2, HL2, HD2, HDP2⟩
                            case measure => simp [intOf]; omega
                  · obtain rfl : k = 2 := by omega
                    have HW' := HW.out
                    rw [show ([0, xa]).drop 2 = [] from rfl, nextD_nil] at HW'
                    have HR3 := Lib.hid HW'
                    clear hkt HW'
                    go_wp2
                    go_roundw
                    case rel => exact ⟨i + 1, dk, by omega, by go_num, HK, Lib.hid (HB9.out.below (bnext HB.out BW.out) hgw.out (bnext HB.out BW.out).size), HR3, HL, HD⟩
                    case measure => simp [intOf]; omega
              · rw [ways_else _ ⟨k1, k2, k3, k4⟩] at HN0
                have f0 : (op == 17) = false := by simp; omega
                have f1 : (op == 16) = false := by simp; omega
                have f2 : (op == 14) = false := by simp; omega
                have f3 : (op == 13) = false := by simp; omega
                go_wp2_with (go_at_call 60; go_must ((with_reducible refine (hmv.out _).mono ?_); rintro e w2 ⟨rfl, rfl⟩))
                clear hmv
                have WI0 := Lib.hid (ways_newIn (([0] : List Int)) wr)
                have BW0 := Lib.hid (below_alloc1 wr (.cells ((([0] : List Int)).map (.int .i64)).toArray 3))
                have hgb : Hid (∀ b off, (some ⟨wr.heap.size, 0, none⟩ : Option Addr) = some ⟨b, off, none⟩ → b ≠ g) := Lib.hid (fun b off h => by injection h with h; injection h with h; omega)
                simp only [List.map_cons, List.map_nil] at WI0 BW0
                obtain ⟨W9, hW9⟩ : ∃ W9, W9 = wr.alloc (.cells #[.int .i64 0] 3) := ⟨_, rfl⟩
                have WI : Hid (WaysIn wr W9 (some ⟨wr.heap.size, 0, none⟩) 1 (([0] : List Int))) := Lib.hid (by rw [hW9]; exact WI0.out)
                have BW : Hid (Below wr.heap.size wr W9) := Lib.hid (by rw [hW9]; exact BW0.out)
                rw [← hW9]
                clear WI0 BW0 hW9
                obtain ⟨A9, hA9⟩ : ∃ A9 : Option Addr, A9 = some ⟨wr.heap.size, 0, none⟩ := ⟨_, rfl⟩
                rw [← hA9] at WI hgb ⊢
                clear hA9
                go_loopw [10] (fun cc wi => ∃ (k : Nat) (dk : List Int), k ≤ 1 ∧ cc = .int .i64 k ∧ Hid (Bk wi g 3 (dV dk)) ∧ Hid (But g W9 wi) ∧ Hid (R = nextD l N i v (([0] : List Int).drop k) dk) ∧ Hid (dk.length = N) ∧ Hid (∀ j, -1 ≤ dAt dk j ∧ dAt dk j ≤ 8) ∧ Hid (dAt dk i = dp)) (fun cc _ => 1 - (intOf cc).toNat)
                case atStart => exact ⟨0, di, Nat.zero_le _, rfl, Lib.hid (HK.out.below BW.out), Lib.hid (But.refl _ _), HN0, HL, HD, HDP⟩
                case round =>
                  clear HN0 HK HL HD HDP x0
                  obtain ⟨k, dk, hkl, rfl, HK, HB9, HW, HL, HD, HDP⟩ := hrel
                  have z0 := HK.out.lt
                  have x0 := bk_dV HK.out (i := i) (by rw [HL.out]; exact hlt)
                  rw [HDP.out] at x0
                  by_cases hkt : k < 1
                  · have d3 : (k : Int) < 1 := by omega
                    obtain ⟨b9, off9, rfl, hbl9, y9⟩ := WI.out.1.cellAt (j := k) hkt
                    have hng := hgb.out b9 off9 rfl
                    have y8 := (HB9.out.cell b9 (off9 + k) hbl9 hng).trans y9
                    clear y9
                    have HW' := HW.out
                    rw [drop_cons (l := ([0] : List Int)) hkt] at HW'
                    obtain ⟨wy, hwy'⟩ : ∃ wy, wy = (([0] : List Int))[k]?.getD 0 := ⟨_, rfl⟩
                    rw [← hwy'] at HW' y8
                    clear hwy'
                    by_cases h0 : wy < 0
                    · rw [nextD_jump (.inl h0)] at HW'
                      subst HW'
                      go_wp2
                      go_ret2
                      exact ⟨rfl, HB9.out.below (bnext HB.out BW.out) hgw.out (bnext HB.out BW.out).size⟩
                    · by_cases h3 : (N : Int) - (i : Int) - 1 ≤ wy
                      · rw [nextD_jump (.inr h3)] at HW'
                        subst HW'
                        have e4 : decide ((N : Int) - (i : Int) - 1 ≤ wy) = true := decide_eq_true h3
                        go_wp2
                        go_ret2
                        exact ⟨rfl, HB9.out.below (bnext HB.out BW.out) hgw.out (bnext HB.out BW.out).size⟩
                      · obtain ⟨kk, rfl⟩ := Int.eq_ofNat_of_zero_le (show 0 ≤ wy by omega)
                        have hkk : i + 1 + kk < N := by omega
                        have e4 : decide ((N : Int) - (i : Int) - 1 ≤ (kk : Int)) = false := decide_eq_false h3
                        have q3 : IntKind.i64.wrap ((i : Int) + 1 + (kk : Int)) = (i : Int) + 1 + (kk : Int) := IntWalk.i64_in _ (by omega)
                        have q4 : ((i : Int) + 1 + (kk : Int)).toNat = i + 1 + kk := by omega
                        have q5 : (0 : Int) ≤ (i : Int) + 1 + (kk : Int) := by omega
                        have q6 : (i : Int) + 1 + (kk : Int) < (N : Int) := by omega
                        have q7 : (i : Int) < (N : Int) := by omega
                        have u0 := bk_dV HK.out (i := i + 1 + kk) (by rw [HL.out]; exact hkk)
                        have uf := HK.out.frozen (i + 1 + kk)
                        have HY := Lib.hid (rfl : dAt dk (i + 1 + kk) = dAt dk (i + 1 + kk))
                        by_cases hs : 0 ≤ dAt dk (i + 1 + kk) ∧ dAt dk (i + 1 + kk) ≠ v
                        · rw [nextD_stack h0 h3 hs] at HW'
                          subst HW'
                          obtain ⟨hs1, hs2⟩ := hs
                          have e5 : decide (0 ≤ dAt dk (i + 1 + kk)) = true := decide_eq_true hs1
                          have e6 : (dAt dk (i + 1 + kk) != v) = true := by simpa using hs2
                          clear HY
                          generalize dAt dk (i + 1 + kk) = y at *
                          go_wp2
                          go_quiet (fail)
                          go_wp2
                          go_ret2
                          exact ⟨rfl, bnext (HB9.out.below (bnext HB.out BW.out) hgw.out (bnext HB.out BW.out).size) (drewR _ _)⟩
                        · rw [nextD_ok h0 h3 hs] at HW'
                          have HW2 := Lib.hid HW'
                          have HL2 : Hid ((dk.set (i + 1 + kk) v).length = N) := Lib.hid (by rw [List.length_set]; exact HL.out)
                          have HD2 : Hid (∀ j, -1 ≤ dAt (dk.set (i + 1 + kk) v) j ∧ dAt (dk.set (i + 1 + kk) v) j ≤ 8) := Lib.hid (fun j => by
                            by_cases e : i + 1 + kk = j
                            · subst e; rw [dAt_set_same (by rw [HL.out]; exact hkk)]; omega
                            · rw [dAt_set_ne e]; exact HD.out j)
                          have HDP2 : Hid (dAt (dk.set (i + 1 + kk) v) i = dp) := Lib.hid (by rw [dAt_set_ne (by omega)]; exact HDP.out)
                          have hset := Lib.hid (dV_set dk (i + 1 + kk) v)
                          clear HW' HY
                          by_cases hs1 : 0 ≤ dAt dk (i + 1 + kk)
                          · have e5 : decide (0 ≤ dAt dk (i + 1 + kk)) = true := decide_eq_true hs1
                            have e6 : (dAt dk (i + 1 + kk) != v) = false := by
                              have : dAt dk (i + 1 + kk) = v := Classical.byContradiction fun h => hs ⟨hs1, h⟩
                              simp [this]
                            clear hs
                            generalize dAt dk (i + 1 + kk) = y at *
                            go_wp2
                            go_quiet (fail)
                            go_wp2
                            go_roundw
                            case rel => exact ⟨k + 1, _, by omega, by go_num, Lib.hid (by rw [← hset.out]; exact (HK.out.below (drewR _ _)).set _ _), Lib.hid ((HB9.out.trans (But.of_below (drewR _ _))).trans (But.set _ _ _)), HW2, HL2, HD2, HDP2⟩
                            case measure => simp [intOf]; omega
                          · have e5 : decide (0 ≤ dAt dk (i + 1 + kk)) = false := decide_eq_false hs1
                            clear hs
                            generalize dAt dk (i + 1 + kk) = y at *
                            go_wp2
                            go_quiet (fail)
                            go_wp2
                            go_roundw
                            case rel => exact ⟨k + 1, _, by omega, by go_num, Lib.hid (by rw [← hset.out]; exact (HK.out.below (drewR _ _)).set _ _), Lib.hid ((HB9.out.trans (But.of_below (drewR _ _))).trans (But.set _ _ _)), HW2, HL2, HD2, HDP2⟩
                            case measure => simp [intOf]; omega
                  · obtain rfl : k = 1 := by omega
                    have HW' := HW.out
                    rw [show (([0] : List Int)).drop 1 = [] from rfl, nextD_nil] at HW'
                    have HR3 := Lib.hid HW'
                    clear hkt HW'
                    go_wp2
                    go_roundw
                    case rel => exact ⟨i + 1, dk, by omega, by go_num, HK, Lib.hid (HB9.out.below (bnext HB.out BW.out) hgw.out (bnext HB.out BW.out).size), HR3, HL, HD⟩
                    case measure => simp [intOf]; omega
              -- WAYS END
        · obtain rfl : i = N := by omega
          have HR2 := HR.out
          rw [Nat.sub_self, goD] at HR2
          subst HR2
          clear hlt
          go_wp2
          go_ret2
          exact ⟨g, by rw [hgE.out]; exact Nat.le_refl _, rfl, HK.out, HB.out⟩

end Go.Proofs.Ytldljohholgmoaa
