/-
  ProofWays, walked, of a command that may be: true, in whatever memory that has the kinds' table.
-/
import Derived.Test.YtlhipaecndgonaaDoorPrfK
import Derived.Test.YtlhipaecndgonaaDoorPrfL
import Derived.Test.YtlhipaecndgonaaDoorOpenCm
namespace Go.Proofs.YtlhipaecndgonaaDoor
open Go.RowKit

/-- what an instruction's ways lead to. -/
structure WayStep (nc : Nat) (d : List Int) (i : Nat) (v : Int) (x : Ins) : Prop where
  op : 1 ≤ x.op ∧ x.op ≤ 17
  far : x.op = 14 → ∃ j : Nat, x.a = j ∧ i + 1 + j < nc ∧ dAt d (i + 1 + j) = v
  up : x.op = 1 ∨ x.op = 2 ∨ x.op = 4 ∨ x.op = 6 → i + 1 < nc ∧ dAt d (i + 1) = v + 1 ∧ v + 1 ≤ 8
  down : x.op = 3 ∨ x.op = 5 ∨ x.op = 15 ∨ (7 ≤ x.op ∧ x.op ≤ 13) → 1 ≤ v ∧ i + 1 < nc ∧ dAt d (i + 1) = v - 1
  skip : x.op = 13 → ∃ j : Nat, x.a = j ∧ i + 1 + j < nc ∧ dAt d (i + 1 + j) = v - 1

theorem way_step {l : List Ins} {d : List Int} {i nc : Nat} {v : Int} (hl : l.length = nc) (hok : insOk l d i) (hv : dAt d i = v) (h0 : 0 ≤ v) (hr : rightN (insAt l i)) : WayStep nc d i v (insAt l i) := by
  subst hl
  subst hv
  obtain ⟨h1, h2, h3⟩ := hok h0
  have hop := hr.1
  generalize insAt l i = x at *
  obtain ⟨op, a, b⟩ := x
  simp only at hop h1 h2 h3
  have way : ∀ wy ∈ waysN ⟨op, a, b⟩, ∃ j : Nat, wy = j ∧ i + 1 + j < l.length ∧ dAt d (i + 1 + j) = dAt d i - offN op + onN op := fun wy hw => by
    obtain ⟨w1, w2, w3⟩ := h3 wy hw
    obtain ⟨j, rfl⟩ := Int.eq_ofNat_of_zero_le w1
    exact ⟨j, rfl, by omega, by simpa using w3⟩
  have next : ∀ z : Int, dAt d i - offN op + onN op = z → op ≠ 14 → op ≠ 16 → op ≠ 17 → i + 1 < l.length ∧ dAt d (i + 1) = z := fun z hz n1 n2 n3 => by
    have hm : (0 : Int) ∈ waysN ⟨op, a, b⟩ := by
      rw [waysN, if_neg (by simp only; omega), if_neg (by simpa using n1)]
      split <;> simp
    obtain ⟨j, hj, h4, h5⟩ := way 0 hm
    obtain rfl : j = 0 := by omega
    exact ⟨h4, by rw [← hz]; exact h5⟩
  refine ⟨hop, fun e => ?_, fun e => ?_, fun e => ?_, fun e => ?_⟩
  · simp only at e
    subst e
    have := way a (by simp [waysN])
    simpa [offN, onN] using this
  · simp only at e
    have hz : dAt d i - offN op + onN op = dAt d i + 1 := by
      rcases e with rfl | rfl | rfl | rfl <;> simp [offN, onN]
    obtain ⟨n1, n2⟩ := next _ hz (by omega) (by omega) (by omega)
    exact ⟨n1, n2, by omega⟩
  · simp only at e
    have hz : dAt d i - offN op + onN op = dAt d i - 1 ∧ 1 ≤ dAt d i := by
      rcases e with rfl | rfl | rfl | ⟨e1, e2⟩
      · simp [offN, onN] at h1 ⊢; omega
      · simp [offN, onN] at h1 ⊢; omega
      · simp [offN, onN] at h1 ⊢; omega
      · by_cases e3 : op = 13
        · subst e3; simp [offN, onN] at h1 ⊢; omega
        · have ho : offN op = 2 := by unfold offN; rw [if_neg (by omega), if_pos (by omega)]
          have hn : onN op = 1 := by unfold onN; rw [if_neg (by omega), if_pos (by omega)]
          rw [ho] at h1 ⊢
          rw [hn]
          omega
    obtain ⟨n1, n2⟩ := next _ hz.1 (by omega) (by omega) (by omega)
    exact ⟨hz.2, n1, n2⟩
  · simp only at e
    subst e
    have := way a (by simp [waysN])
    simpa [offN, onN] using this

theorem Bools.cellAt {w : World} {A : Option Addr} {c : Nat} {l : List Bool} (h : Bools w A c l) {j : Nat} (hj : j < l.length) :
    ∃ b off, A = some ⟨b, off, none⟩ ∧ b < w.heap.size ∧ w.cell? ⟨b, off + j, none⟩ = some (.bool (l[j]?.getD false)) := by
  obtain ⟨b, off, rfl, hb, hc⟩ := h.2.2.2 (by omega)
  refine ⟨b, off, rfl, hb, ?_⟩
  rw [hc j (by omega)]
  simp [hj]

set_option maxRecDepth 100000 in
set_option maxHeartbeats 16000000 in
theorem proofWays_main (c : Cmd) (fuel : Int) (hfu : c.fuel = fuel) (ra : Option Addr) (nr rc : Nat) (wa : Option Addr) (nw wc : Nat) (aa : Option Addr) (na ac : Nat) (ca : Addr) (nc cc : Nat) (ts : List Bool) (ta : Option Addr) (tn tc : Nat) (w : World) (h : CmIn w c ra nr rc wa nw wc aa na ac (some ca) nc cc) (hB : Bools w ta tc ts) (htn : ts.length = tn) (hT : HasKinds w) (hsh : nr ≤ 20 ∧ nw ≤ 20 ∧ na ≤ 20 ∧ nc ≤ 100) (hm : MayBe c) :
    Calls Tryd.prog 4 #[cmV ra nr rc wa nw wc aa na ac fuel (some ca) nc cc, .slice ta tn tc] w fun e w' => e = .returned (.bool true) ∧ Below w.heap.size w w' := by
  have aw := Lib.hid (fun X (hX : Below _ w X) => awake7 X (hT.belowS hX))
  have sh := Lib.hid (fun W => short_any ra nr rc wa nw wc aa na ac fuel (some ca) nc cc W true (decide_eq_true hsh))
  have hb0 : Below w.heap.size w (w.alloc (CmObj ra nr rc wa nw wc aa na ac fuel (some ca) nc cc)) := (Below.refl _ _).alloc (Nat.le_refl _) _
  have B0 := Lib.hid hb0
  have C0 : Hid (Bk (w.alloc (CmObj ra nr rc wa nw wc aa na ac fuel (some ca) nc cc)) w.heap.size 25 (cmC ra nr rc wa nw wc aa na ac fuel (some ca) nc cc)) := Lib.hid (Bk.new w _ _)
  have ck := Lib.hid (fun W hW => check_fu c fuel hfu ra nr rc wa nw wc aa na ac (some ca) nc cc W (h.below hW) (hT.belowS hW) 0 ((check_zero c).2 hm))
  have hn1 : 1 ≤ nc := by have := hm.few.2.2.1; have := h.lc; omega
  have hn2 : nc ≤ 64 := by have := hm.few.2.2.2.1; have := h.lc; omega
  have hcd := Lib.hid (fun W hW => h.code.below (w' := W) hW)
  have hlc := Lib.hid h.lc
  have hcc : nc ≤ cc := by have := h.code.2.1; rwa [h.lc] at this
  obtain ⟨d, hd⟩ := hm.depths
  have pd := Lib.hid (fun W hW => depths_any c.code (some ca) cc nc W (h.code.below hW) h.lc hn1 h.bc)
  rw [hd] at pd
  have pd' : Hid (∀ W, Below w.heap.size w W → Calls Tryd.prog 10 #[.slice (some ca) nc cc] W fun e w' => ∃ g, W.heap.size ≤ g ∧ e = .returned (.tuple #[.slice (some ⟨g, 0, none⟩) nc nc, .int .i64 0]) ∧ Bk w' g 3 (dV d) ∧ Below W.heap.size W w') := pd
  obtain ⟨f1, f2, f3⟩ := depths_fine hd
  rw [h.lc] at f1 f2 f3
  have hst : Hid (∀ i v, i < nc → dAt d i = v → 0 ≤ v → WayStep nc d i v (insAt c.code i)) := Lib.hid (fun i v hi hv h0 => way_step h.lc (f3 i hi) hv h0 (by
    have hi' : i < c.code.length := by rw [h.lc]; exact hi
    have := (hm.ops (c.code[i]'hi') (List.getElem_mem hi')).1
    rwa [insAt, List.getElem?_eq_getElem hi']))
  have f2' := f2 (by omega)
  have hdl := Lib.hid f1
  have hd0 := Lib.hid f2'
  have hB' := Lib.hid hB
  have htn' := Lib.hid htn
  have htc : tn ≤ tc := by have := hB.2.1; rwa [htn] at this
  clear h hb0 hm hT hfu hd pd f1 f2 f3 f2' hB htn
  go_enter Tryd.func4, Tryd.ntmps4
  go_wp2_with (first
    | (go_at_call 7; go_must ((with_reducible refine (sh.out _).mono ?_); rintro e w1 ⟨rfl, hb1⟩; have B1 := Lib.hid (bnext B0.out hb1); obtain ⟨c0, c1, c2, c3, c4, cf⟩ := (C0.out.below hb1).cmd; have cl := (C0.out.below hb1).lt; have C1 := Lib.hid (C0.out.below hb1); clear hb1))
    | (go_at_call 8; go_must ((with_reducible refine (ck.out _ B1.out).mono ?_); rintro e w2 ⟨rfl, hb2⟩; have B2 := Lib.hid (bnext B1.out hb2); clear c0 c1 c2 c3 c4 cf cl; obtain ⟨c0, c1, c2, c3, c4, cf⟩ := (C1.out.below hb2).cmd; have cl := (C1.out.below hb2).lt; have C2 := Lib.hid (C1.out.below hb2); clear hb2))
    | (go_at_call 10; go_must ((with_reducible refine (pd'.out _ B2.out).mono ?_); rintro e w3 ⟨g, hgw, rfl, hk3, hb3⟩; have B3 := Lib.hid (bnext B2.out hb3); clear c0 c1 c2 c3 c4 cf cl; obtain ⟨c0, c1, c2, c3, c4, cf⟩ := (C2.out.below hb3).cmd; have cl := (C2.out.below hb3).lt; have C3 := Lib.hid (C2.out.below hb3); have K3 := Lib.hid hk3; clear hb3 hk3)))
  clear c0 c1 c2 c3 c4 cf cl ck sh pd'
  go_loopw [7, 8, 9] (fun vi vd vk wr => ∃ (i k : Nat) (v : Int), k ≤ i ∧ i < nc ∧ 0 ≤ v ∧ v ≤ 8 ∧ vi = .int .i64 i ∧ vd = .int .i64 v ∧ vk = .int .i64 k ∧ Hid (dAt d i = v) ∧ Hid (Below w.heap.size w wr) ∧ Hid (Bk wr w.heap.size 25 (cmC ra nr rc wa nw wc aa na ac fuel (some ca) nc cc)) ∧ Hid (Bk wr g 3 (dV d))) (fun _ _ vk _ => nc - (intOf vk).toNat)
  case atStart => exact ⟨0, 0, 0, Nat.le_refl _, by omega, by omega, by omega, rfl, rfl, rfl, hd0, B3, C3, K3⟩
  case round =>
    obtain ⟨i, k, v, hki, hi, hv0, hv8, rfl, rfl, rfl, HD, HB, HC, HK⟩ := hrel
    obtain ⟨c0, c1, c2, c3, c4, cf⟩ := HC.out.cmd
    have cl := HC.out.lt
    have kd := bk_dV HK.out (i := i) (by rw [hdl.out]; exact hi)
    rw [HD.out] at kd
    have gl := HK.out.lt
    have e1 : (k : Int) < (nc : Int) := by omega
    have e2 : (i : Int) < (nc : Int) := by omega
    have e3 : (i : Int) < (cc : Int) := by omega
    obtain ⟨b, off, hca, hbl, x0, x1, x2⟩ := (hcd.out wr HB.out).cellAt (j := i) (by rw [hlc.out]; exact hi)
    injection hca with hca
    subst hca
    have hs := hst.out i v hi HD.out hv0
    have HA := Lib.hid (bnext HB.out ((Below.refl _ _).alloc (Nat.le_refl _) (IObj (insAt c.code i))))
    have HC2 := Lib.hid (HC.out.alloc (IObj (insAt c.code i)))
    have HK2 := Lib.hid (HK.out.alloc (IObj (insAt c.code i)))
    obtain ⟨q0, q1, q2, q3, q4, -⟩ := HC2.out.cmd
    generalize insAt c.code i = x at *
    obtain ⟨op, a, bb⟩ := x
    obtain ⟨s1, s2, s3, s4, s5⟩ := hs
    simp only at s1 s2 s3 s4 s5 x0 x1 x2
    rcases (show op = 1 ∨ op = 2 ∨ op = 3 ∨ op = 4 ∨ op = 5 ∨ op = 6 ∨ op = 7 ∨ op = 8 ∨ op = 9 ∨ op = 10 ∨ op = 11 ∨ op = 12 ∨ op = 13 ∨ op = 14 ∨ op = 15 ∨ op = 16 ∨ op = 17 by omega) with rfl | rfl | rfl | rfl | rfl | rfl | rfl | rfl | rfl | rfl | rfl | rfl | rfl | rfl | rfl | rfl | rfl
    · obtain ⟨n1, n2, n3⟩ := s3 (by omega)
      have HD2 : Hid (dAt d (i + 1) = v + 1) := Lib.hid n2
      clear s1 s2 s3 s4 s5 n2
      go_wp2
      go_roundw
      case rel => exact ⟨i + 1, k + 1, v + 1, by omega, n1, by omega, by omega, by go_num, rfl, by go_num, HD2, HA, HC2, HK2⟩
      case measure => simp [intOf]; omega
    · obtain ⟨n1, n2, n3⟩ := s3 (by omega)
      have HD2 : Hid (dAt d (i + 1) = v + 1) := Lib.hid n2
      clear s1 s2 s3 s4 s5 n2
      go_wp2
      go_roundw
      case rel => exact ⟨i + 1, k + 1, v + 1, by omega, n1, by omega, by omega, by go_num, rfl, by go_num, HD2, HA, HC2, HK2⟩
      case measure => simp [intOf]; omega
    · obtain ⟨n0, n1, n2⟩ := s4 (by omega)
      have HD2 : Hid (dAt d (i + 1) = v - 1) := Lib.hid n2
      clear s1 s2 s3 s4 s5 n2
      go_wp2
      go_roundw
      case rel => exact ⟨i + 1, k + 1, v - 1, by omega, n1, by omega, by omega, by go_num, rfl, by go_num, HD2, HA, HC2, HK2⟩
      case measure => simp [intOf]; omega
    · obtain ⟨n1, n2, n3⟩ := s3 (by omega)
      have HD2 : Hid (dAt d (i + 1) = v + 1) := Lib.hid n2
      clear s1 s2 s3 s4 s5 n2
      go_wp2
      go_roundw
      case rel => exact ⟨i + 1, k + 1, v + 1, by omega, n1, by omega, by omega, by go_num, rfl, by go_num, HD2, HA, HC2, HK2⟩
      case measure => simp [intOf]; omega
    · obtain ⟨n0, n1, n2⟩ := s4 (by omega)
      have HD2 : Hid (dAt d (i + 1) = v - 1) := Lib.hid n2
      clear s1 s2 s3 s4 s5 n2
      go_wp2
      go_roundw
      case rel => exact ⟨i + 1, k + 1, v - 1, by omega, n1, by omega, by omega, by go_num, rfl, by go_num, HD2, HA, HC2, HK2⟩
      case measure => simp [intOf]; omega
    · obtain ⟨n1, n2, n3⟩ := s3 (by omega)
      have HD2 : Hid (dAt d (i + 1) = v + 1) := Lib.hid n2
      clear s1 s2 s3 s4 s5 n2
      go_wp2
      go_roundw
      case rel => exact ⟨i + 1, k + 1, v + 1, by omega, n1, by omega, by omega, by go_num, rfl, by go_num, HD2, HA, HC2, HK2⟩
      case measure => simp [intOf]; omega
    · obtain ⟨n0, n1, n2⟩ := s4 (by omega)
      have HD2 : Hid (dAt d (i + 1) = v - 1) := Lib.hid n2
      clear s1 s2 s3 s4 s5 n2
      go_wp2
      go_roundw
      case rel => exact ⟨i + 1, k + 1, v - 1, by omega, n1, by omega, by omega, by go_num, rfl, by go_num, HD2, HA, HC2, HK2⟩
      case measure => simp [intOf]; omega
    · obtain ⟨n0, n1, n2⟩ := s4 (by omega)
      have HD2 : Hid (dAt d (i + 1) = v - 1) := Lib.hid n2
      clear s1 s2 s3 s4 s5 n2
      go_wp2
      go_roundw
      case rel => exact ⟨i + 1, k + 1, v - 1, by omega, n1, by omega, by omega, by go_num, rfl, by go_num, HD2, HA, HC2, HK2⟩
      case measure => simp [intOf]; omega
    · obtain ⟨n0, n1, n2⟩ := s4 (by omega)
      have HD2 : Hid (dAt d (i + 1) = v - 1) := Lib.hid n2
      clear s1 s2 s3 s4 s5 n2
      go_wp2
      go_roundw
      case rel => exact ⟨i + 1, k + 1, v - 1, by omega, n1, by omega, by omega, by go_num, rfl, by go_num, HD2, HA, HC2, HK2⟩
      case measure => simp [intOf]; omega
    · obtain ⟨n0, n1, n2⟩ := s4 (by omega)
      have HD2 : Hid (dAt d (i + 1) = v - 1) := Lib.hid n2
      clear s1 s2 s3 s4 s5 n2
      go_wp2
      go_roundw
      case rel => exact ⟨i + 1, k + 1, v - 1, by omega, n1, by omega, by omega, by go_num, rfl, by go_num, HD2, HA, HC2, HK2⟩
      case measure => simp [intOf]; omega
    · obtain ⟨n0, n1, n2⟩ := s4 (by omega)
      have HD2 : Hid (dAt d (i + 1) = v - 1) := Lib.hid n2
      clear s1 s2 s3 s4 s5 n2
      go_wp2
      go_roundw
      case rel => exact ⟨i + 1, k + 1, v - 1, by omega, n1, by omega, by omega, by go_num, rfl, by go_num, HD2, HA, HC2, HK2⟩
      case measure => simp [intOf]; omega
    · obtain ⟨n0, n1, n2⟩ := s4 (by omega)
      have HD2 : Hid (dAt d (i + 1) = v - 1) := Lib.hid n2
      clear s1 s2 s3 s4 s5 n2
      go_wp2
      go_roundw
      case rel => exact ⟨i + 1, k + 1, v - 1, by omega, n1, by omega, by omega, by go_num, rfl, by go_num, HD2, HA, HC2, HK2⟩
      case measure => simp [intOf]; omega
    · obtain ⟨n0, n1, n2⟩ := s4 (by omega)
      obtain ⟨j, rfl, m1, m2⟩ := s5 (by omega)
      have HD2 : Hid (dAt d (i + 1) = v - 1) := Lib.hid n2
      have HD3 : Hid (dAt d (i + 1 + j) = v - 1) := Lib.hid m2
      clear s1 s2 s3 s4 s5 n2 m2
      by_cases hk : k < tn
      · have t1 : (k : Int) < (tn : Int) := by omega
        have t2 : (k : Int) < (tc : Int) := by omega
        obtain ⟨tb, toff, rfl, htl, y0⟩ := hB'.out.cellAt (j := k) (by rw [htn'.out]; exact hk)
        have y1 := (bcells HA.out tb (toff + k) htl).trans y0
        have htl2 := Nat.lt_of_lt_of_le htl HA.out.size
        clear y0
        cases hq : ts[k]?.getD false with
        | true =>
          rw [hq] at y1
          go_wp2
          go_roundw
          case rel => exact ⟨i + 1 + j, k + 1, v - 1, by omega, m1, by omega, by omega, by go_num, rfl, by go_num, HD3, HA, HC2, HK2⟩
          case measure => simp [intOf]; omega
        | false =>
          rw [hq] at y1
          go_wp2
          go_roundw
          case rel => exact ⟨i + 1, k + 1, v - 1, by omega, n1, by omega, by omega, by go_num, rfl, by go_num, HD2, HA, HC2, HK2⟩
          case measure => simp [intOf]; omega
      · have t1 : ¬ (k : Int) < (tn : Int) := by omega
        go_wp2
        go_roundw
        case rel => exact ⟨i + 1, k + 1, v - 1, by omega, n1, by omega, by omega, by go_num, rfl, by go_num, HD2, HA, HC2, HK2⟩
        case measure => simp [intOf]; omega
    · obtain ⟨j, rfl, n1, n2⟩ := s2 (by omega)
      have HD2 : Hid (dAt d (i + 1 + j) = v) := Lib.hid n2
      clear s1 s2 s3 s4 s5 n2
      go_wp2
      go_roundw
      case rel => exact ⟨i + 1 + j, k + 1, v, by omega, n1, hv0, hv8, by go_num, rfl, by go_num, HD2, HA, HC2, HK2⟩
      case measure => simp [intOf]; omega
    · obtain ⟨n0, n1, n2⟩ := s4 (by omega)
      have HD2 : Hid (dAt d (i + 1) = v - 1) := Lib.hid n2
      clear s1 s2 s3 s4 s5 n2
      go_wp2
      go_roundw
      case rel => exact ⟨i + 1, k + 1, v - 1, by omega, n1, by omega, by omega, by go_num, rfl, by go_num, HD2, HA, HC2, HK2⟩
      case measure => simp [intOf]; omega
    · clear s1 s2 s3 s4 s5
      go_wp2_with (go_at_call 9; go_must ((with_reducible refine (aw.out _ HA.out).mono ?_); rintro e w4 ⟨rfl, hb4⟩; have B4 := Lib.hid (bnext HA.out hb4); clear hb4))
      go_ret
      exact ⟨rfl, B4.out⟩
    · clear s1 s2 s3 s4 s5
      go_wp2_with (go_at_call 9; go_must ((with_reducible refine (aw.out _ HA.out).mono ?_); rintro e w4 ⟨rfl, hb4⟩; have B4 := Lib.hid (bnext HA.out hb4); clear hb4))
      go_ret
      exact ⟨rfl, B4.out⟩

end Go.Proofs.YtlhipaecndgonaaDoor
