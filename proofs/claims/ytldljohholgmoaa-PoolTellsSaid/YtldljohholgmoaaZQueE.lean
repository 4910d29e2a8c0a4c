/-
  What foremanref14.grant and Ask answer, in whatever memory, of lists of at most 10000 who wait. No conditions but those that stand there.
-/
import Derived.Test.YtldljohholgmoaaZWntM
import Derived.Test.YtldljohholgmoaaQStr
import Derived.Test.YtldljohholgmoaaZAppSl
import Derived.Test.YtldljohholgmoaaZOwn
import Derived.OwnWalk
namespace Go.Proofs.Ytldljohholgmoaa
open Go.RowKit

theorem gr_next {l : List Wnt} {k : Nat} {x y : Wnt} (hy : l[k]? = some y) (hx : l[k + 1]? = some x) : decide (k + 1 < havW l) = (!x.excl && decide (k < havW l) && !y.excl) := by
  have hk : k + 1 < l.length := by
    rcases Nat.lt_or_ge (k + 1) l.length with h | h
    · exact h
    · rw [List.getElem?_eq_none h] at hx; cases hx
  have := has_succ (K := keysN l) (i := k) (by rw [keys_length]; exact hk)
  rw [hav_has hk, hav_has (by omega), keyAt_keys hx, keyAt_keys hy] at this
  exact this

theorem told_prev {l : List Wnt} {k : Nat} {y : Wnt} (hy : l[k]? = some y) : (toldW l (k + 1))[k]? = some ⟨y.seq, y.excl, decide (k < havW l)⟩ := by
  have hk : k < l.length := by
    rcases Nat.lt_or_ge k l.length with h | h
    · exact h
    · rw [List.getElem?_eq_none h] at hy; cases hy
  unfold toldW
  rw [List.getElem?_append_left (by rw [List.length_take, gr_length]; omega), List.getElem?_take, if_pos (by omega), gr_at hy]

set_option maxHeartbeats 8000000 in
set_option maxRecDepth 100000 in
theorem grant_any (l : List Wnt) (A : Option Addr) (n c B : Nat) (w : World) (h : Wnts w A c l) (hN : l.length = n) (hB : B ≤ w.heap.size) (hz : n ≤ 100000) :
    Calls Try.prog 54 #[.slice A n c] w fun e w' => ∃ A' k, e = .returned (.slice A' n k) ∧ OwnW B w' A' n k (grK (keysN l)) ∧ Below B w w' := by
  obtain ⟨i0, hi, hz0, hz1, hz2⟩ := infoWnt
  have BA := below_alloc1 w (.cells #[] 84)
  have hs := h.below BA
  unfold Wnts at hs
  rw [hN] at hs
  have SL := Lib.hid hs
  have B0 := Lib.hid (BA.mono hB)
  have ho := World.ownsRow_lit (e := 84) (size := 3) w #[] 0 (Nat.le_refl w.heap.size) (by decide) rfl
  have O0 := Lib.hid (own_lower ho hB)
  have hs0 : B ≤ (w.alloc (.cells #[] 84)).heap.size := by rw [World.size_alloc]; omega
  have HN := Lib.hid hN
  clear h hN hs BA ho
  go_enter Try.func54, Try.ntmps54
  go_wp2_with (at_builtin; go_must (refine append_sl rfl _ _ _ rfl B 84 i0 _ 3 16 Try.underlying62 hi hz0 hz1 hz2 rfl (by decide) _ 0 _ rfl O0.out A n c _ rfl SL.out (wntsW_one l) (by unfold maxLen; omega) (by omega) hs0 ?_; intro v' w1 hown hgr))
  obtain ⟨A', k', rfl, -⟩ := Sl.own hown
  simp only [Nat.zero_add, List.nil_append] at hown
  have O1 : Hid (OwnW B w1 A' n k' l) := Lib.hid ⟨HN.out, hown⟩
  have C1 := Lib.hid (B0.out.grown hgr hs0 (fun b hb => own_ge O0.out hb))
  have hcap := O1.out.cap
  clear hown hgr
  rw [Nat.zero_add]
  go_loopw [4] (fun cc wr => ∃ i : Nat, i ≤ n ∧ cc = .int .i64 i ∧ Hid (OwnW B wr A' n k' (toldW l i)) ∧ Hid (Below B w wr)) (fun cc _ => n - (intOf cc).toNat)
  case atStart => exact ⟨0, Nat.zero_le _, rfl, Lib.hid (by rw [toldW_zero]; exact O1.out), C1⟩
  case round =>
    obtain ⟨i, hin, rfl, HO, HB⟩ := hrel
    by_cases hlt : i < n
    · have d1 : (i : Int) < (n : Int) := by omega
      have d2 : (i : Int) < (k' : Int) := by omega
      obtain ⟨x, hx⟩ := wnt_at (l := l) (i := i) (by rw [HN.out]; exact hlt)
      obtain ⟨g, rfl, hg, hgl, hf, x0, x1, x2⟩ := HO.out.at (toldW_at hx)
      have hnx := HO.out.setHas (toldW_at hx) (decide (i < havW l))
      rw [toldW_succ hx] at hnx
      have HX := Lib.hid hx
      rcases Nat.eq_zero_or_pos i with rfl | hpos
      · have e1 : decide (0 < havW l) = true := decide_eq_true (hav_one (by rw [HN.out]; exact hlt))
        rw [e1] at hnx
        have HNX := Lib.hid hnx
        have BN := Lib.hid (HB.out.setCell (p := ⟨g, 0 * 3 + 2, none⟩) hg (.bool true))
        clear hx hnx e1
        go_wp2
        go_roundw
        case rel => exact ⟨1, by omega, by go_num, HNX, BN⟩
        case measure => simp [intOf]; omega
      · obtain ⟨k, rfl⟩ : ∃ k, i = k + 1 := ⟨i - 1, by omega⟩
        obtain ⟨y, hy⟩ := wnt_at (l := l) (i := k) (by rw [HN.out]; omega)
        obtain ⟨g2, hg2, -, -, -, y0, y1, y2⟩ := HO.out.at (told_prev hy)
        injection hg2 with hg2
        injection hg2 with hg2
        subst hg2
        rw [gr_next hy hx] at hnx
        have HNX := Lib.hid hnx
        have BN := Lib.hid (fun b : Bool => HB.out.setCell (p := ⟨g, (k + 1) * 3 + 2, none⟩) hg (.bool b))
        have d3 : (k : Int) < (n : Int) := by omega
        have d4 : (k : Int) < (k' : Int) := by omega
        have d5 : ¬ (k : Int) + 1 = 0 := by omega
        simp only at y0 y1 y2
        generalize decide (k < havW l) = b at *
        obtain ⟨sx, ax, bx⟩ := x
        obtain ⟨sy, ay, by'⟩ := y
        simp only at x0 x1 x2 y0 y1 y2 HNX
        clear hx hnx hy
        cases ax with
        | true =>
          have HN2 : Hid (OwnW B (wr.setCell ⟨g, (k + 1) * 3 + 2, none⟩ (.bool false)) (some ⟨g, 0, none⟩) n k' (toldW l (k + 1 + 1))) := HNX
          clear HNX
          go_wp2
          go_roundw
          case rel => exact ⟨k + 1 + 1, by omega, by go_num, HN2, Lib.hid (BN.out false)⟩
          case measure => simp [intOf]; omega
        | false =>
          cases b with
          | false =>
            have HN2 : Hid (OwnW B (wr.setCell ⟨g, (k + 1) * 3 + 2, none⟩ (.bool false)) (some ⟨g, 0, none⟩) n k' (toldW l (k + 1 + 1))) := HNX
            clear HNX
            go_wp2
            go_roundw
            case rel => exact ⟨k + 1 + 1, by omega, by go_num, HN2, Lib.hid (BN.out false)⟩
            case measure => simp [intOf]; omega
          | true =>
            have HN2 : Hid (OwnW B (wr.setCell ⟨g, (k + 1) * 3 + 2, none⟩ (.bool (!ay))) (some ⟨g, 0, none⟩) n k' (toldW l (k + 1 + 1))) := HNX
            clear HNX
            go_wp2
            go_roundw
            case rel => exact ⟨k + 1 + 1, by omega, by go_num, HN2, Lib.hid (BN.out (!ay))⟩
            case measure => simp [intOf]; omega
    · obtain rfl : i = n := by omega
      clear hlt
      go_wp2
      go_ret
      refine ⟨_, _, rfl, ?_, HB.out⟩
      have := HO.out
      rw [← HN.out, toldW_all] at this
      rw [← HN.out]
      exact this

set_option maxHeartbeats 8000000 in
set_option maxRecDepth 100000 in
theorem rask_any (l : List Wnt) (A : Option Addr) (n c : Nat) (s : Int) (ex : Bool) (w : World) (h : Wnts w A c l) (hN : l.length = n) (hz : n ≤ 10000) :
    Calls Try.prog 35 #[.slice A n c, .int .i64 s, .bool ex] w (WnPost (askN l s ex) w) := by
  obtain ⟨i0, hi, hz0, hz1, hz2⟩ := infoWnt
  have BA := below_alloc1 w (.cells #[] 84)
  have hs := h.below BA
  unfold Wnts at hs
  rw [hN] at hs
  have SL := Lib.hid hs
  have B0 := Lib.hid BA
  have O0 := Lib.hid (World.ownsRow_lit (e := 84) (size := 3) w #[] 0 (Nat.le_refl w.heap.size) (by decide) rfl)
  have hs0 : w.heap.size ≤ (w.alloc (.cells #[] 84)).heap.size := by rw [World.size_alloc]; omega
  have HN := Lib.hid hN
  have m1 : True := trivial
  clear h hN hs BA
  go_enter Try.func35, Try.ntmps35
  go_wp2_with (first
    | (at_builtin; clear m1; go_must (refine append_sl rfl _ _ _ rfl w.heap.size 84 i0 _ 3 16 Try.underlying62 hi hz0 hz1 hz2 rfl (by decide) _ 0 _ rfl O0.out A n c _ rfl SL.out (wntsW_one l) (by unfold maxLen; omega) (by omega) hs0 ?_; intro v' w1 hown hgr; obtain ⟨A1, k1, rfl, -⟩ := Sl.own hown; simp only [Nat.zero_add, List.nil_append] at hown; have O1 := Lib.hid (own_below hown (below_alloc1 w1 (.cells (wnV s ex false) 84))); have C0 := Lib.hid (B0.out.grown hgr hs0 (fun b hb => own_ge O0.out hb)); have C1 := Lib.hid (bnext C0.out (below_alloc1 w1 (.cells (wnV s ex false) 84))); have V1 := Lib.hid (Bk.new w1 84 (wnV s ex false)); have Z1 := C1.out.size; clear hown hgr))
    | (at_builtin; go_must (refine append_row rfl _ _ _ rfl w.heap.size 84 i0 _ 3 16 Try.underlying62 hi hz0 hz1 hz2 rfl (by decide) _ n _ rfl O1.out w1.heap.size (wnV s ex false) rfl V1.out rfl rfl (by unfold maxLen; omega) (by omega) Z1 ?_; intro g2 k2 w2 hown hgr; have O2 := Lib.hid hown; have C2 := Lib.hid (C1.out.grown hgr Z1 (fun b hb => own_ge O1.out hb)); have hgw := Lib.hid (grant_any (l ++ [⟨s, ex, false⟩]) (some ⟨g2, 0, none⟩) (n + 1) k2 w.heap.size w2 (by have := Sl.own' hown; unfold Wnts; rw [wntsW_append, List.length_append, HN.out, wntsW_sing]; exact this) (by rw [List.length_append, HN.out]; rfl) C2.out.size (by omega)); clear hown hgr))
    | (go_at_call 54; go_must ((with_reducible refine hgw.out.mono ?_); rintro e w3 ⟨A3, k3, rfl, hO, hb3⟩; have O3 := Lib.hid hO; have C3 := Lib.hid (C2.out.trans hb3); clear hO hb3)))
  go_ret
  refine ⟨_, _, _, rfl, ?_, C3.out⟩
  rw [← askN_told]
  exact O3.out

end Go.Proofs.Ytldljohholgmoaa
