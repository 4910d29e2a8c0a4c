/-
  What queue.told, slices.Grow of none, slices.Concat of two lists and queue.Ask answer, in whatever memory, of lists of at most 10000 who wait. No conditions but those that stand there.
-/
import Derived.Test.YtpaocjpjlogkgaaZQueA
import Derived.Test.YtpaocjpjlogkgaaQWords
import Derived.Lib.AppendZeros
namespace Go.Proofs.Ytpaocjpjlogkgaa
open Go.RowKit Go.Shelf
set_option maxRecDepth 100000

set_option maxHeartbeats 4000000 in
theorem told_any (l : List Wnt) (A : Option Addr) (n c B : Nat) (w : World) (h : OwnW B w A n c l) (hB : B ≤ w.heap.size) (hz : n ≤ 100000) :
    Calls Try.prog 68 #[.slice A n c] w fun e w' => e = .returned (.slice A n c) ∧ OwnW B w' A n c (grK (keysN l)) ∧ Below B w w' := by
  have hN := h.1
  have hc := h.cap
  have hh := Lib.hid (having_any l A n c w (by have := h.sl; exact this) hN hz)
  have H := Lib.hid h
  have hN' := Lib.hid hN
  have hvl := havW_le l
  rw [hN] at hvl
  obtain ⟨m, hm⟩ : ∃ m, m = havW l := ⟨_, rfl⟩
  have M := Lib.hid hm
  rw [← hm] at hh hvl
  clear h hN hm
  go_enter Try.func68, Try.ntmps68
  go_wp2_with (go_at_call 84; go_must ((with_reducible refine hh.out.mono ?_); rintro e w1 ⟨rfl, hb1⟩; have B1 := Lib.hid (hb1.mono hB); have H1 := Lib.hid (H.out.below hb1); have Z1 : B ≤ w1.heap.size := Nat.le_trans hB hb1.size; clear hb1))
  go_loopw [9] (fun cc wr => ∃ i : Nat, i ≤ n ∧ cc = .int .i64 i ∧ Hid (OwnW B wr A n c (toldW l i)) ∧ Hid (Below B w wr)) (fun cc _ => n - (intOf cc).toNat)
  case atStart => exact ⟨0, Nat.zero_le _, rfl, Lib.hid (by rw [toldW_zero]; exact H1.out), B1⟩
  case round =>
    obtain ⟨i, hi, rfl, HO, HB⟩ := hrel
    by_cases hlt : i < n
    · have d1 : (i : Int) < (n : Int) := by omega
      have d2 : (i : Int) < (c : Int) := by omega
      obtain ⟨x, hx⟩ := wnt_at (l := l) (i := i) (by rw [hN'.out]; exact hlt)
      obtain ⟨g, rfl, hg, hgl, hf, x0, x1, x2⟩ := HO.out.at (toldW_at hx)
      have hnx := Lib.hid (HO.out.setHas (toldW_at hx) (decide (i < m)))
      rw [M.out, toldW_succ hx] at hnx
      rw [← M.out] at hnx
      have BN := Lib.hid (HB.out.setCell (p := ⟨g, i * 3 + 2, none⟩) hg (.bool (decide (i < m))))
      clear hx
      go_wp2
      go_roundw
      case rel => exact ⟨i + 1, by omega, by go_num, hnx, BN⟩
      case measure => simp [intOf]; omega
    · obtain rfl : i = n := by omega
      clear hlt
      go_wp2
      go_ret
      refine ⟨rfl, ?_, HB.out⟩
      have := HO.out
      rw [← hN'.out, toldW_all] at this
      rw [← hN'.out]
      exact this

set_option maxHeartbeats 2000000 in
theorem growW_any (n : Nat) (h0 : 0 < n) (hz : n ≤ 100001) (w : World) :
    Calls Try.prog 85 #[.slice none 0 0, .int .i64 n] w fun e w' => ∃ A c, e = .returned (.slice A 0 c) ∧ OwnW w.heap.size w' A 0 c [] ∧ Below w.heap.size w w' := by
  obtain ⟨i0, hi, hz0, hz1, hz2⟩ := infoWnt
  have hrz : ∀ ty, (Builtin.append_ #[90, 3] ty #[.slice none 0 0, .int .i64 n]).run Try.prog w = _ := fun ty =>
    Lib.run_append_nil_zeros w 90 3 ty 113 i0 _ .i64 .i64 Try.underlying90 Try.underlying3 hi hz0 n h0 (by omega) (by omega) (by rw [hz2]; omega)
  have hG : n ≤ grownCap w n 0 113 := grownCap_ge w _ _ _
  have hG63 : grownCap w n 0 113 ≤ maxLen := grownCap_le_maxLen w n 0 113 (by unfold maxLen; omega)
  have hown : ∀ G, n ≤ G → G ≤ maxLen → OwnW w.heap.size (w.drew.alloc (.cells (Builtin.zeroCells (Value.agg (wnV 0 false false)).cells n ++ Builtin.zeroCells (Value.agg (wnV 0 false false)).cells (G - n)) 113)) (some ⟨w.heap.size, 0, none⟩) 0 G [] := fun G h1 h2 => by
    refine ⟨rfl, rfl, .inr ⟨w.heap.size, G, _, rfl, Nat.le_refl _, heap_alloc_new w.drew _, Nat.zero_le _, h2, ?_, by simp [wntsW]⟩⟩
    simp [Builtin.zeroCells, Value.cells]
    omega
  have HB : Hid (∀ o, Below w.heap.size w (w.drew.alloc o)) := Lib.hid (fun o => (below_drew1 w).alloc (Nat.le_refl _) o)
  have h63 : (grownCap w n 0 113 : Int) ≤ 9223372036854775807 := by unfold maxLen at hG63; omega
  generalize grownCap w n 0 113 = G at *
  have HO := Lib.hid (hown G hG hG63)
  clear hown
  go_enter Try.func85, Try.ntmps85
  go_wp2_with (at_builtin; refine Lib.wpList_append_run _ rfl _ _ _ _ rfl _ _ rfl rfl _ _ (hrz _) ?_)
  go_ret
  exact ⟨_, _, rfl, HO.out, HB.out _⟩


/-- what the first so many of the two lists hold. -/
def catW (l : List Wnt) (x : Wnt) (i : Nat) : List Wnt := if i = 0 then [] else if i = 1 then l else l ++ [x]
def catN (n i : Nat) : Nat := if i = 0 then 0 else if i = 1 then n else n + 1

set_option maxHeartbeats 8000000 in
theorem concat_any (l : List Wnt) (x : Wnt) (lA xA : Option Addr) (n c g : Nat) (w : World) (hl : Wnts w lA c l) (hx : Wnts w xA 1 [x]) (hg : Bk w g 90 #[.slice lA n c, .slice xA 1 1]) (hN : l.length = n) (hz : n ≤ 100000) :
    Calls Try.prog 69 #[.slice (some ⟨g, 0, none⟩) 2 2] w fun e w' => ∃ A k, e = .returned (.slice A (n + 1) k) ∧ OwnW w.heap.size w' A (n + 1) k (l ++ [x]) ∧ Below w.heap.size w w' := by
  obtain ⟨i0, hi, hz0, hz1, hz2⟩ := infoWnt
  have hc0 : w.cell? ⟨g, 0, none⟩ = some (.slice lA n c) := hg.cell 0
  have hc1 : w.cell? ⟨g, 1, none⟩ = some (.slice xA 1 1) := hg.cell 1
  have hgl : g < w.heap.size := hg.lt
  have hnc : n ≤ c := by have := hl.2.1; omega
  have HL := Lib.hid hl
  have HX := Lib.hid hx
  have HN := Lib.hid hN
  have hG := growW_any (n + 1) (by omega) (by omega) w
  rw [Int.natCast_add, Int.natCast_one] at hG
  have HG := Lib.hid hG
  clear hG
  have C0 := Lib.hid hc0
  have C1 := Lib.hid hc1
  clear hg hl hx hN
  go_enter Try.func69, Try.ntmps69
  go_wp2
  go_loop [3, 11] (fun tot cc => ∃ i : Nat, i ≤ 2 ∧ cc = .int .i64 i ∧ tot = .int .i64 (catN n i)) (fun _ cc => 2 - (intOf cc).toNat)
  case atStart => exact ⟨0, by omega, rfl, rfl⟩
  case round =>
    obtain ⟨i, hi2, rfl, rfl⟩ := hrel
    rcases (show i = 0 ∨ i = 1 ∨ i = 2 by omega) with rfl | rfl | rfl
    · have e0 : catN n 0 = 0 := rfl
      go_wp2
      go_round
      case rel => exact ⟨1, by omega, rfl, by simp [catN]⟩
      case measure => simp [intOf]
    · have e1 : catN n 1 = n := rfl
      go_wp2
      go_round
      case rel => exact ⟨2, by omega, rfl, by simp [catN]⟩
      case measure => simp [intOf]
    · have e2 : catN n 2 = n + 1 := rfl
      go_wp2_with (go_at_call 85; go_must ((with_reducible refine HG.out.mono ?_); rintro e w1 ⟨A1, k1, rfl, hO, hb1⟩; have O1 := Lib.hid hO; have B1 := Lib.hid hb1; clear hO hb1))
      go_loopw [6, 27] (fun ns cc wr => ∃ (i : Nat) (A : Option Addr) (k : Nat), i ≤ 2 ∧ cc = .int .i64 i ∧ ns = .slice A (catN n i) k ∧ Hid (OwnW w.heap.size wr A (catN n i) k (catW l x i)) ∧ Hid (Below w.heap.size w wr)) (fun _ cc _ => 2 - (intOf cc).toNat)
      case atStart => exact ⟨0, A1, k1, by omega, rfl, rfl, O1, B1⟩
      case round =>
        obtain ⟨i, A, k, hi2, rfl, rfl, HO, HB⟩ := hrel
        have c0 := (HB.out.cell (p := ⟨g, 0, none⟩) hgl).trans C0.out
        have c1 := (HB.out.cell (p := ⟨g, 1, none⟩) hgl).trans C1.out
        have hgw : g < wr.heap.size := Nat.lt_of_lt_of_le hgl HB.out.size
        have SL := Lib.hid (HL.out.below HB.out)
        have SX := Lib.hid (HX.out.below HB.out)
        have hsz := HB.out.size
        rcases (show i = 0 ∨ i = 1 ∨ i = 2 by omega) with rfl | rfl | rfl
        · have e0 : catN n 0 = 0 := rfl
          rw [e0] at HO
          have hs := SL.out
          unfold Wnts at hs
          rw [HN.out] at hs
          have SL' := Lib.hid hs
          clear hs
          go_wp2_with (at_builtin; go_must (refine append_sl rfl _ _ _ rfl w.heap.size 113 i0 _ 3 16 Try.underlying90 hi hz0 hz1 hz2 rfl (by decide) _ 0 _ rfl HO.out.2 lA n c _ rfl SL'.out (wntsW_one l) (by unfold maxLen; omega) (by omega) hsz ?_; intro v' w1 hown hgr))
          obtain ⟨A', k', rfl, -⟩ := Sl.own hown
          rw [Nat.zero_add] at hown
          go_roundw
          case rel => exact ⟨1, A', k', by omega, rfl, by simp [catN], Lib.hid ⟨HN.out, by simpa [catW, catN, wntsW] using hown⟩, Lib.hid (HB.out.grown hgr hsz (fun b hb => own_ge HO.out.2 hb))⟩
          case measure => simp [intOf]
        · have e1 : catN n 1 = n := rfl
          rw [e1] at HO
          go_wp2_with (at_builtin; go_must (refine append_sl rfl _ _ _ rfl w.heap.size 113 i0 _ 3 16 Try.underlying90 hi hz0 hz1 hz2 rfl (by decide) _ n _ rfl HO.out.2 xA 1 1 _ rfl SX.out (wntsW_one [x]) (by unfold maxLen; omega) (by omega) hsz ?_; intro v' w1 hown hgr))
          obtain ⟨A', k', rfl, -⟩ := Sl.own hown
          go_roundw
          case rel => exact ⟨2, A', k', by omega, rfl, by simp [catN], Lib.hid ⟨by simp [catW, catN, HN.out], by rw [show catW l x 2 = l ++ [x] from rfl, wntsW_append]; exact hown⟩, Lib.hid (HB.out.grown hgr hsz (fun b hb => own_ge HO.out.2 hb))⟩
          case measure => simp [intOf]
        · go_wp2
          go_ret
          exact ⟨A, k, rfl, HO.out, HB.out⟩

set_option maxHeartbeats 4000000 in
theorem ask_any (l : List Wnt) (A : Option Addr) (n c : Nat) (s : Int) (ex : Bool) (w : World) (h : Wnts w A c l) (hN : l.length = n) (hz : n ≤ 10000) :
    Calls Try.prog 42 #[.slice A n c, .int .i64 s, .bool ex] w (WnPost (askN l s ex) w) := by
  have H := Lib.hid h
  have HN := Lib.hid hN
  have hk : Bk (w.alloc (.cells (wnV s ex false) 113)) w.heap.size 113 (wnV s ex false) := Bk.new w _ _
  have hx : Wnts (w.alloc (.cells (wnV s ex false) 113)) (some ⟨w.heap.size, 0, none⟩) 1 [⟨s, ex, false⟩] := by
    refine ⟨rfl, Nat.le_refl _, fun h => (by cases h), fun _ => ⟨_, 0, rfl, hk.lt, fun j hj => ?_⟩⟩
    have hj : j < 3 := hj
    rw [Nat.zero_add, hk.cell j]
    rcases j with _ | _ | _ | j
    all_goals first | rfl | omega
  have B0 := below_alloc1 w (.cells (wnV s ex false) 113)
  have B1 := below_alloc1 (w.alloc (.cells (wnV s ex false) 113)) (.cells #[.slice A n c, .slice (some ⟨w.heap.size, 0, none⟩) 1 1] 90)
  have hc := Lib.hid (concat_any l ⟨s, ex, false⟩ A _ n c _ _ ((h.below B0).below B1) (hx.below B1) (Bk.new _ _ _) hN (by omega))
  have BB := Lib.hid (bnext B0 B1)
  rw [World.size_alloc] at hc
  clear h hN hk hx B0 B1
  go_enter Try.func42, Try.ntmps42
  go_wp2_with (first
    | (go_at_call 69; go_must (refine hc.out.mono ?_; rintro e w1 ⟨A1, k1, rfl, hO, hb1⟩; have O1 := Lib.hid (hO.lower BB.out.size); have C1 := Lib.hid (bnext BB.out hb1); clear hO hb1; have ht := Lib.hid (told_any _ A1 (n + 1) k1 w.heap.size w1 O1.out C1.out.size (by omega))))
    | (go_at_call 68; go_must ((with_reducible refine ht.out.mono ?_); rintro e w2 ⟨rfl, hO, hb2⟩; have O2 := Lib.hid hO; have C2 := Lib.hid (C1.out.trans hb2); clear hO hb2)))
  go_ret
  refine ⟨_, _, _, rfl, ?_, C2.out⟩
  rw [← askN_told]
  exact O2.out

end Go.Proofs.Ytpaocjpjlogkgaa
