/-
  ProofPlain, walked: true for every list of bytes, in whatever memory that has the kinds' table.
-/
import Derived.Test.YtlhipaecndgonaaDoorPrfK
import Derived.Test.YtlhipaecndgonaaDoorPrfR
import Derived.Test.YtlhipaecndgonaaDoorOpenCm
namespace Go.Proofs.YtlhipaecndgonaaDoor
open Go.RowKit

theorem U8s.cellAt {w : World} {A : Option Addr} {c : Nat} {l : List Int} (h : U8s w A c l) {j : Nat} (hj : j < l.length) :
    ∃ b off, A = some ⟨b, off, none⟩ ∧ b < w.heap.size ∧ w.cell? ⟨b, off + j, none⟩ = some (.int .u8 (l[j]?.getD 0)) := by
  obtain ⟨b, off, rfl, hb, hc⟩ := h.2.2.2 (by omega)
  refine ⟨b, off, rfl, hb, ?_⟩
  rw [hc j (by omega)]
  simp [hj]

theorem U8s.below {w w' : World} {A : Option Addr} {c : Nat} {l : List Int} (h : U8s w A c l) (hb : Below w.heap.size w w') : U8s w' A c l := Sl.below h hb

theorem getD_u8 {l : List Int} (h : ∀ x ∈ l, 0 ≤ x ∧ x ≤ 255) (i : Nat) : 0 ≤ l[i]?.getD 0 ∧ l[i]?.getD 0 ≤ 255 := by
  cases hi : l[i]? with
  | none => decide
  | some x => exact h x (List.mem_of_getElem? hi)

theorem plain_row {l : List Int} {i : Nat} (hi : i < l.length) {x : Ins} (hx : plainI i (l[i]?.getD 0) = x) : inssW ((plainL l).take (i + 1)) = inssW ((plainL l).take i) ++ insW x := by
  rw [plainL_take hi, hx, inssW_snoc]

/-- the row that has grown by one. -/
theorem plain_own {l : List Int} {i : Nat} (hi : i < l.length) {x : Ins} (hx : plainI i (l[i]?.getD 0) = x) {w5 : World} {B : Nat} {v : Value} (h : w5.ownsRow B 35 3 v (i + 1) (inssW ((plainL l).take i) ++ insW x)) : w5.ownsRow B 35 3 v (i + 1) (inssW ((plainL l).take (i + 1))) := by
  rw [plain_row hi hx]
  exact h

theorem below_row {B n : Nat} {w wr w5 : World} {o : Obj} {v : Value} {xs : List Value} (hB : Below B w wr) (hs : B ≤ wr.heap.size) (ho : wr.ownsRow B 35 3 v n xs) (hg : (wr.alloc o).grownBy w5 v.ownBlock) : Below B w w5 :=
  (hB.alloc hs o).grown hg (by rw [World.size_alloc]; omega) (fun _ hk => own_ge ho hk)

theorem plain_cm {l : List Int} {N : Nat} (hN : l.length = N) (h60 : N ≤ 60) {W : World} {B g cap : Nat} (h : W.ownsRow B 35 3 (.slice (some ⟨g, 0, none⟩) (N + 1) cap) (N + 1) (inssW ((plainL l).take N) ++ [.int .i64 17, .int .i64 0, .int .i64 0])) :
    CmIn W (plainC l) none 0 0 none 0 0 none 0 0 (some ⟨g, 0, none⟩) (N + 1) cap := by
  have hl : (plainL l).take N = plainL l := by rw [← hN, ← plainL_length l, List.take_length]
  rw [hl] at h
  have hnil : Ints W none 0 [] := ⟨rfl, Nat.le_refl _, fun _ => ⟨rfl, rfl⟩, fun h => absurd h (by simp)⟩
  have hlen : (plainL l ++ [(⟨17, 0, 0⟩ : Ins)]).length = N + 1 := by simp [plainL_length, hN]
  refine ⟨rfl, rfl, rfl, hlen, hnil, hnil, hnil, ?_, by omega, by omega, by omega, by omega⟩
  show Sl W 3 _ (plainL l ++ [(⟨17, 0, 0⟩ : Ins)]).length cap (inssW (plainL l ++ [(⟨17, 0, 0⟩ : Ins)]))
  rw [hlen, inssW_snoc]
  exact Sl.own' h

set_option maxHeartbeats 16000000 in
theorem proofPlain_main (l : List Int) (A : Option Addr) (N c : Nat) (w : World) (h : U8s w A c l) (hN : l.length = N) (h60 : N ≤ 60) (hR : ∀ x ∈ l, 0 ≤ x ∧ x ≤ 255) (hT : HasKinds w) :
    Calls Tryd.prog 6 #[.slice A N c] w fun e w' => e = .returned (.bool true) ∧ Below w.heap.size w w' := by
  obtain ⟨i0, hi0, hz0, hz1, hz2⟩ := infoIns
  have aw := Lib.hid (fun X (hX : Below _ w X) => awake7 X (hT.belowS hX))
  have hT' := Lib.hid hT
  have h' := Lib.hid h
  have hN' := Lib.hid hN
  have hc : N ≤ c := by have := h.2.1; rwa [hN] at this
  have hu := Lib.hid (getD_u8 hR)
  have d0 : ¬ (60 : Int) < (N : Int) := by omega
  have hro := Lib.hid (fun i (hi : i < l.length) (x : Ins) hx (w5 : World) v h => plain_own hi (x := x) hx (w5 := w5) (B := w.heap.size) (v := v) h)
  have hat := Lib.hid (fun i (v v' : Int) (s g g' : Bool) (hi : i < l.length) => plain_step (v := v) (v' := v') (s := s) (g := g) (g' := g') hi)
  have hcm := Lib.hid (fun (W : World) (g cap : Nat) h => plain_cm hN h60 (W := W) (B := w.heap.size) (g := g) (cap := cap) h)
  have hck := Lib.hid (plain_check (l := l) (by omega))
  obtain ⟨S, hS⟩ : ∃ S, S = straightB 0 (plainL l) := ⟨_, rfl⟩
  have hS' := Lib.hid hS
  rw [← hS] at hck
  clear h hN hR hT hS
  go_enter Tryd.func6, Tryd.ntmps6
  go_wp2
  go_loopw [3, 4, 5, 6] (fun vl vd vg vi wr => ∃ (i : Nat) (v : Int) (g : Bool), i ≤ N ∧ vi = .int .i64 i ∧ vd = .int .i64 v ∧ vg = .bool g ∧ -(i : Int) ≤ v ∧ v ≤ i ∧ Hid (wr.ownsRow w.heap.size 35 3 vl i (inssW ((plainL l).take i))) ∧ Hid (Below w.heap.size w wr) ∧ Hid (S = (g && straightB v ((plainL l).drop i)) ∧ (g = true → 0 ≤ v))) (fun _ _ _ vi _ => N - (intOf vi).toNat)
  case atStart => exact ⟨0, 0, true, Nat.zero_le _, rfl, rfl, rfl, by omega, by omega, Lib.hid ⟨rfl, .inl ⟨rfl, rfl⟩⟩, Lib.hid (Below.refl _ _), Lib.hid ⟨by rw [hS'.out]; simp, fun _ => by omega⟩⟩
  case round =>
    obtain ⟨i, v, g, hi, rfl, rfl, rfl, hv1, hv2, HO, HB, HS⟩ := hrel
    have q1 : i + 1 ≤ maxLen := by unfold maxLen; omega
    have q2 : (i + 1) * 24 ≤ 140737488355328 := by omega
    have qs := HB.out.size
    by_cases hlt : i < N
    · have e1 : (i : Int) < (N : Int) := by omega
      have e2 : (i : Int) < (c : Int) := by omega
      obtain ⟨b, off, rfl, hbl, x0⟩ := (h'.out.below HB.out).cellAt (j := i) (by rw [hN'.out]; exact hlt)
      have hil : Hid (i < l.length) := Lib.hid (by rw [hN'.out]; exact hlt)
      have hu2 := hu.out i
      have hpc := plain_cases i (l[i]?.getD 0)
      obtain ⟨x, hx⟩ : ∃ x, x = l[i]?.getD 0 := ⟨_, rfl⟩
      rw [← hx] at x0 hu2 hpc
      have hx' := Lib.hid hx
      clear hx
      rcases hpc with ⟨hk | hk, hI⟩ | ⟨hk, hI⟩ | ⟨hk, hI⟩
      · have hI : Hid (plainI i x = ⟨1, (i : Int), 0⟩) := Lib.hid hI
        cases g with
        | false =>
          have HS2 : Hid (S = (false && straightB (v + 1) ((plainL l).drop (i + 1))) ∧ (false = true → 0 ≤ v + 1)) := Lib.hid (hat.out i v (v + 1) S false false hil.out HS.out.1 HS.out.2 (by rw [← hx'.out, hI.out]; simp [offN, onN]) (fun h0 => by rw [← hx'.out, hI.out]; simp) (fun h => rfl))
          go_wp2_with (at_builtin; go_must (refine append_row rfl (.tmp 39) (.tmp 42) _ rfl w.heap.size 35 i0 _ 3 24 Tryd.underlying23 hi0 hz0 hz1 hz2 rfl (by decide) _ i (inssW ((plainL l).take i)) rfl (own_below HO.out (below_alloc1 _ _)) wr.heap.size #[.int .i64 1, .int .i64 (i : Int), .int .i64 0] rfl (Bk.new _ _ _) rfl rfl q1 q2 (by rw [World.size_alloc]; exact Nat.le_succ_of_le qs) ?_; intro g5 cap5 w5 ho5 hg5; have O5 := Lib.hid (hro.out i hil.out _ (hx'.out ▸ hI.out) w5 _ ho5); have B5 := Lib.hid (below_row HB.out qs HO.out hg5); clear ho5 hg5))
          go_roundw
          case rel => exact ⟨i + 1, v + 1, false, by omega, by go_num, rfl, rfl, by omega, by omega, O5, B5, HS2⟩
          case measure => simp [intOf]; omega
        | true =>
          have HS2 : Hid (S = ((decide (v + 1 ≤ 8)) && straightB (v + 1) ((plainL l).drop (i + 1))) ∧ ((decide (v + 1 ≤ 8)) = true → 0 ≤ v + 1)) := Lib.hid (hat.out i v (v + 1) S true (decide (v + 1 ≤ 8)) hil.out HS.out.1 HS.out.2 (by rw [← hx'.out, hI.out]; simp [offN, onN]) (fun h0 => by rw [← hx'.out, hI.out]; simp [offN, h0]) (fun h => by cases h))
          go_wp2_with (at_builtin; go_must (refine append_row rfl (.tmp 39) (.tmp 42) _ rfl w.heap.size 35 i0 _ 3 24 Tryd.underlying23 hi0 hz0 hz1 hz2 rfl (by decide) _ i (inssW ((plainL l).take i)) rfl (own_below HO.out (below_alloc1 _ _)) wr.heap.size #[.int .i64 1, .int .i64 (i : Int), .int .i64 0] rfl (Bk.new _ _ _) rfl rfl q1 q2 (by rw [World.size_alloc]; exact Nat.le_succ_of_le qs) ?_; intro g5 cap5 w5 ho5 hg5; have O5 := Lib.hid (hro.out i hil.out _ (hx'.out ▸ hI.out) w5 _ ho5); have B5 := Lib.hid (below_row HB.out qs HO.out hg5); clear ho5 hg5))
          go_roundw
          case rel => exact ⟨i + 1, v + 1, (decide (v + 1 ≤ 8)), by omega, by go_num, rfl, rfl, by omega, by omega, O5, B5, HS2⟩
          case measure => simp [intOf]; omega
      · have hI : Hid (plainI i x = ⟨1, (i : Int), 0⟩) := Lib.hid hI
        cases g with
        | false =>
          have HS2 : Hid (S = (false && straightB (v + 1) ((plainL l).drop (i + 1))) ∧ (false = true → 0 ≤ v + 1)) := Lib.hid (hat.out i v (v + 1) S false false hil.out HS.out.1 HS.out.2 (by rw [← hx'.out, hI.out]; simp [offN, onN]) (fun h0 => by rw [← hx'.out, hI.out]; simp) (fun h => rfl))
          go_wp2_with (at_builtin; go_must (refine append_row rfl (.tmp 39) (.tmp 42) _ rfl w.heap.size 35 i0 _ 3 24 Tryd.underlying23 hi0 hz0 hz1 hz2 rfl (by decide) _ i (inssW ((plainL l).take i)) rfl (own_below HO.out (below_alloc1 _ _)) wr.heap.size #[.int .i64 1, .int .i64 (i : Int), .int .i64 0] rfl (Bk.new _ _ _) rfl rfl q1 q2 (by rw [World.size_alloc]; exact Nat.le_succ_of_le qs) ?_; intro g5 cap5 w5 ho5 hg5; have O5 := Lib.hid (hro.out i hil.out _ (hx'.out ▸ hI.out) w5 _ ho5); have B5 := Lib.hid (below_row HB.out qs HO.out hg5); clear ho5 hg5))
          go_roundw
          case rel => exact ⟨i + 1, v + 1, false, by omega, by go_num, rfl, rfl, by omega, by omega, O5, B5, HS2⟩
          case measure => simp [intOf]; omega
        | true =>
          have HS2 : Hid (S = ((decide (v + 1 ≤ 8)) && straightB (v + 1) ((plainL l).drop (i + 1))) ∧ ((decide (v + 1 ≤ 8)) = true → 0 ≤ v + 1)) := Lib.hid (hat.out i v (v + 1) S true (decide (v + 1 ≤ 8)) hil.out HS.out.1 HS.out.2 (by rw [← hx'.out, hI.out]; simp [offN, onN]) (fun h0 => by rw [← hx'.out, hI.out]; simp [offN, h0]) (fun h => by cases h))
          go_wp2_with (at_builtin; go_must (refine append_row rfl (.tmp 39) (.tmp 42) _ rfl w.heap.size 35 i0 _ 3 24 Tryd.underlying23 hi0 hz0 hz1 hz2 rfl (by decide) _ i (inssW ((plainL l).take i)) rfl (own_below HO.out (below_alloc1 _ _)) wr.heap.size #[.int .i64 1, .int .i64 (i : Int), .int .i64 0] rfl (Bk.new _ _ _) rfl rfl q1 q2 (by rw [World.size_alloc]; exact Nat.le_succ_of_le qs) ?_; intro g5 cap5 w5 ho5 hg5; have O5 := Lib.hid (hro.out i hil.out _ (hx'.out ▸ hI.out) w5 _ ho5); have B5 := Lib.hid (below_row HB.out qs HO.out hg5); clear ho5 hg5))
          go_roundw
          case rel => exact ⟨i + 1, v + 1, (decide (v + 1 ≤ 8)), by omega, by go_num, rfl, rfl, by omega, by omega, O5, B5, HS2⟩
          case measure => simp [intOf]; omega
      · have hI : Hid (plainI i x = ⟨7, 0, 0⟩) := Lib.hid hI
        cases g with
        | false =>
          have HS2 : Hid (S = (false && straightB (v - 1) ((plainL l).drop (i + 1))) ∧ (false = true → 0 ≤ v - 1)) := Lib.hid (hat.out i v (v - 1) S false false hil.out HS.out.1 HS.out.2 (by rw [← hx'.out, hI.out]; simp [offN, onN]; omega) (fun h0 => by rw [← hx'.out, hI.out]; simp) (fun h => rfl))
          go_wp2_with (at_builtin; go_must (refine append_row rfl (.tmp 48) (.tmp 50) _ rfl w.heap.size 35 i0 _ 3 24 Tryd.underlying23 hi0 hz0 hz1 hz2 rfl (by decide) _ i (inssW ((plainL l).take i)) rfl (own_below HO.out (below_alloc1 _ _)) wr.heap.size #[.int .i64 7, .int .i64 0, .int .i64 0] rfl (Bk.new _ _ _) rfl rfl q1 q2 (by rw [World.size_alloc]; exact Nat.le_succ_of_le qs) ?_; intro g5 cap5 w5 ho5 hg5; have O5 := Lib.hid (hro.out i hil.out _ (hx'.out ▸ hI.out) w5 _ ho5); have B5 := Lib.hid (below_row HB.out qs HO.out hg5); clear ho5 hg5))
          go_roundw
          case rel => exact ⟨i + 1, v - 1, false, by omega, by go_num, rfl, rfl, by omega, by omega, O5, B5, HS2⟩
          case measure => simp [intOf]; omega
        | true =>
          by_cases h2 : 2 ≤ v
          · skip
            have HS2 : Hid (S = ((decide (v - 1 ≤ 8)) && straightB (v - 1) ((plainL l).drop (i + 1))) ∧ ((decide (v - 1 ≤ 8)) = true → 0 ≤ v - 1)) := Lib.hid (hat.out i v (v - 1) S true (decide (v - 1 ≤ 8)) hil.out HS.out.1 HS.out.2 (by rw [← hx'.out, hI.out]; simp [offN, onN]; omega) (fun h0 => by rw [← hx'.out, hI.out]; simp [offN, h2]) (fun h => by cases h))
            go_wp2_with (at_builtin; go_must (refine append_row rfl (.tmp 48) (.tmp 50) _ rfl w.heap.size 35 i0 _ 3 24 Tryd.underlying23 hi0 hz0 hz1 hz2 rfl (by decide) _ i (inssW ((plainL l).take i)) rfl (own_below HO.out (below_alloc1 _ _)) wr.heap.size #[.int .i64 7, .int .i64 0, .int .i64 0] rfl (Bk.new _ _ _) rfl rfl q1 q2 (by rw [World.size_alloc]; exact Nat.le_succ_of_le qs) ?_; intro g5 cap5 w5 ho5 hg5; have O5 := Lib.hid (hro.out i hil.out _ (hx'.out ▸ hI.out) w5 _ ho5); have B5 := Lib.hid (below_row HB.out qs HO.out hg5); clear ho5 hg5))
            go_roundw
            case rel => exact ⟨i + 1, v - 1, (decide (v - 1 ≤ 8)), by omega, by go_num, rfl, rfl, by omega, by omega, O5, B5, HS2⟩
            case measure => simp [intOf]; omega
          · skip
            have HS2 : Hid (S = (false && straightB (v - 1) ((plainL l).drop (i + 1))) ∧ (false = true → 0 ≤ v - 1)) := Lib.hid (hat.out i v (v - 1) S true false hil.out HS.out.1 HS.out.2 (by rw [← hx'.out, hI.out]; simp [offN, onN]; omega) (fun h0 => by rw [← hx'.out, hI.out]; simp [offN, h2]) (fun h => by cases h))
            go_wp2_with (at_builtin; go_must (refine append_row rfl (.tmp 48) (.tmp 50) _ rfl w.heap.size 35 i0 _ 3 24 Tryd.underlying23 hi0 hz0 hz1 hz2 rfl (by decide) _ i (inssW ((plainL l).take i)) rfl (own_below HO.out (below_alloc1 _ _)) wr.heap.size #[.int .i64 7, .int .i64 0, .int .i64 0] rfl (Bk.new _ _ _) rfl rfl q1 q2 (by rw [World.size_alloc]; exact Nat.le_succ_of_le qs) ?_; intro g5 cap5 w5 ho5 hg5; have O5 := Lib.hid (hro.out i hil.out _ (hx'.out ▸ hI.out) w5 _ ho5); have B5 := Lib.hid (below_row HB.out qs HO.out hg5); clear ho5 hg5))
            go_roundw
            case rel => exact ⟨i + 1, v - 1, false, by omega, by go_num, rfl, rfl, by omega, by omega, O5, B5, HS2⟩
            case measure => simp [intOf]; omega
      · have hI : Hid (plainI i x = ⟨3, (i : Int) % 4, 0⟩) := Lib.hid hI
        cases g with
        | false =>
          have HS2 : Hid (S = (false && straightB (v - 1) ((plainL l).drop (i + 1))) ∧ (false = true → 0 ≤ v - 1)) := Lib.hid (hat.out i v (v - 1) S false false hil.out HS.out.1 HS.out.2 (by rw [← hx'.out, hI.out]; simp [offN, onN]) (fun h0 => by rw [← hx'.out, hI.out]; simp) (fun h => rfl))
          go_wp2_with (at_builtin; go_must (refine append_row rfl (.tmp 23) (.tmp 27) _ rfl w.heap.size 35 i0 _ 3 24 Tryd.underlying23 hi0 hz0 hz1 hz2 rfl (by decide) _ i (inssW ((plainL l).take i)) rfl (own_below HO.out (below_alloc1 _ _)) wr.heap.size #[.int .i64 3, .int .i64 ((i : Int) % 4), .int .i64 0] rfl (Bk.new _ _ _) rfl rfl q1 q2 (by rw [World.size_alloc]; exact Nat.le_succ_of_le qs) ?_; intro g5 cap5 w5 ho5 hg5; have O5 := Lib.hid (hro.out i hil.out _ (hx'.out ▸ hI.out) w5 _ ho5); have B5 := Lib.hid (below_row HB.out qs HO.out hg5); clear ho5 hg5))
          go_roundw
          case rel => exact ⟨i + 1, v - 1, false, by omega, by go_num, rfl, rfl, by omega, by omega, O5, B5, HS2⟩
          case measure => simp [intOf]; omega
        | true =>
          by_cases h2 : 1 ≤ v
          · skip
            have HS2 : Hid (S = ((decide (v - 1 ≤ 8)) && straightB (v - 1) ((plainL l).drop (i + 1))) ∧ ((decide (v - 1 ≤ 8)) = true → 0 ≤ v - 1)) := Lib.hid (hat.out i v (v - 1) S true (decide (v - 1 ≤ 8)) hil.out HS.out.1 HS.out.2 (by rw [← hx'.out, hI.out]; simp [offN, onN]) (fun h0 => by rw [← hx'.out, hI.out]; simp [offN, h2]) (fun h => by cases h))
            go_wp2_with (at_builtin; go_must (refine append_row rfl (.tmp 23) (.tmp 27) _ rfl w.heap.size 35 i0 _ 3 24 Tryd.underlying23 hi0 hz0 hz1 hz2 rfl (by decide) _ i (inssW ((plainL l).take i)) rfl (own_below HO.out (below_alloc1 _ _)) wr.heap.size #[.int .i64 3, .int .i64 ((i : Int) % 4), .int .i64 0] rfl (Bk.new _ _ _) rfl rfl q1 q2 (by rw [World.size_alloc]; exact Nat.le_succ_of_le qs) ?_; intro g5 cap5 w5 ho5 hg5; have O5 := Lib.hid (hro.out i hil.out _ (hx'.out ▸ hI.out) w5 _ ho5); have B5 := Lib.hid (below_row HB.out qs HO.out hg5); clear ho5 hg5))
            go_roundw
            case rel => exact ⟨i + 1, v - 1, (decide (v - 1 ≤ 8)), by omega, by go_num, rfl, rfl, by omega, by omega, O5, B5, HS2⟩
            case measure => simp [intOf]; omega
          · skip
            have HS2 : Hid (S = (false && straightB (v - 1) ((plainL l).drop (i + 1))) ∧ (false = true → 0 ≤ v - 1)) := Lib.hid (hat.out i v (v - 1) S true false hil.out HS.out.1 HS.out.2 (by rw [← hx'.out, hI.out]; simp [offN, onN]) (fun h0 => by rw [← hx'.out, hI.out]; simp [offN, h2]) (fun h => by cases h))
            go_wp2_with (at_builtin; go_must (refine append_row rfl (.tmp 23) (.tmp 27) _ rfl w.heap.size 35 i0 _ 3 24 Tryd.underlying23 hi0 hz0 hz1 hz2 rfl (by decide) _ i (inssW ((plainL l).take i)) rfl (own_below HO.out (below_alloc1 _ _)) wr.heap.size #[.int .i64 3, .int .i64 ((i : Int) % 4), .int .i64 0] rfl (Bk.new _ _ _) rfl rfl q1 q2 (by rw [World.size_alloc]; exact Nat.le_succ_of_le qs) ?_; intro g5 cap5 w5 ho5 hg5; have O5 := Lib.hid (hro.out i hil.out _ (hx'.out ▸ hI.out) w5 _ ho5); have B5 := Lib.hid (below_row HB.out qs HO.out hg5); clear ho5 hg5))
            go_roundw
            case rel => exact ⟨i + 1, v - 1, false, by omega, by go_num, rfl, rfl, by omega, by omega, O5, B5, HS2⟩
            case measure => simp [intOf]; omega
    · obtain rfl : i = N := by omega
      have hS2 := HS.out.1
      rw [List.drop_eq_nil_of_le (by rw [plainL_length, hN'.out]; exact Nat.le_refl _), straightB, Bool.and_true] at hS2
      clear hlt
      cases g
      · have hz : Hid (checkN (plainC l) = 7) := Lib.hid (by rw [hck.out, hS2]; rfl)
        clear hS2
        go_wp2_with (first
          | (at_builtin; go_must (refine append_row rfl (.tmp 64) (.tmp 66) _ rfl w.heap.size 35 i0 _ 3 24 Tryd.underlying23 hi0 hz0 hz1 hz2 rfl (by decide) _ i (inssW ((plainL l).take i)) rfl (own_below HO.out (below_alloc1 _ _)) wr.heap.size #[.int .i64 17, .int .i64 0, .int .i64 0] rfl (Bk.new _ _ _) rfl rfl q1 q2 (by rw [World.size_alloc]; exact Nat.le_succ_of_le qs) ?_; intro g5 cap5 w5 ho5 hg5; have C5 := Lib.hid (hcm.out w5 g5 cap5 ho5); have B5 := Lib.hid (below_row HB.out qs HO.out hg5); clear ho5 hg5))
          | (go_at_call 8; go_must (refine (check_fu (plainC l) 1 rfl none 0 0 none 0 0 none 0 0 (some ⟨g5, 0, none⟩) (i + 1) cap5 w5 C5.out (hT'.out.belowS B5.out) 7 hz.out).mono ?_; rintro e w6 ⟨rfl, hb6⟩; have B6 := Lib.hid (bnext B5.out hb6); clear hb6))
          | (go_at_call 9; go_must ((with_reducible refine (aw.out _ B6.out).mono ?_); rintro e w7 ⟨rfl, hb7⟩; have B7 := Lib.hid (bnext B6.out hb7); clear hb7)))
        go_ret
        exact ⟨rfl, B7.out⟩
      · have hz : Hid (checkN (plainC l) = 0) := Lib.hid (by rw [hck.out, hS2]; rfl)
        clear hS2
        go_wp2_with (first
          | (at_builtin; go_must (refine append_row rfl (.tmp 64) (.tmp 66) _ rfl w.heap.size 35 i0 _ 3 24 Tryd.underlying23 hi0 hz0 hz1 hz2 rfl (by decide) _ i (inssW ((plainL l).take i)) rfl (own_below HO.out (below_alloc1 _ _)) wr.heap.size #[.int .i64 17, .int .i64 0, .int .i64 0] rfl (Bk.new _ _ _) rfl rfl q1 q2 (by rw [World.size_alloc]; exact Nat.le_succ_of_le qs) ?_; intro g5 cap5 w5 ho5 hg5; have C5 := Lib.hid (hcm.out w5 g5 cap5 ho5); have B5 := Lib.hid (below_row HB.out qs HO.out hg5); clear ho5 hg5))
          | (go_at_call 8; go_must (refine (check_fu (plainC l) 1 rfl none 0 0 none 0 0 none 0 0 (some ⟨g5, 0, none⟩) (i + 1) cap5 w5 C5.out (hT'.out.belowS B5.out) 0 hz.out).mono ?_; rintro e w6 ⟨rfl, hb6⟩; have B6 := Lib.hid (bnext B5.out hb6); clear hb6))
          | (go_at_call 9; go_must ((with_reducible refine (aw.out _ B6.out).mono ?_); rintro e w7 ⟨rfl, hb7⟩; have B7 := Lib.hid (bnext B6.out hb7); clear hb7)))
        go_ret
        exact ⟨rfl, B7.out⟩

theorem proofPlain_walk (l : List Int) (A : Option Addr) (c : Nat) (w : World) (h : U8s w A c l) (hz : l.length ≤ 9223372036854775807) (hR : ∀ x ∈ l, 0 ≤ x ∧ x ≤ 255) (hT : HasKinds w) :
    Calls Tryd.prog 6 #[.slice A l.length c] w fun e w' => e = .returned (.bool true) ∧ Below w.heap.size w w' := by
  by_cases h60 : l.length ≤ 60
  · exact proofPlain_main l A _ c w h rfl h60 hR hT
  · have aw := Lib.hid (awake7 w hT)
    have d0 : (60 : Int) < (l.length : Int) := by omega
    clear h hT hR
    generalize l.length = N at *
    go_enter Tryd.func6, Tryd.ntmps6
    go_wp2_with (go_at_call 9; go_must ((with_reducible refine aw.out.mono ?_); rintro e w1 ⟨rfl, hb1⟩))
    go_ret
    exact ⟨rfl, hb1⟩

end Go.Proofs.YtlhipaecndgonaaDoor
