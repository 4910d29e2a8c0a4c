/-
  LocksMore, walked: true of any commands, any one more, and any byte, in whatever memory.
-/
import Derived.Test.YtcffmkphfahapaaZLckV
namespace Go.Proofs.Ytcffmkphfahapaa
open Go.RowKit Go.Shelf
attribute [local go_sem] look findAt
attribute [local simp] depsOf isV Region.binds

section
variable (l : List CmL) (A : Option Addr) (n c : Nat) (y : CmL) (wh : Int)

theorem cmds_one (w : World) (h : y.In w) : Cmds (w.alloc (.cells #[.slice y.ra y.nr y.rc, .slice y.wa y.nw y.wc, .slice y.aa y.na y.ac, .int .i64 y.c.fuel, .slice y.ca y.nc y.cc] 32)) (some ⟨w.heap.size, 0, none⟩) 1 [y] := by
  have hk : Bk (w.alloc (.cells #[.slice y.ra y.nr y.rc, .slice y.wa y.nw y.wc, .slice y.aa y.na y.ac, .int .i64 y.c.fuel, .slice y.ca y.nc y.cc] 32)) w.heap.size 32 #[.slice y.ra y.nr y.rc, .slice y.wa y.nw y.wc, .slice y.aa y.na y.ac, .int .i64 y.c.fuel, .slice y.ca y.nc y.cc] := Bk.new w _ _
  refine ⟨⟨rfl, Nat.le_refl _, fun h => (by cases h), fun _ => ⟨_, 0, rfl, hk.lt, fun j hj => ?_⟩⟩, fun x hx => ?_⟩
  · have hj : j < 5 := hj
    rw [Nat.zero_add, hk.cell j]
    rcases j with _ | _ | _ | _ | _ | j
    all_goals first | rfl | omega
  · rw [List.mem_singleton.1 hx]
    exact h.below (below_alloc1 w _)

set_option maxHeartbeats 4000000 in
theorem locksMore_no1 (w : World) (h : Cmds w A c l) (hN : l.length = n) (hy : y.In w) (hz : n ≤ 9223372036854775807) (hr : ¬ RightL l 6) :
    Calls Try.prog 7 #[.slice A n c, cmV y.ra y.nr y.rc y.wa y.nw y.wc y.aa y.na y.ac y.c.fuel y.ca y.nc y.cc, .int .u8 wh] w fun e w' => e = .returned (.bool true) ∧ Below w.heap.size w w' := by
  have aw := Lib.hid (fun W => awake15 W)
  have B0 := below_alloc1 w (CmObj y.ra y.nr y.rc y.wa y.nw y.wc y.aa y.na y.ac y.c.fuel y.ca y.nc y.cc)
  have hk : Bk (w.alloc (CmObj y.ra y.nr y.rc y.wa y.nw y.wc y.aa y.na y.ac y.c.fuel y.ca y.nc y.cc)) w.heap.size 32 #[.slice y.ra y.nr y.rc, .slice y.wa y.nw y.wc, .slice y.aa y.na y.ac, .int .i64 y.c.fuel, .slice y.ca y.nc y.cc] := Bk.new w _ _
  have h0 := h.below B0
  have hy0 := hy.below B0
  obtain ⟨W0, hW0⟩ : ∃ W, W = w.alloc (CmObj y.ra y.nr y.rc y.wa y.nw y.wc y.aa y.na y.ac y.c.fuel y.ca y.nc y.cc) := ⟨_, rfl⟩
  rw [← hW0] at B0 hk h0 hy0
  have hQ : Hid (∀ X, Below W0.heap.size W0 X → X.cell? ⟨w.heap.size, 0, none⟩ = some (.slice y.ra y.nr y.rc) ∧ X.cell? ⟨w.heap.size, 1, none⟩ = some (.slice y.wa y.nw y.wc) ∧ X.cell? ⟨w.heap.size, 2, none⟩ = some (.slice y.aa y.na y.ac) ∧ X.cell? ⟨w.heap.size, 3, none⟩ = some (.int .i64 y.c.fuel) ∧ X.cell? ⟨w.heap.size, 4, none⟩ = some (.slice y.ca y.nc y.cc) ∧ w.heap.size < X.heap.size) := Lib.hid (fun X hX => ⟨(hk.below hX).cell 0, (hk.below hX).cell 1, (hk.below hX).cell 2, (hk.below hX).cell 3, (hk.below hX).cell 4, (hk.below hX).lt⟩)
  have HW0 := Lib.hid hW0
  have BB := Lib.hid B0
  have hri := Lib.hid (right_no l A n c W0 h0 hN hz hr)
  rw [hW0] at hri
  have m1 : True := trivial
  clear h h0 hy hy0 hN hr hk B0 hW0
  go_enter Try.func7, Try.ntmps7
  go_wp2_with (first
    | (go_at_call 8; clear m1; go_must ((with_reducible refine hri.out.mono ?_); rintro e w1 ⟨rfl, hb1⟩; rw [← HW0.out] at hb1; have B1 := Lib.hid hb1; obtain ⟨a0, a1, a2, a3, a4, a5⟩ := hQ.out _ hb1; clear hb1))
    | (go_at_call 9; go_must ((with_reducible refine (aw.out _).mono ?_); rintro e w2 ⟨rfl, hb2⟩; have B2 := Lib.hid (bnext B1.out hb2); clear hb2)))
  go_ret
  exact ⟨rfl, bnext BB.out B2.out⟩

set_option maxHeartbeats 4000000 in
theorem locksMore_no2 (w : World) (h : Cmds w A c l) (hN : l.length = n) (hy : y.In w) (hr : RightL l 6) (hr2 : ¬ RightL [y] 6) :
    Calls Try.prog 7 #[.slice A n c, cmV y.ra y.nr y.rc y.wa y.nw y.wc y.aa y.na y.ac y.c.fuel y.ca y.nc y.cc, .int .u8 wh] w fun e w' => e = .returned (.bool true) ∧ Below w.heap.size w w' := by
  have aw := Lib.hid (fun W => awake15 W)
  have B0 := below_alloc1 w (CmObj y.ra y.nr y.rc y.wa y.nw y.wc y.aa y.na y.ac y.c.fuel y.ca y.nc y.cc)
  have hk : Bk (w.alloc (CmObj y.ra y.nr y.rc y.wa y.nw y.wc y.aa y.na y.ac y.c.fuel y.ca y.nc y.cc)) w.heap.size 32 #[.slice y.ra y.nr y.rc, .slice y.wa y.nw y.wc, .slice y.aa y.na y.ac, .int .i64 y.c.fuel, .slice y.ca y.nc y.cc] := Bk.new w _ _
  have h0 := h.below B0
  have hy0 := hy.below B0
  obtain ⟨W0, hW0⟩ : ∃ W, W = w.alloc (CmObj y.ra y.nr y.rc y.wa y.nw y.wc y.aa y.na y.ac y.c.fuel y.ca y.nc y.cc) := ⟨_, rfl⟩
  rw [← hW0] at B0 hk h0 hy0
  have hQ : Hid (∀ X, Below W0.heap.size W0 X → X.cell? ⟨w.heap.size, 0, none⟩ = some (.slice y.ra y.nr y.rc) ∧ X.cell? ⟨w.heap.size, 1, none⟩ = some (.slice y.wa y.nw y.wc) ∧ X.cell? ⟨w.heap.size, 2, none⟩ = some (.slice y.aa y.na y.ac) ∧ X.cell? ⟨w.heap.size, 3, none⟩ = some (.int .i64 y.c.fuel) ∧ X.cell? ⟨w.heap.size, 4, none⟩ = some (.slice y.ca y.nc y.cc) ∧ w.heap.size < X.heap.size) := Lib.hid (fun X hX => ⟨(hk.below hX).cell 0, (hk.below hX).cell 1, (hk.below hX).cell 2, (hk.below hX).cell 3, (hk.below hX).cell 4, (hk.below hX).lt⟩)
  have HW0 := Lib.hid hW0
  have BB := Lib.hid B0
  have hri := Lib.hid (right_yes l A n c W0 h0 hN hr)
  have hr2 := Lib.hid (fun W (hW : Below W0.heap.size W0 W) => right_no [y] (some ⟨W.heap.size, 0, none⟩) 1 1 _ (cmds_one y W (hy0.below hW)) rfl (by decide) hr2)
  rw [hW0] at hri
  have m1 : True := trivial
  clear h h0 hy hy0 hN hr hk B0 hW0
  go_enter Try.func7, Try.ntmps7
  go_wp2_with (first
    | (go_at_call 8; clear m1; go_must ((with_reducible refine hri.out.mono ?_); rintro e w1 ⟨rfl, hb1⟩; rw [← HW0.out] at hb1; have B1 := Lib.hid hb1; obtain ⟨a0, a1, a2, a3, a4, a5⟩ := hQ.out _ hb1; clear hb1))
    | (go_at_call 8; go_must ((with_reducible refine (hr2.out _ B1.out).mono ?_); rintro e w2 ⟨rfl, hb2⟩; have B2 := Lib.hid (bnext B1.out (bnext (below_alloc1 w1 (.cells #[.slice y.ra y.nr y.rc, .slice y.wa y.nw y.wc, .slice y.aa y.na y.ac, .int .i64 y.c.fuel, .slice y.ca y.nc y.cc] 32)) hb2)); clear hb2 a0 a1 a2 a3 a4 a5))
    | (go_at_call 9; go_must ((with_reducible refine (aw.out _).mono ?_); rintro e w3 ⟨rfl, hb3⟩; have B3 := Lib.hid (bnext B2.out hb3); clear hb3)))
  go_ret
  exact ⟨rfl, bnext BB.out B3.out⟩

set_option maxHeartbeats 4000000 in
theorem locksMore_no3 (w : World) (h : Cmds w A c l) (hN : l.length = n) (hy : y.In w) (hr : RightL l 6) (hr2 : RightL [y] 6) (h0n : n = 0) :
    Calls Try.prog 7 #[.slice A n c, cmV y.ra y.nr y.rc y.wa y.nw y.wc y.aa y.na y.ac y.c.fuel y.ca y.nc y.cc, .int .u8 wh] w fun e w' => e = .returned (.bool true) ∧ Below w.heap.size w w' := by
  have aw := Lib.hid (fun W => awake15 W)
  have B0 := below_alloc1 w (CmObj y.ra y.nr y.rc y.wa y.nw y.wc y.aa y.na y.ac y.c.fuel y.ca y.nc y.cc)
  have hk : Bk (w.alloc (CmObj y.ra y.nr y.rc y.wa y.nw y.wc y.aa y.na y.ac y.c.fuel y.ca y.nc y.cc)) w.heap.size 32 #[.slice y.ra y.nr y.rc, .slice y.wa y.nw y.wc, .slice y.aa y.na y.ac, .int .i64 y.c.fuel, .slice y.ca y.nc y.cc] := Bk.new w _ _
  have h0 := h.below B0
  have hy0 := hy.below B0
  obtain ⟨W0, hW0⟩ : ∃ W, W = w.alloc (CmObj y.ra y.nr y.rc y.wa y.nw y.wc y.aa y.na y.ac y.c.fuel y.ca y.nc y.cc) := ⟨_, rfl⟩
  rw [← hW0] at B0 hk h0 hy0
  have hQ : Hid (∀ X, Below W0.heap.size W0 X → X.cell? ⟨w.heap.size, 0, none⟩ = some (.slice y.ra y.nr y.rc) ∧ X.cell? ⟨w.heap.size, 1, none⟩ = some (.slice y.wa y.nw y.wc) ∧ X.cell? ⟨w.heap.size, 2, none⟩ = some (.slice y.aa y.na y.ac) ∧ X.cell? ⟨w.heap.size, 3, none⟩ = some (.int .i64 y.c.fuel) ∧ X.cell? ⟨w.heap.size, 4, none⟩ = some (.slice y.ca y.nc y.cc) ∧ w.heap.size < X.heap.size) := Lib.hid (fun X hX => ⟨(hk.below hX).cell 0, (hk.below hX).cell 1, (hk.below hX).cell 2, (hk.below hX).cell 3, (hk.below hX).cell 4, (hk.below hX).lt⟩)
  have HW0 := Lib.hid hW0
  have BB := Lib.hid B0
  have hri := Lib.hid (right_yes l A n c W0 h0 hN hr)
  have hr2 := Lib.hid (fun W (hW : Below W0.heap.size W0 W) => right_yes [y] (some ⟨W.heap.size, 0, none⟩) 1 1 _ (cmds_one y W (hy0.below hW)) rfl hr2)
  subst h0n
  rw [hW0] at hri
  have m1 : True := trivial
  clear h h0 hy hy0 hN hr hk B0 hW0
  go_enter Try.func7, Try.ntmps7
  go_wp2_with (first
    | (go_at_call 8; clear m1; go_must ((with_reducible refine hri.out.mono ?_); rintro e w1 ⟨rfl, hb1⟩; rw [← HW0.out] at hb1; have B1 := Lib.hid hb1; obtain ⟨a0, a1, a2, a3, a4, a5⟩ := hQ.out _ hb1; clear hb1))
    | (go_at_call 8; go_must ((with_reducible refine (hr2.out _ B1.out).mono ?_); rintro e w2 ⟨rfl, hb2⟩; have B2 := Lib.hid (bnext B1.out (bnext (below_alloc1 w1 (.cells #[.slice y.ra y.nr y.rc, .slice y.wa y.nw y.wc, .slice y.aa y.na y.ac, .int .i64 y.c.fuel, .slice y.ca y.nc y.cc] 32)) hb2)); clear hb2 a0 a1 a2 a3 a4 a5))
    | (go_at_call 9; go_must ((with_reducible refine (aw.out _).mono ?_); rintro e w3 ⟨rfl, hb3⟩; have B3 := Lib.hid (bnext B2.out hb3); clear hb3)))
  go_ret
  exact ⟨rfl, bnext BB.out B3.out⟩

set_option maxHeartbeats 32000000 in
set_option maxRecDepth 100000 in
theorem locksMore_main (w : World) (h : Cmds w A c l) (hN : l.length = n) (hy : y.In w) (hr : RightL l 6) (hr2 : RightL [y] 6) (hpos : 0 < n) (h0w : 0 ≤ wh) (h255 : wh ≤ 255) :
    Calls Try.prog 7 #[.slice A n c, cmV y.ra y.nr y.rc y.wa y.nw y.wc y.aa y.na y.ac y.c.fuel y.ca y.nc y.cc, .int .u8 wh] w fun e w' => e = .returned (.bool true) ∧ Below w.heap.size w w' := by
  have aw := Lib.hid (fun W => awake15 W)
  have B0 := below_alloc1 w (CmObj y.ra y.nr y.rc y.wa y.nw y.wc y.aa y.na y.ac y.c.fuel y.ca y.nc y.cc)
  have hk : Bk (w.alloc (CmObj y.ra y.nr y.rc y.wa y.nw y.wc y.aa y.na y.ac y.c.fuel y.ca y.nc y.cc)) w.heap.size 32 #[.slice y.ra y.nr y.rc, .slice y.wa y.nw y.wc, .slice y.aa y.na y.ac, .int .i64 y.c.fuel, .slice y.ca y.nc y.cc] := Bk.new w _ _
  have h0 := h.below B0
  have hy0 := hy.below B0
  obtain ⟨W0, hW0⟩ : ∃ W, W = w.alloc (CmObj y.ra y.nr y.rc y.wa y.nw y.wc y.aa y.na y.ac y.c.fuel y.ca y.nc y.cc) := ⟨_, rfl⟩
  rw [← hW0] at B0 hk h0 hy0
  have hQ : Hid (∀ X, Below W0.heap.size W0 X → X.cell? ⟨w.heap.size, 0, none⟩ = some (.slice y.ra y.nr y.rc) ∧ X.cell? ⟨w.heap.size, 1, none⟩ = some (.slice y.wa y.nw y.wc) ∧ X.cell? ⟨w.heap.size, 2, none⟩ = some (.slice y.aa y.na y.ac) ∧ X.cell? ⟨w.heap.size, 3, none⟩ = some (.int .i64 y.c.fuel) ∧ X.cell? ⟨w.heap.size, 4, none⟩ = some (.slice y.ca y.nc y.cc) ∧ w.heap.size < X.heap.size) := Lib.hid (fun X hX => ⟨(hk.below hX).cell 0, (hk.below hX).cell 1, (hk.below hX).cell 2, (hk.below hX).cell 3, (hk.below hX).cell 4, (hk.below hX).lt⟩)
  have HW0 := Lib.hid hW0
  have BB := Lib.hid B0
  have hri := Lib.hid (right_yes l A n c W0 h0 hN hr)
  have hne : Hid (∀ W, Calls Try.prog 10 #[.int .i64 6] W (LkPost (lksW [] 6) 6 W)) := Lib.hid (fun W => new_who 6 W (by decide) (by decide))
  have hyr := hr2.1 y (List.mem_singleton.2 rfl)
  have HYR := Lib.hid hyr
  have HY := Lib.hid (fun W (hW : Below W0.heap.size W0 W) => CmL.lk (hy0.below hW) hyr.1 hyr.2)
  have hr2 := Lib.hid (fun W (hW : Below W0.heap.size W0 W) => right_yes [y] (some ⟨W.heap.size, 0, none⟩) 1 1 _ (cmds_one y W (hy0.below hW)) rfl hr2)
  rw [hW0] at hri
  have H := Lib.hid h0
  have HN := Lib.hid hN
  have HR := Lib.hid hr
  have hcap := h.cap
  rw [hN] at hcap
  have h30 := hr.2
  rw [hN] at h30
  obtain ⟨K, hK⟩ : ∃ K : Nat, wh % (n : Int) = (K : Int) := ⟨(wh % (n : Int)).toNat, by have := Int.emod_nonneg wh (show (n : Int) ≠ 0 by omega); omega⟩
  have hKn : K < n := by have := Int.emod_lt_of_pos wh (show 0 < (n : Int) by omega); omega
  have hKt : wh.tmod (n : Int) = (K : Int) := by rw [Int.tmod_eq_emod_of_nonneg h0w]; exact hK
  have hww : wrap64 wh = wh := by unfold wrap64; omega
  have hn0 : ¬ (n : Int) = 0 := by omega
  have hn1 : ¬ n = 0 := by omega
  have hn0' : ((n : Int) == 0) = false := by simpa using hn0
  have m1 : True := trivial
  clear h h0 hy hy0 hN hr hk B0 hW0 hyr
  go_enter Try.func7, Try.ntmps7
  go_wp2_with (first
    | (go_at_call 8; clear m1; go_must ((with_reducible refine hri.out.mono ?_); rintro e w1 ⟨rfl, hb1⟩; rw [← HW0.out] at hb1; have B1 := Lib.hid hb1; obtain ⟨a0, a1, a2, a3, a4, a5⟩ := hQ.out _ hb1; clear hb1))
    | (go_at_call 8; go_must ((with_reducible refine (hr2.out _ B1.out).mono ?_); rintro e w2 ⟨rfl, hb2⟩; have B2 := Lib.hid (bnext B1.out (bnext (below_alloc1 w1 (.cells #[.slice y.ra y.nr y.rc, .slice y.wa y.nw y.wc, .slice y.aa y.na y.ac, .int .i64 y.c.fuel, .slice y.ca y.nc y.cc] 32)) hb2)); clear hb2 a0 a1 a2 a3 a4 a5))
    | (go_at_call 10; go_must ((with_reducible refine (hne.out _).mono ?_); rintro e w3 ⟨X0, k0, rfl, hO, hb3⟩; have O0 := Lib.hid hO.sl; have B3 := Lib.hid (bnext B2.out hb3); clear hO hb3)))
  go_loopw [7, 8] (fun xs cc wr => ∃ (i k : Nat) (X : Option Addr), i ≤ n ∧ xs = .slice X 6 k ∧ cc = .int .i64 i ∧ Hid (LkSl wr X 6 k (lksW (whoN l i) 6)) ∧ Hid (Below W0.heap.size W0 wr)) (fun _ cc _ => n - (intOf cc).toNat)
  case atStart => exact ⟨0, k0, X0, Nat.zero_le _, rfl, rfl, O0, B3⟩
  case round =>
    obtain ⟨i, k, X, hi, rfl, rfl, HO, HB⟩ := hrel
    by_cases hlt : i < n
    · have d1 : (i : Int) < (n : Int) := by omega
      have d2 : (i : Int) < (c : Int) := by omega
      have dw : IntKind.i64.wrap ((i : Int) + 1) = (i : Int) + 1 := by rw [IntKind.wrap_i64]; omega
      obtain ⟨x, hx⟩ := cml_at (l := l) (i := i) (by rw [HN.out]; exact hlt)
      have hmf := HR.out.at hx
      have hask := Lib.hid (ask_who x.c x.ra x.nr x.rc x.wa x.nw x.wc x.aa x.na x.ac x.c.fuel x.ca x.nc x.cc (whoN l i) X 6 k ((i : Int) + 1) wr HO.out (by decide) (by rw [whoN_length]; omega) hmf.1.sets (CmL.lkR (H.out.below HB.out) HR.out hx))
      rw [← whoN_succ hx] at hask
      obtain ⟨bb, off, rfl, hA⟩ := (H.out.below HB.out).lies hx
      obtain ⟨c0, c1, c2, c3, c4, cl⟩ := hA _ (Below.refl _ _)
      clear hx hA hmf
      go_wp2_with (go_at_call 12; go_must ((with_reducible refine hask.out.mono ?_); rintro e w3 ⟨X3, k3, rfl, hO3, hb3⟩; have O3 := Lib.hid hO3.sl; have B3 := Lib.hid (HB.out.trans (hb3.mono HB.out.size)); clear hO3 hb3 c0 c1 c2 c3 c4 cl))
      go_roundw
      case rel => exact ⟨i + 1, k3, X3, by omega, rfl, by go_num, O3, B3⟩
      case measure => simp [intOf]; omega
    · obtain rfl : n = i := by omega
      clear hlt
      have H4 := Lib.hid (H.out.below HB.out)
      have dK : (K : Int) < (n : Int) := by omega
      have dK2 : (K : Int) < (c : Int) := by omega
      have dKw : IntKind.i64.wrap ((K : Int) + 1) = (K : Int) + 1 := by rw [IntKind.wrap_i64]; omega
      obtain ⟨xk, hxk⟩ := cml_at (l := l) (i := K) (by rw [HN.out]; exact hKn)
      have hmk := HR.out.at hxk
      obtain ⟨bk, ok, rfl, hAk⟩ := H4.out.lies hxk
      have HAk := Lib.hid hAk
      have hask := Lib.hid (ask_who y.c y.ra y.nr y.rc y.wa y.nw y.wc y.aa y.na y.ac y.c.fuel y.ca y.nc y.cc (whoN l n) X 6 k 100 wr HO.out (by decide) (by rw [whoN_length]; omega) HYR.out.1.sets (HY.out _ HB.out))
      have hgiv := Lib.hid (fun W (hW : Below wr.heap.size wr W) => give_who xk.c xk.ra xk.nr xk.rc xk.wa xk.nw xk.wc xk.aa xk.na xk.ac xk.c.fuel xk.ca xk.nc xk.cc (whoN l n) X 6 k ((K : Int) + 1) W (HO.out.below hW) (by decide) (by rw [whoN_length]; omega) hmk.1.sets (fun q hq e => whoN_one hq hxk e) (CmL.lkR (H4.out.below hW) HR.out hxk))
      obtain ⟨a0, a1, a2, a3, a4, a5⟩ := hQ.out _ HB.out
      clear hxk hmk hAk
      obtain ⟨w4, hw4⟩ : ∃ W, W = wr := ⟨_, rfl⟩
      rw [← hw4] at HO HB H4 HAk hask hgiv a0 a1 a2 a3 a4 a5 ⊢
      clear hw4
      go_wp2_with (first
        | (go_at_call 12; go_must ((with_reducible refine hask.out.mono ?_); rintro e w5 ⟨Y, yk, rfl, hO, hb5⟩; have OY := Lib.hid hO.sl; have B5 := Lib.hid hb5; clear hO hb5 a0 a1 a2 a3 a4 a5; obtain ⟨c0, c1, c2, c3, c4, cl⟩ := HAk.out _ B5.out))
        | (go_at_call 17; go_must ((with_reducible refine (hgiv.out _ B5.out).mono ?_); rintro e w6 ⟨Z, zk, rfl, hO, hb6⟩; have OZ := Lib.hid hO.sl; have OY6 := Lib.hid (OY.out.below hb6); have B6 := Lib.hid (bnext B5.out hb6); clear hO hb6 c0 c1 c2 c3 c4 cl)))
      go_loopw [12] (fun cc wr => ∃ i : Nat, i ≤ n ∧ cc = .int .i64 i ∧ Hid (Below w6.heap.size w6 wr)) (fun cc _ => n - (intOf cc).toNat)
      case atStart => exact ⟨0, Nat.zero_le _, rfl, Lib.hid (Below.refl _ _)⟩
      case round =>
        obtain ⟨i, hi, rfl, HI⟩ := hrel
        have HI4 := Lib.hid (bnext B6.out HI.out)
        by_cases hlt : i < n
        · have d1 : (i : Int) < (n : Int) := by omega
          have d2 : (i : Int) < (c : Int) := by omega
          have dw : IntKind.i64.wrap ((i : Int) + 1) = (i : Int) + 1 := by rw [IntKind.wrap_i64]; omega
          obtain ⟨x, hx⟩ := cml_at (l := l) (i := i) (by rw [HN.out]; exact hlt)
          have hmx := HR.out.at hx
          obtain ⟨bb, off, hAA, hA⟩ := H4.out.lies hx
          injection hAA with hAA
          injection hAA with hA3 hA4
          subst hA3
          subst hA4
          have HA := Lib.hid hA
          have hrx := Lib.hid (fun W (hW : Below w4.heap.size w4 W) => ready_who x.c x.ra x.nr x.rc x.wa x.nw x.wc x.aa x.na x.ac x.c.fuel x.ca x.nc x.cc (whoN l n) X 6 k ((i : Int) + 1) W (HO.out.below hW) (by rw [whoN_length]; omega) (CmL.lkR (H4.out.below hW) HR.out hx))
          have hry := Lib.hid (fun W (hW6 : Below w6.heap.size w6 W) (hW : Below w4.heap.size w4 W) => ready_who x.c x.ra x.nr x.rc x.wa x.nw x.wc x.aa x.na x.ac x.c.fuel x.ca x.nc x.cc (whoN l n ++ [(100, y.c)]) Y 6 yk ((i : Int) + 1) W (OY6.out.below hW6) (by rw [List.length_append, whoN_length]; simp; omega) (CmL.lkR (H4.out.below hW) HR.out hx))
          have hrz := Lib.hid (fun W (hW6 : Below w6.heap.size w6 W) (hW : Below w4.heap.size w4 W) => ready_who x.c x.ra x.nr x.rc x.wa x.nw x.wc x.aa x.na x.ac x.c.fuel x.ca x.nc x.cc ((whoN l n).filter fun q => decide (q.1 ≠ (K : Int) + 1)) Z 6 zk ((i : Int) + 1) W (OZ.out.below hW6) (by have := List.length_filter_le (fun q : Int × Cmd => decide (q.1 ≠ (K : Int) + 1)) (whoN l n); rw [whoN_length] at this; omega) (CmL.lkR (H4.out.below hW) HR.out hx))
          rw [readyL_more hmx.1.sets hmx.2 y.c (show (100 : Int) ≠ (i : Int) + 1 by omega)] at hry
          have hless := readyL_less (u := whoN l n) hmx.1.sets hmx.2 (s := (i : Int) + 1) (t := (K : Int) + 1)
          obtain ⟨r, hrr⟩ : ∃ r, r = readyL (lksW (whoN l n) 6) x.c ((i : Int) + 1) := ⟨_, rfl⟩
          rw [← hrr] at hrx hry hless
          obtain ⟨c0, c1, c2, c3, c4, cl⟩ := HA.out _ HI4.out
          clear hx hmx hA hrr
          have m2 : True := trivial
          have m3 : True := trivial
          by_cases hik : i = K
          · subst hik
            have e1 : ((i : Int) == (i : Int)) = true := by simp
            clear hless hrz
            cases r with
            | false =>
              go_wp2_with (first
                | (go_at_call 15; clear m2; go_must ((with_reducible refine (hrx.out _ HI4.out).mono ?_); rintro e w7 ⟨rfl, hb7⟩; have B7 := Lib.hid (bnext HI.out hb7); have B74 := Lib.hid (bnext HI4.out hb7); clear hb7 c0 c1 c2 c3 c4 cl; obtain ⟨c0, c1, c2, c3, c4, cl⟩ := HA.out _ B74.out))
                | (go_at_call 15; clear m3; go_must ((with_reducible refine (hry.out _ B7.out B74.out).mono ?_); rintro e w8 ⟨rfl, hb8⟩; have B8 := Lib.hid (bnext B7.out hb8); have B84 := Lib.hid (bnext B74.out hb8); clear hb8 c0 c1 c2 c3 c4 cl; obtain ⟨c0, c1, c2, c3, c4, cl⟩ := HA.out _ B84.out)))
              go_roundw
              case rel => exact ⟨i + 1, by omega, by go_num, B8⟩
              case measure => simp [intOf]; omega
            | true =>
              go_wp2_with (first
                | (go_at_call 15; clear m2; go_must ((with_reducible refine (hrx.out _ HI4.out).mono ?_); rintro e w7 ⟨rfl, hb7⟩; have B7 := Lib.hid (bnext HI.out hb7); have B74 := Lib.hid (bnext HI4.out hb7); clear hb7 c0 c1 c2 c3 c4 cl; obtain ⟨c0, c1, c2, c3, c4, cl⟩ := HA.out _ B74.out))
                | (go_at_call 15; clear m3; go_must ((with_reducible refine (hry.out _ B7.out B74.out).mono ?_); rintro e w8 ⟨rfl, hb8⟩; have B8 := Lib.hid (bnext B7.out hb8); have B84 := Lib.hid (bnext B74.out hb8); clear hb8 c0 c1 c2 c3 c4 cl; obtain ⟨c0, c1, c2, c3, c4, cl⟩ := HA.out _ B84.out)))
              go_roundw
              case rel => exact ⟨i + 1, by omega, by go_num, B8⟩
              case measure => simp [intOf]; omega
          · have e1 : ((i : Int) == (K : Int)) = false := beq_eq_false_iff_ne.2 (by omega)
            have e2 : ¬ (i : Int) = (K : Int) := by omega
            cases r with
            | false =>
              clear hless hrz
              go_wp2_with (first
                | (go_at_call 15; clear m2; go_must ((with_reducible refine (hrx.out _ HI4.out).mono ?_); rintro e w7 ⟨rfl, hb7⟩; have B7 := Lib.hid (bnext HI.out hb7); have B74 := Lib.hid (bnext HI4.out hb7); clear hb7 c0 c1 c2 c3 c4 cl; obtain ⟨c0, c1, c2, c3, c4, cl⟩ := HA.out _ B74.out))
                | (go_at_call 15; clear m3; go_must ((with_reducible refine (hry.out _ B7.out B74.out).mono ?_); rintro e w8 ⟨rfl, hb8⟩; have B8 := Lib.hid (bnext B7.out hb8); have B84 := Lib.hid (bnext B74.out hb8); clear hb8 c0 c1 c2 c3 c4 cl; obtain ⟨c0, c1, c2, c3, c4, cl⟩ := HA.out _ B84.out)))
              go_roundw
              case rel => exact ⟨i + 1, by omega, by go_num, B8⟩
              case measure => simp [intOf]; omega
            | true =>
              rw [hless (by omega) rfl] at hrz
              clear hless
              go_wp2_with (first
                | (go_at_call 15; clear m2; go_must ((with_reducible refine (hrx.out _ HI4.out).mono ?_); rintro e w7 ⟨rfl, hb7⟩; have B7 := Lib.hid (bnext HI.out hb7); have B74 := Lib.hid (bnext HI4.out hb7); clear hb7 c0 c1 c2 c3 c4 cl; obtain ⟨c0, c1, c2, c3, c4, cl⟩ := HA.out _ B74.out))
                | (go_at_call 15; clear m3; go_must ((with_reducible refine (hry.out _ B7.out B74.out).mono ?_); rintro e w8 ⟨rfl, hb8⟩; have B8 := Lib.hid (bnext B7.out hb8); have B84 := Lib.hid (bnext B74.out hb8); clear hb8 c0 c1 c2 c3 c4 cl; obtain ⟨c0, c1, c2, c3, c4, cl⟩ := HA.out _ B84.out))
                | (go_at_call 15; go_must ((with_reducible refine (hrz.out _ B8.out B84.out).mono ?_); rintro e w9 ⟨rfl, hb9⟩; have B9 := Lib.hid (bnext B8.out hb9); clear hb9 c0 c1 c2 c3 c4 cl)))
              go_roundw
              case rel => exact ⟨i + 1, by omega, by go_num, B9⟩
              case measure => simp [intOf]; omega
        · obtain rfl : n = i := by omega
          clear hlt
          have hgy := Lib.hid (fun W (hW6 : Below w6.heap.size w6 W) (hW : Below W0.heap.size W0 W) => give_who y.c y.ra y.nr y.rc y.wa y.nw y.wc y.aa y.na y.ac y.c.fuel y.ca y.nc y.cc (whoN l n ++ [(100, y.c)]) Y 6 yk 100 W (OY6.out.below hW6) (by decide) (by rw [List.length_append, whoN_length]; simp; omega) HYR.out.1.sets (fun q hq e => by
            rcases List.mem_append.1 hq with hq | hq
            · have := whoN_le hq
              omega
            · rw [List.mem_singleton.1 hq]) (HY.out _ hW))
          rw [filter_all (fun q hq => by have := whoN_le hq; omega)] at hgy
          have HI0 := Lib.hid (bnext HB.out HI4.out)
          go_wp2_with (first
            | (go_at_call 9; go_must ((with_reducible refine (aw.out _).mono ?_); rintro e w8 ⟨rfl, hb8⟩; have B8 := Lib.hid (bnext HI.out hb8); have B80 := Lib.hid (bnext HI0.out hb8); obtain ⟨a0, a1, a2, a3, a4, a5⟩ := hQ.out _ B80.out; clear hb8))
            | (go_at_call 17; go_must ((with_reducible refine (hgy.out _ B8.out B80.out).mono ?_); rintro e w9 ⟨G, gk, rfl, hO, hb9⟩; have OG := Lib.hid hO.sl; have B9 := Lib.hid (bnext B80.out hb9); have hsm := Lib.hid (rsame_who (whoN l n) G 6 gk w9 X k OG.out (HO.out.below (bnext B6.out (bnext B8.out hb9))) (by decide) (by rw [whoN_length]; omega)); clear hO hb9 a0 a1 a2 a3 a4 a5))
            | (go_at_call 14; go_must ((with_reducible refine hsm.out.mono ?_); rintro e wa ⟨rfl, hba⟩; have Ba := Lib.hid (bnext B9.out hba); clear hba)))
          go_ret
          exact ⟨rfl, bnext BB.out Ba.out⟩

theorem locksMore_walk (hz : n ≤ 9223372036854775807) (w : World) (h : Cmds w A c l) (hN : l.length = n) (hy : y.In w) (h0w : 0 ≤ wh) (h255 : wh ≤ 255) :
    Calls Try.prog 7 #[.slice A n c, cmV y.ra y.nr y.rc y.wa y.nw y.wc y.aa y.na y.ac y.c.fuel y.ca y.nc y.cc, .int .u8 wh] w fun e w' => e = .returned (.bool true) ∧ Below w.heap.size w w' := by
  by_cases hr : RightL l 6
  · by_cases hr2 : RightL [y] 6
    · by_cases h0 : n = 0
      · exact locksMore_no3 l A n c y wh w h hN hy hr hr2 h0
      · exact locksMore_main l A n c y wh w h hN hy hr hr2 (by omega) h0w h255
    · exact locksMore_no2 l A n c y wh w h hN hy hr hr2
  · exact locksMore_no1 l A n c y wh w h hN hy hz hr

end
end Go.Proofs.Ytcffmkphfahapaa
