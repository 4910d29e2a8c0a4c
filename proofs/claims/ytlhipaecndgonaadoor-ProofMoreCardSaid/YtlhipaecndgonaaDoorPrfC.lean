/-
  What slices.Repeat answers of one number and a count of 1 to 1,000, and proof's start of such a count. No conditions but those that stand there.
-/
import Derived.Test.YtlhipaecndgonaaDoorPrfB
import Derived.Test.YtlhipaecndgonaaDoorOwn
import Derived.Laws.Bits64b
import Derived.Laws.CopyOwn
import Derived.RegionTactic
import Derived.ChangeAlike
import Derived.BigRegion
namespace Go.Proofs.YtlhipaecndgonaaDoor
open Go.RowKit

theorem mul64_one (n : Nat) (hn : n ≤ 1000) (w : World) : Calls Tryd.prog 37 #[.int .u64 1, .int .u64 (n : Int)] w fun e w' => e = .returned (.tuple #[.int .u64 0, .int .u64 (n : Int)]) ∧ w = w' := by
  have m1 : bits .and .u64 1 4294967295 = 1 := by kernel_rfl
  have m2 : bits .and .u64 (n : Int) 4294967295 = (n : Int) := by
    have h := bits_and_u64_nat n 4294967295 (by omega) (by omega)
    have e : n &&& 4294967295 = n := by
      rw [show (4294967295 : Nat) = 2 ^ 32 - 1 by decide, Nat.and_two_pow_sub_one_eq_mod]
      omega
    rw [e] at h
    exact h
  have m3 : bits .and .u64 0 4294967295 = 0 := by kernel_rfl
  have d2 : (n : Int) / 4294967296 = 0 := by omega
  have hn' : (n : Int) ≤ 1000 := by omega
  go_enter Tryd.func37, Tryd.ntmps37
  go_wp2
  go_ret2
  exact ⟨rfl, rfl⟩

theorem mul_one (n : Nat) (hn : n ≤ 1000) (w : World) : Calls Tryd.prog 32 #[.int .u64 1, .int .u64 (n : Int)] w fun e w' => e = .returned (.tuple #[.int .u64 0, .int .u64 (n : Int)]) ∧ w = w' := by
  have h := Lib.hid (fun W => mul64_one n hn W)
  clear hn
  go_enter Tryd.func32, Tryd.ntmps32
  go_wp2_with (go_at_call 37; go_must ((with_reducible refine (h.out _).mono ?_); rintro e w1 ⟨rfl, rfl⟩))
  go_ret2
  exact ⟨rfl, rfl⟩

theorem infoI : ∃ i, Tryd.prog.info? 3 = some i ∧ i.zero = some (.int .i64 0) ∧ i.size = 1 ∧ i.bytes = 8 := by
  have h : (Tryd.prog.info? 3).map (fun i => (i.zero, i.size, i.bytes)) = some (some (.int .i64 0), 1, 8) := by kernel_rfl
  cases hi : Tryd.prog.info? 3 with
  | none => rw [hi] at h; cases h
  | some i =>
    rw [hi] at h
    simp only [Option.map_some, Option.some.injEq, Prod.mk.injEq] at h
    exact ⟨i, rfl, h.1, h.2.1, h.2.2⟩

/-- a row of N, the first n of which are -1, the others 0. -/
def repL (n N : Nat) : List Value := List.replicate n (.int .i64 (-1)) ++ List.replicate (N - n) (.int .i64 0)
def neg1 (n : Nat) : List Value := List.replicate n (.int .i64 (-1))
theorem repL_length {n N : Nat} (h : n ≤ N) : (repL n N).length = N := by simp [repL]; omega
theorem repL_at {n N j : Nat} (h : j < n) : (repL n N)[j]? = some (.int .i64 (-1)) := by
  rw [repL, List.getElem?_append_left (by simpa using h)]
  simp [h]
theorem repL_splice {n m N : Nat} : splice (repL n N) n (neg1 m) = repL (n + m) N := by
  unfold splice repL neg1
  rw [List.take_left' (by simp), List.drop_append, List.length_replicate, List.drop_eq_nil_of_le (by simp), List.nil_append, ← List.append_assoc, List.replicate_append_replicate, List.drop_replicate]
  congr 2
  simp
  omega
theorem neg1_length (m : Nat) : (neg1 m).length = m := by simp [neg1]
theorem neg1_at {m j : Nat} {u : Value} (h : (neg1 m)[j]? = some u) : j < m ∧ u = .int .i64 (-1) := by
  unfold neg1 at h
  rw [List.getElem?_replicate] at h
  split at h
  · injection h with h; exact ⟨by assumption, h.symm⟩
  · cases h
theorem neg1_one (m : Nat) : ∀ v ∈ neg1 m, v.oneCell' = true := by
  intro v hv
  rw [(List.mem_replicate.1 hv).2]
  rfl
theorem repL_full (N : Nat) : (repL N N).toArray = dV (List.replicate N (-1)) := by simp [repL, dV]
theorem repL_made (N : Nat) : madeCells #[.int .i64 0] N = (repL 0 N).toArray := by
  apply Array.ext'
  rw [toList_madeCells_one]
  simp [repL]

/-- copy out of a row of -1 into the rest of ours. -/
theorem rep_copy (W : World) (g N n m dLen dCap sLen sCap : Nat) (ad : Addr) (hk : Bk W g 3 (repL n N).toArray) (hn : n ≤ N) (hm : m = Nat.min sLen dLen) (hsrc : ∀ j, j < m → W.cell? (ad.add j) = some (.int .i64 (-1))) (hfit : n + m ≤ N) :
    ∃ W', (Builtin.copy_ #[22, 22] 3 #[.slice (some ⟨g, n, none⟩) dLen dCap, .slice (some ad) sLen sCap]).run Tryd.prog W = .ok (.int .i64 (m : Int)) W' ∧ Bk W' g 3 (repL (n + m) N).toArray ∧ But g W W' := by
  obtain ⟨i0, hi0, hz0, hz1, hz2⟩ := infoI
  have hsz1 : (Tryd.prog.info? 3).map (·.size) = some 1 := by rw [hi0]; simp [hz1]
  have hrun := run_copy_row (P := Tryd.prog) W 22 22 3 3 g n dLen dCap ad sLen sCap (repL n N).toArray 3 (neg1 m) Tryd.underlying22 hsz1 hk (by rw [neg1_length]; exact hm)
    (fun j v hv => by obtain ⟨hj, rfl⟩ := neg1_at hv; exact hsrc j hj) (by rw [neg1_length]; simpa [repL_length hn] using hfit) (neg1_one m)
  have e : (repL n N).toArray.toList.take n ++ neg1 m ++ (repL n N).toArray.toList.drop (n + (neg1 m).length) = repL (n + m) N := by
    rw [List.append_assoc]
    exact repL_splice (n := n) (m := m)
  rw [e, neg1_length] at hrun
  exact ⟨_, hrun, setRow_heap W g _ _ _ _ hk, ⟨rfl, rfl, rfl, by simp [World.setRow], fun k _ hne => setRow_other W g k _ hne⟩⟩

set_option maxHeartbeats 4000000 in
theorem repeat_any (a N : Nat) (w : World) (ha : Bk w a 3 #[.int .i64 (-1)]) (h1 : 1 ≤ N) (hN : N ≤ 1000) :
    Calls Tryd.prog 24 #[.slice (some ⟨a, 0, none⟩) 1 1, .int .i64 (N : Int)] w fun e w' => e = .returned (.slice (some ⟨w.heap.size, 0, none⟩) N N) ∧ Bk w' w.heap.size 3 (dV (List.replicate N (-1))) ∧ Below w.heap.size w w' := by
  obtain ⟨i0, hi0, hz0, hz1, hz2⟩ := infoI
  have hm := Lib.hid (fun W => mul_one N hN W)
  have hmk : ∀ W : World, (Instr.makeSlice 22 (.int .i64 (N : Int)) (.int .i64 (N : Int))).run Tryd.prog W = .ok (.slice (some ⟨W.heap.size, 0, none⟩) N N) (W.alloc (.cells (repL 0 N).toArray 3)) := fun W => by
    have hr := run_make (P := Tryd.prog) W 22 3 i0 (.int .i64 0) Tryd.underlying22 hi0 hz0 .i64 .i64 (N : Int) (N : Int) (by omega) (by omega) (by rw [hz2]; omega) (by omega)
    simp only [Int.toNat_natCast, hz1, Nat.mul_one] at hr
    rw [← repL_made]
    exact hr
  have hb0 : Below w.heap.size w (w.alloc (.cells (repL 0 N).toArray 3)) := (Below.refl _ _).alloc (Nat.le_refl _) _
  obtain ⟨W2, hc0, hk2', hb2'⟩ := rep_copy (w.alloc (.cells (repL 0 N).toArray 3)) w.heap.size N 0 1 N N 1 1 ⟨a, 0, none⟩ (Bk.new w 3 (repL 0 N).toArray) (Nat.zero_le _) (Nat.min_eq_left h1).symm (fun j hj => by obtain rfl : j = 0 := (by omega); exact (ha.below hb0).cell 0) (by omega)
  have hk2 : Hid (Bk W2 w.heap.size 3 (repL 1 N).toArray) := Lib.hid hk2'
  have hb2 : Below w.heap.size w W2 := hb2'.below hb0 (Nat.le_refl _) (by rw [World.size_alloc]; omega)
  have hg2 : w.heap.size < W2.heap.size := hk2'.lt
  clear hi0 hz0 hz1 hz2 ha hb0 hk2' hb2'
  have hN' : (N : Int) ≤ 1000 := by omega
  have h1' : (1 : Int) ≤ (N : Int) := by omega
  go_enter Tryd.func24, Tryd.ntmps24
  go_wp2_with (go_at_call 32; go_must ((with_reducible refine (hm.out _).mono ?_); rintro e w1 ⟨rfl, rfl⟩))
  clear hc0
  go_loopw [8] (fun cc wr => ∃ n : Nat, 1 ≤ n ∧ n ≤ N ∧ cc = .int .i64 n ∧ Hid (Bk wr w.heap.size 3 (repL n N).toArray) ∧ Below w.heap.size w wr) (fun cc _ => N - (intOf cc).toNat)
  case atStart => exact ⟨1, Nat.le_refl _, h1, rfl, hk2, hb2⟩
  case round =>
    obtain ⟨n, hn, hnN, rfl, HK, hb⟩ := hrel
    by_cases hlt : n < N
    · have d1 : (n : Int) < (N : Int) := by omega
      obtain ⟨m, hm'⟩ : ∃ m, m = Nat.min n (N - n) := ⟨_, rfl⟩
      have m1 : m ≤ n := by rw [hm']; exact Nat.min_le_left _ _
      have m2 : m ≤ N - n := by rw [hm']; exact Nat.min_le_right _ _
      have m3 : 1 ≤ m := by rw [hm']; exact Nat.le_min.2 ⟨hn, by omega⟩
      obtain ⟨W3, hc1, hk3', hb3'⟩ := rep_copy wr.drew w.heap.size N n m (N - n) (N - n) n N ⟨w.heap.size, 0, none⟩ (HK.out.below (below_drew1 wr)) hnN hm' (fun j hj => by
        rw [Addr.add_lit, (HK.out.below (below_drew1 wr)).cell, List.getElem?_toArray, Nat.zero_add]
        exact repL_at (by omega)) (by omega)
      have hk3 := Lib.hid hk3'
      have hb3 : Below w.heap.size w W3 := hb3'.below hb.drew (Nat.le_refl _) hb.size
      clear hm' hk3' hb3'
      go_wp2
      go_region
      go_wp2
      go_roundw
      case rel => exact ⟨n + m, by omega, by omega, by go_num, hk3, hb3⟩
      case measure => simp [intOf]; omega
    · obtain rfl : n = N := by omega
      clear hlt
      go_wp2
      go_ret
      exact ⟨rfl, by rw [← repL_full]; exact HK.out, hb⟩

theorem start_list {N : Nat} : (List.replicate N (-1 : Int)).set 0 0 = startD0 N := by
  apply List.ext_getElem?
  intro j
  by_cases hj : j < N
  · rw [startD0, List.getElem?_map, List.getElem?_range hj]
    by_cases h0 : j = 0
    · subst h0; simp [hj]
    · rw [List.getElem?_set_ne (by omega)]; simp [hj, h0]
  · rw [List.getElem?_eq_none (by simp; omega), List.getElem?_eq_none (by rw [startD0_length]; omega)]

theorem rep_cell {w : World} {g N : Nat} (h : Bk w g 3 (dV (List.replicate N (-1)))) (h1 : 1 ≤ N) : w.cell? ⟨g, 0, none⟩ = some (.int .i64 (-1)) := by
  rw [bk_dV h (by simp; omega)]
  simp [dAt, show 0 < N by omega]

theorem start_fin {w w1 : World} {h g N : Nat} {d : List Int} (K : Bk w1 g 3 (dV d)) (R : Bk w1 h 45 #[.int .i64 0, .slice none 0 0]) (B : Below h w w1) (hg : h < g) :
    Bk (((w1.setCell ⟨g, 0, none⟩ (.int .i64 0)).setCell ⟨h, 0, none⟩ (.int .i64 0)).setCell ⟨h, 1, none⟩ (.slice (some ⟨g, 0, none⟩) N N)) h 45 #[.int .i64 0, .slice (some ⟨g, 0, none⟩) N N] ∧
    Bk (((w1.setCell ⟨g, 0, none⟩ (.int .i64 0)).setCell ⟨h, 0, none⟩ (.int .i64 0)).setCell ⟨h, 1, none⟩ (.slice (some ⟨g, 0, none⟩) N N)) g 3 (dV (d.set 0 0)) ∧
    Below h w (((w1.setCell ⟨g, 0, none⟩ (.int .i64 0)).setCell ⟨h, 0, none⟩ (.int .i64 0)).setCell ⟨h, 1, none⟩ (.slice (some ⟨g, 0, none⟩) N N)) := by
  refine ⟨by simpa using ((R.far (p := ⟨g, 0, none⟩) (by simp; omega) _).set 0 (.int .i64 0)).set 1 (.slice (some ⟨g, 0, none⟩) N N), ?_, ?_⟩
  · refine Bk.far (p := ⟨h, 1, none⟩) (Bk.far (p := ⟨h, 0, none⟩) ?_ (by simp; omega) _) (by simp; omega) _
    rw [← dV_set]
    exact K.set 0 _
  · refine B.trans ⟨rfl, rfl, rfl, by simp, fun k hk => ?_⟩
    exact ((Below.heap_setCell _ ⟨h, 1, none⟩ _ k (by simp; omega)).trans (Below.heap_setCell _ ⟨h, 0, none⟩ _ k (by simp; omega))).trans (Below.heap_setCell _ ⟨g, 0, none⟩ _ k (by simp; omega))

set_option maxHeartbeats 4000000 in
theorem start_any (N : Nat) (w : World) (h1 : 1 ≤ N) (hN : N ≤ 1000) :
    Calls Tryd.prog 17 #[.int .i64 (N : Int)] w fun e w' => ∃ g, w.heap.size ≤ g ∧ e = .returned (.agg #[.int .i64 0, .slice (some ⟨g, 0, none⟩) N N]) ∧ Bk w' g 3 (dV (startD0 N)) ∧ Below w.heap.size w w' := by
  obtain ⟨W0, hW0⟩ : ∃ W0, W0 = (w.alloc (.cells #[.int .i64 0, .slice none 0 0] 45)).alloc (.cells #[.int .i64 (-1)] 3) := ⟨_, rfl⟩
  have hsz : W0.heap.size = w.heap.size + 1 + 1 := by rw [hW0, World.size_alloc, World.size_alloc]
  have hb0 : Below w.heap.size w W0 := by
    rw [hW0]
    exact ((Below.refl _ _).alloc (Nat.le_refl _) _).alloc (by rw [World.size_alloc]; omega) _
  have hR0 : Bk W0 w.heap.size 45 #[.int .i64 0, .slice none 0 0] := by
    rw [hW0]
    exact (Bk.new w _ _).alloc _
  have hA0 : Bk W0 (w.heap.size + 1) 3 #[.int .i64 (-1)] := by
    have := Bk.new (w.alloc (.cells #[.int .i64 0, .slice none 0 0] 45)) 3 #[.int .i64 (-1)]
    rw [World.size_alloc, ← hW0] at this
    exact this
  have hrp := Lib.hid (repeat_any (w.heap.size + 1) N W0 hA0 h1 hN)
  rw [hsz] at hrp
  have hset := Lib.hid (show dV ((List.replicate N (-1 : Int)).set 0 0) = dV (startD0 N) by rw [start_list])
  have R0 := Lib.hid hR0
  have B0 := Lib.hid hb0
  have hsz' := Lib.hid hsz
  clear hsz hb0 hR0 hA0
  have hN' : (N : Int) ≤ 1000 := by omega
  have h1' : (0 : Int) < (N : Int) := by omega
  subst hW0
  go_enter Tryd.func17, Tryd.ntmps17
  go_wp2_with (go_at_call 24; go_must ((with_reducible refine hrp.out.mono ?_); rintro e w1 ⟨rfl, hk1, hb1⟩; have c1 : w1.cell? ⟨w.heap.size + 1 + 1, 0, none⟩ = some (.int .i64 (-1)) := rep_cell hk1 h1; have f1 := hk1.frozen 0; have hl1 := hk1.lt; have K1 := Lib.hid hk1; have R1 := Lib.hid (R0.out.below (hb1.mono (by rw [hsz'.out]; exact Nat.le_refl _))); have B1 := Lib.hid (B0.out.trans (hb1.mono (by omega))); have r0 := R1.out.cell 0; have r1 := R1.out.cell 1; have rf := R1.out.frozen; simp only [List.getElem?_toArray, List.getElem?_cons_zero, List.getElem?_cons_succ] at r0 r1))
  obtain ⟨z1, z2, z3⟩ := start_fin (N := N) K1.out R1.out B1.out (by omega)
  obtain ⟨q0, q1, -⟩ := Bk.two z1
  exact bodyPost_ret (v := .agg #[.int .i64 0, .slice (some ⟨w.heap.size + 1 + 1, 0, none⟩) N N]) (by simp [results, Tryd.results17, go_sem, q0, q1]) rfl ⟨_, by omega, rfl, by rw [← hset.out]; exact z2, z3⟩

end Go.Proofs.YtlhipaecndgonaaDoor
