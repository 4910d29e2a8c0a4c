/-
  What cell.Read answers, in whatever memory: for strings that have at most 2^62 bytes, and whatever place: eight numbers, one behind the other.
-/
import Derived.Test.YtenjjepjmcijhaaCelM
import Derived.Test.YtenjjepjmcijhaaCelP
import Derived.Test.YtenjjepjmcijhaaLayB
namespace Go.Proofs.Ytenjjepjmcijhaa
open Go.RowKit

/-- the first i of a block as x says, the others noughts. -/
def rowN (x : Nat → Int) (i : Nat) : List Int := (List.range 8).map fun j => if j < i then x j else 0
theorem rowN_length (x : Nat → Int) (i : Nat) : (rowN x i).length = 8 := by simp [rowN]
theorem rowN_zero (x : Nat → Int) : rowN x 0 = List.replicate 8 0 := rfl
theorem rowN_full (x : Nat → Int) : rowN x 8 = (List.range 8).map x := by
  unfold rowN
  apply List.map_congr_left
  intro j hj
  rw [if_pos (by simpa using hj)]
theorem rowN_get (x : Nat → Int) (i j : Nat) (h : j < 8) : (rowN x i)[j]? = some (if j < i then x j else 0) := by simp [rowN, h]
theorem rowN_at (x : Nat → Int) (i j : Nat) (h : j < 8) : (bkC (rowN x i))[j]? = some (.int .i64 (if j < i then x j else 0)) := by
  rw [bkC_at (by rw [rowN_length]; exact h), rowN_get x i j h]
  rfl
theorem rowN_set (x : Nat → Int) (i : Nat) (h : i < 8) : (bkC (rowN x i)).setIfInBounds i (.int .i64 (x i)) = bkC (rowN x (i + 1)) := by
  rw [bkC_set]
  congr 1
  apply List.ext_getElem?
  intro j
  by_cases hj : j < 8
  · by_cases hij : i = j
    · subst hij
      rw [List.getElem?_set_self (by rw [rowN_length]; exact h), rowN_get _ _ _ h, if_pos (by omega)]
    · rw [List.getElem?_set_ne hij, rowN_get _ _ _ hj, rowN_get _ _ _ hj]
      by_cases hji : j < i
      · rw [if_pos hji, if_pos (by omega)]
      · rw [if_neg hji, if_neg (by omega)]
  · rw [List.getElem?_eq_none (by simp [rowN]; omega), List.getElem?_eq_none (by simp [rowN]; omega)]

theorem but_row {g h : Nat} {a w : World} (hb : But g a w) (hh : a.heap.size ≤ h) (cs : Array Value) : But g a (w.setRow h cs) :=
  ⟨hb.os, hb.tape, hb.output, by simpa using hb.size, fun k hk hg => (setRow_other w h k cs (by omega)).trans (hb.block k hk hg)⟩

set_option maxHeartbeats 2000000 in
theorem read_any (s : ByteArray) (r : Rd) (g : Nat) (w : World) (hk : Bk w g 28 (frV s r)) (hs : s.size ≤ 4611686018427387904) :
    Calls Try.prog 10 #[.pointer (some ⟨g, 0, none⟩)] w fun e w' => e = .returned (.agg (bkC (numsOf s 8 r))) ∧ Bk w' g 28 (frV s (itN s 8 r)) ∧ But g w w' := by
  have hb0 := ((Below.refl w.heap.size w).alloc (Nat.le_refl _) (.cells (bkC (List.replicate 8 0)) 23)).alloc (by simp) (.cells (bkC (List.replicate 8 0)) 23)
  have hR := (Bk.new w 23 (bkC (List.replicate 8 0))).alloc (.cells (bkC (List.replicate 8 0)) 23)
  have hB : Bk ((w.alloc (.cells (bkC (List.replicate 8 0)) 23)).alloc (.cells (bkC (List.replicate 8 0)) 23)) (w.heap.size + 1) 23 (bkC (List.replicate 8 0)) := heap_alloc2_new _ _ _
  have hlg := hk.lt
  have hk0 := hk.below hb0
  have b0 := Lib.hid (But.of_below (g := g) hb0)
  obtain ⟨X, hX⟩ : ∃ X : Nat → Int, X = fun i => numV s (itN s i r) := ⟨_, rfl⟩
  rw [← rowN_zero X] at hB
  have hR' := Lib.hid hR
  have hB' := Lib.hid hB
  have hk' := Lib.hid hk0
  have hat := Lib.hid (fun i j h => rowN_at X i j h)
  have hset := Lib.hid (fun i h => rowN_set X i h)
  have hsz := Lib.hid (fun i => rowN_length X i)
  have hfull : Hid (rowN X 8 = numsOf s 8 r) := Lib.hid (by rw [rowN_full, hX]; rfl)
  have hit : Hid (∀ i, itN s (i + 1) r = numR s (itN s i r)) := Lib.hid (fun _ => rfl)
  have hi0 : Hid (itN s 0 r = r) := Lib.hid rfl
  have hv : Hid (∀ i, X i = numV s (itN s i r)) := Lib.hid (fun i => by rw [hX])
  have i8 : Hid (∀ i, (Try.prog.info? 23).map (·.size) = some (bkC (rowN X i)).size) := Lib.hid (fun i => infoBlk (hsz.out i))
  clear hk hb0 hR hB hk0 hX
  obtain ⟨Z, hZ⟩ : ∃ Z, Z = bkC (List.replicate 8 0) := ⟨_, rfl⟩
  have hZ' := Lib.hid hZ
  rw [bkC_noughts] at hZ
  go_enter Try.func10, Try.ntmps10
  go_wp2
  go_loopw [5] (fun cc wr => ∃ i : Nat, i ≤ 8 ∧ cc = .int .i64 i ∧ But g w wr ∧ Bk wr g 28 (frV s (itN s i r)) ∧ Bk wr w.heap.size 23 Z ∧ Bk wr (w.heap.size + 1) 23 (bkC (rowN X i))) (fun cc _ => 8 - (intOf cc).toNat)
  case atStart => exact ⟨0, Nat.zero_le _, rfl, b0.out, by rw [hi0.out]; exact hk'.out, by rw [hZ'.out]; exact hR'.out, hB'.out⟩
  case round =>
    clear b0 hk' hR' hB'
    obtain ⟨i, hi, rfl, hb, hkg, hkR, hkB⟩ := hrel
    have K := Lib.hid hkg
    have R := Lib.hid hkR
    have B := Lib.hid hkB
    clear hkg hkR hkB
    by_cases hlt : i < 8
    · have hn := Lib.hid (num_any s (itN s i r) g wr K.out hs)
      have hit1 := Lib.hid (hit.out i)
      have hv1 := Lib.hid (hv.out i)
      have hset1 := Lib.hid (hset.out i hlt)
      have hat1 := hat.out i i hlt
      rw [if_neg (Nat.lt_irrefl i)] at hat1
      have hne1 : w.heap.size + 1 ≠ g := by omega
      have hne0 : w.heap.size ≠ g := by omega
      rw [← hv1.out] at hn
      generalize X i = x at *
      go_wp2_with (go_at_call 21; go_must ((with_reducible refine hn.out.mono ?_); rintro e w1 ⟨rfl, hk1, hb1⟩; have K1 := Lib.hid hk1; have R1 := Lib.hid (hb1.bk R.out hne0); have B1 := Lib.hid (hb1.bk B.out hne1); have c1 := (B1.out.cell i).trans hat1; have f1 := B1.out.frozen i; clear hk1))
      go_roundw
      case rel => exact ⟨i + 1, hlt, by go_num, (hb.trans hb1).setNew (p := ⟨w.heap.size + 1, i, none⟩) (by simp) _, by rw [hit1.out]; exact K1.out.far (by simp; omega) _, R1.out.far (by simp) _, by rw [← hset1.out]; exact B1.out.set i _⟩
      case measure => simp [intOf]; omega
    · obtain rfl : i = 8 := by omega
      have i8' := i8.out 8
      have s8 : (bkC (rowN X 8)).size = 8 := by rw [bkC_size, hsz.out]
      have all8 := bkC_all (rowN X 8)
      have hZs : Z.size = 8 := by rw [hZ]; rfl
      have hG : Hid (bkC (rowN X 8) = bkC (numsOf s 8 r)) := Lib.hid (by rw [hfull.out])
      have bF := Lib.hid hb
      have hne0 : g ≠ w.heap.size := by omega
      generalize bkC (rowN X 8) = cs' at *
      clear hat hset hsz hfull hit hi0 hv i8 hb hZ
      go_wp2_with (first
        | (refine wpList_load_row rfl 23 _ rfl (w.heap.size + 1) rfl 23 _ (0, 0) _ B.out Try.underlying23 rfl i8' ?_)
        | (refine wpList_store_row rfl 23 _ _ rfl w.heap.size cs' rfl rfl 23 Z R.out i8' (by rw [hZs, s8]) all8 ?_))
      exact bodyPost_ret (v := .agg cs') (results_cell_row rfl _ _ w.heap.size 23 _ (0, 0) _ rfl (R.out.setRow _) Try.underlying23 rfl i8') rfl ⟨by rw [hG.out], K.out.farRow hne0 _, but_row bF.out (Nat.le_refl _) _⟩

end Go.Proofs.Ytenjjepjmcijhaa
