/-
  What lay.Nums answers, in whatever memory: the bytes of a list of at most 2^40 numbers (of the first 255).
-/
import Derived.Test.YtoolgbeiphdkdaaLayF
namespace Go.Proofs.Ytoolgbeiphdkdaa
open Go.RowKit

theorem flat_take (l : List Int) (i : Nat) (h : i < l.length) : (l.take (i + 1)).flatMap numB = (l.take i).flatMap numB ++ numB (l[i]?.getD 0) := by
  rw [List.take_add_one, List.flatMap_append, List.getElem?_eq_getElem h]
  simp

theorem Ints.first {w : World} {A : Option Addr} {c : Nat} {l : List Int} (h : Ints w A c l) (m : Nat) (hm : m ≤ l.length) : Ints w A c (l.take m) := by
  have e : (l.take m).length = m := by simp; omega
  refine ⟨by simp, by rw [e]; exact Nat.le_trans hm h.2.1, fun h0 => by have := h.2.2.1 h0; rw [e]; omega, fun hn => ?_⟩
  rw [e] at hn
  obtain ⟨b, off, rfl, hb, hc⟩ := h.2.2.2 (by omega)
  refine ⟨b, off, rfl, hb, fun j hj => ?_⟩
  rw [e] at hj
  rw [hc j (by omega), List.map_take, List.getElem?_take, if_pos (by omega)]

set_option maxHeartbeats 2000000 in
theorem nums_str (l : List Int) (A : Option Addr) (c : Nat) (w : World) (hl : Ints w A c l) (hn : l.length ≤ 1099511627776) :
    Calls Try.prog 11 #[.slice A l.length c] w
      fun e w' => e = .returned (.string (strL (numsB l))) ∧ Below w.heap.size w w' := by
  obtain ⟨i0, hi0, hz0, hz1, hz2⟩ := infoB
  have hle := hl.2.1
  by_cases h255 : l.length ≤ 255
  · obtain ⟨l2, hl2e⟩ : ∃ l2, l2 = l := ⟨_, rfl⟩
    have hL2 : Hid (l2.length = l.length) := Lib.hid (by rw [hl2e])
    have hl2 : Hid (Ints w A c l2) := Lib.hid (by rw [hl2e]; exact hl)
    have hstr : Hid (numsB l = l.length :: l2.flatMap numB) := Lib.hid (by rw [numsB, hl2e, List.take_of_length_le h255, Nat.min_eq_left h255])
    clear hl hl2e
    generalize l.length = N at *
    have hmk : ∀ W : World, (Instr.makeSlice 41 (.int .i64 0) (.int .i64 (1 + 8 * (N : Int)))).run Try.prog W = .ok (.slice (some ⟨W.heap.size, 0, none⟩) 0 (1 + 8 * N)) (W.alloc (.cells (madeCells #[.int .u8 0] (1 + 8 * N)) 5)) := fun W => (show ((1 + 8 * N : Nat) : Int) = 1 + 8 * (N : Int) by omega) ▸ make_room W (1 + 8 * N) (by omega)
    go_enter Try.func11, Try.ntmps11
    go_wp2_with (at_builtin; go_must (refine append_one rfl (.tmp 16) (.tmp 20) _ rfl w.heap.size 5 i0 _ 1 Try.underlying41 hi0 hz0 hz1 hz2 rfl _ 0 [] rfl ((own_room w (1 + 8 * N) (by omega)).alloc _) (w.heap.size + 1) (.int .u8 (N : Nat)) rfl (by have := Bk.new (w.alloc (.cells (madeCells #[.int .u8 0] (1 + 8 * N)) 5)) 5 #[.int .u8 (N : Nat)]; rw [World.size_alloc] at this; exact this) rfl (by decide) (by decide) (by simp; omega) ?_; intro v' w4 hown4 hgr))
    have hb4 : Below w.heap.size w w4 := (((Below.refl _ _).alloc (Nat.le_refl _) _).alloc (by simp) _).grown hgr (by simp; omega) (fun k hk => by have hk : some w.heap.size = some k := hk; injection hk with hk; omega)
    have hown4' := Lib.hid hown4
    clear hown4 hgr hmk
    go_loopw [3, 24] (fun v cc wr => ∃ i : Nat, i ≤ N ∧ cc = .int .i64 i ∧ wr.ownsRow w.heap.size 5 1 v (1 + 8 * i) (u8s (N :: (l2.take i).flatMap numB)) ∧ Below w.heap.size w wr) (fun _ cc _ => N - (intOf cc).toNat)
    case atStart => exact ⟨0, Nat.zero_le _, rfl, hown4'.out, hb4⟩
    case round =>
      clear hb4 hown4'
      obtain ⟨i, hi, rfl, hown, hb⟩ := hrel
      by_cases hlt : i < N
      · obtain ⟨b, off, rfl, hbl, hcell⟩ := hl2.out.cellAt (j := i) (by rw [hL2.out]; exact hlt)
        have hc' := (bcells hb b (off + i) hbl).trans hcell
        have hadd := Lib.hid (addNum_any (l2[i]?.getD 0) _ (1 + 8 * i) _ w.heap.size wr hown hb.size (by omega))
        have hst := Lib.hid (flat_take l2 i (by rw [hL2.out]; exact hlt))
        have hlt' : (i : Int) < (N : Int) := by omega
        generalize l2[i]?.getD 0 = x at *
        clear hown hcell
        go_wp2_with (go_at_call 22; go_must ((with_reducible refine hadd.out.mono ?_); rintro e w5 ⟨v5, rfl, hown5, hb5⟩))
        go_roundw
        case rel => exact ⟨i + 1, by omega, by go_num, by rw [hst.out]; simpa [u8s, Nat.mul_add, Nat.add_assoc] using hown5, hb.trans hb5⟩
        case measure => simp [intOf]; omega
      · obtain rfl : i = N := by omega
        have ht : l2.take i = l2 := List.take_of_length_le (by rw [hL2.out]; omega)
        rw [ht] at hown
        have hcv := conv_own hown (by omega)
        clear hown ht
        go_wp2
        go_ret
        exact ⟨by rw [hstr.out]; rfl, hb⟩
  · obtain ⟨l2, hl2e⟩ : ∃ l2, l2 = l.take 255 := ⟨_, rfl⟩
    have hL2 : Hid (l2.length = 255) := Lib.hid (by rw [hl2e]; simp; omega)
    have hl2 : Hid (Ints w A c l2) := Lib.hid (by rw [hl2e]; exact hl.first 255 (by omega))
    have hstr : Hid (numsB l = 255 :: l2.flatMap numB) := Lib.hid (by rw [numsB, hl2e, Nat.min_eq_right (by omega)])
    clear hl hl2e
    generalize l.length = N at *
    have hmk : ∀ W : World, (Instr.makeSlice 41 (.int .i64 0) (.int .i64 2041)).run Try.prog W = .ok (.slice (some ⟨W.heap.size, 0, none⟩) 0 2041) (W.alloc (.cells (madeCells #[.int .u8 0] 2041) 5)) := fun W => make_room W 2041 (by omega)
    go_enter Try.func11, Try.ntmps11
    go_wp2_with (at_builtin; go_must (refine append_one rfl (.tmp 16) (.tmp 20) _ rfl w.heap.size 5 i0 _ 1 Try.underlying41 hi0 hz0 hz1 hz2 rfl _ 0 [] rfl ((own_room w 2041 (by omega)).alloc _) (w.heap.size + 1) (.int .u8 255) rfl (by have := Bk.new (w.alloc (.cells (madeCells #[.int .u8 0] 2041) 5)) 5 #[.int .u8 255]; rw [World.size_alloc] at this; exact this) rfl (by decide) (by decide) (by simp; omega) ?_; intro v' w4 hown4 hgr))
    have hb4 : Below w.heap.size w w4 := (((Below.refl _ _).alloc (Nat.le_refl _) _).alloc (by simp) _).grown hgr (by simp; omega) (fun k hk => by have hk : some w.heap.size = some k := hk; injection hk with hk; omega)
    have hown4' := Lib.hid hown4
    clear hown4 hgr hmk
    go_loopw [3, 24] (fun v cc wr => ∃ i : Nat, i ≤ 255 ∧ cc = .int .i64 i ∧ wr.ownsRow w.heap.size 5 1 v (1 + 8 * i) (u8s (255 :: (l2.take i).flatMap numB)) ∧ Below w.heap.size w wr) (fun _ cc _ => 255 - (intOf cc).toNat)
    case atStart => exact ⟨0, Nat.zero_le _, rfl, hown4'.out, hb4⟩
    case round =>
      clear hb4 hown4'
      obtain ⟨i, hi, rfl, hown, hb⟩ := hrel
      by_cases hlt : i < 255
      · obtain ⟨b, off, rfl, hbl, hcell⟩ := hl2.out.cellAt (j := i) (by rw [hL2.out]; exact hlt)
        have hc' := (bcells hb b (off + i) hbl).trans hcell
        have hadd := Lib.hid (addNum_any (l2[i]?.getD 0) _ (1 + 8 * i) _ w.heap.size wr hown hb.size (by omega))
        have hst := Lib.hid (flat_take l2 i (by rw [hL2.out]; exact hlt))
        have hlt' : (i : Int) < 255 := by omega
        generalize l2[i]?.getD 0 = x at *
        clear hown hcell
        go_wp2_with (go_at_call 22; go_must ((with_reducible refine hadd.out.mono ?_); rintro e w5 ⟨v5, rfl, hown5, hb5⟩))
        go_roundw
        case rel => exact ⟨i + 1, by omega, by go_num, by rw [hst.out]; simpa [u8s, Nat.mul_add, Nat.add_assoc] using hown5, hb.trans hb5⟩
        case measure => simp [intOf]; omega
      · obtain rfl : i = 255 := by omega
        have ht : l2.take 255 = l2 := List.take_of_length_le (by rw [hL2.out]; omega)
        rw [ht] at hown
        have hcv := conv_own hown (by omega)
        clear hown ht
        go_wp2
        go_ret
        exact ⟨by rw [hstr.out]; rfl, hb⟩

end Go.Proofs.Ytoolgbeiphdkdaa
