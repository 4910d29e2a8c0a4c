/-
  What the reference's New answers, for every number: what sector's New answers.
-/
import Derived.Test.YthcfncpkeldapaaRefB
import Derived.Deep.RegionHeld3
import Derived.Deep.AppendLies
namespace Go.Proofs.Ythcfncpkeldapaa
open Go.RowKit

set_option maxHeartbeats 400000 in
theorem rnew_no (n : Int) (w : World) (h : n < 0 ∨ 4096 < n) :
    Calls Try.prog 13 #[.int .i64 n] w
      fun e w' => e = .returned (.tuple #[.agg #[.slice none 0 0, .slice none 0 0, .bool false, .int .i64 0], .int .i64 1]) ∧ Below w.heap.size w w' := by
  by_cases h0 : n < 0
  · clear h
    go_enter Try.func13, Try.ntmps13
    go_wp2
    exact bodyPost_ret (v := .tuple #[.agg #[.slice none 0 0, .slice none 0 0, .bool false, .int .i64 0], .int .i64 1]) (by simp [results, Try.results13, go_sem]) rfl ⟨rfl, (Below.refl _ _).alloc (Nat.le_refl _) _⟩
  · have h1 : 4096 < n := by omega
    clear h
    go_enter Try.func13, Try.ntmps13
    go_wp2
    exact bodyPost_ret (v := .tuple #[.agg #[.slice none 0 0, .slice none 0 0, .bool false, .int .i64 0], .int .i64 1]) (by simp [results, Try.results13, go_sem]) rfl ⟨rfl, (Below.refl _ _).alloc (Nat.le_refl _) _⟩

def zeros8 : Array Value := madeCells #[.int .u8 0] (128 * 1)

theorem make_zeros (W : World) : (Instr.makeSlice 55 (.int .i64 128) (.int .i64 128)).run Try.prog W = .ok (.slice (some ⟨W.heap.size, 0, none⟩) 128 128) (W.alloc (.cells zeros8 5)) := by kernel_rfl

theorem zeros_pad : (⟨Array.replicate 128 0⟩ : ByteArray) = padB ByteArray.empty := by decide +kernel

theorem conv_new (W W' : World) (h : W'.heap[W.heap.size]? = some (.cells zeros8 5 (0, 0))) :
    (convert 55 9 (.slice (some ⟨W.heap.size, 0, none⟩) 128 128)).run Try.prog W' = .ok (.string (padB ByteArray.empty)) W' := by
  rw [conv_zeros W.heap.size 128 128 W' (fun j hj => ?_), zeros_pad]
  rw [cell_of_row W' _ _ _ _ _ h]
  have := made_one (.int .u8 0) 128 j hj
  rw [zeros8]
  simpa using this

theorem Bk.grown {w w' : World} {row : Option Nat} {g : Nat} {t : TypeId} {cs : Array Value} (h : Bk w g t cs) (hg : w.grownBy w' row) (hne : some g ≠ row) : Bk w' g t cs :=
  (hg.block g h.lt hne).trans h

theorem Bk.drewn {w : World} {g : Nat} {t : TypeId} {cs : Array Value} (h : Bk w g t cs) : Bk w.drew g t cs := h

theorem own_ge {w : World} {base : Nat} {e : TypeId} {size n : Nat} {v : Value} {xs : List Value} (h : w.ownsRow base e size v n xs) {g : Nat} (he : v.ownBlock = some g) : base ≤ g := by
  rcases h.2 with ⟨rfl, _⟩ | ⟨g', cap, cur, rfl, hb, _⟩
  · simp [Value.ownBlock] at he
  · simp [Value.ownBlock] at he
    omega

theorem own_ne {w : World} {base : Nat} {e : TypeId} {size n : Nat} {v : Value} {xs : List Value} (h : w.ownsRow base e size v n xs) {g : Nat} (hg : g < base) : v.ownBlock ≠ some g := by
  intro he
  rcases h.2 with ⟨rfl, _⟩ | ⟨g', cap, cur, rfl, hb, _⟩
  · simp [Value.ownBlock] at he
  · simp [Value.ownBlock] at he
    omega

attribute [local go_sem ↓] Go.wp_at_zero Go.wp_at_succ

set_option maxRecDepth 100000 in
set_option maxHeartbeats 2000000 in
theorem rnew_yes (n : Nat) (w : World) (hn : n ≤ 4096) :
    Calls Try.prog 13 #[.int .i64 (n : Int)] w
      fun e w' => ∃ v, e = .returned (.tuple #[v, .int .i64 0]) ∧ IsDk w' v (newD n) ∧ Below w.heap.size w w' := by
  obtain ⟨i0, hi, hz0, hz1, hz2⟩ := info_parts Try.infoS
  have hmk := make_zeros
  go_enter Try.func13, Try.ntmps13
  go_wp2
  have k0 := (Bk.new w 28 #[.slice none 0 0, .slice none 0 0, .bool false, .int .i64 0]).alloc (.cells #[.slice none 0 0, .slice none 0 0, .bool false, .int .i64 (-1)] 28)
  have k1 := Bk.new (w.alloc (.cells #[.slice none 0 0, .slice none 0 0, .bool false, .int .i64 0] 28)) 28 #[.slice none 0 0, .slice none 0 0, .bool false, .int .i64 (-1)]
  rw [World.size_alloc] at k1
  have t0 : Below w.heap.size w ((w.alloc (.cells #[.slice none 0 0, .slice none 0 0, .bool false, .int .i64 0] 28)).alloc (.cells #[.slice none 0 0, .slice none 0 0, .bool false, .int .i64 (-1)] 28)) := ((Below.refl _ _).alloc (Nat.le_refl _) _).alloc (by simp) _
  go_loopw [5] (fun i wr => ∃ (k : Nat) (V : Value), k ≤ n ∧ i = .int .i64 k ∧ wr.ownsRow (w.heap.size + 2) 9 1 V k (List.replicate k (.string (padB ByteArray.empty))) ∧
      Bk wr (w.heap.size + 1) 28 #[V, .slice none 0 0, .bool false, .int .i64 (-1)] ∧ Bk wr w.heap.size 28 #[.slice none 0 0, .slice none 0 0, .bool false, .int .i64 0] ∧ Below w.heap.size w wr)
    (fun i _ => n - (intOf i).toNat)
  case atStart => exact ⟨0, .slice none 0 0, Nat.zero_le _, rfl, ⟨by simp, .inl ⟨rfl, rfl⟩⟩, k1, k0, t0⟩
  case round =>
    clear k0 k1 t0
    obtain ⟨k, V, hk, rfl, hown, k1, k0, t0⟩ := hrel
    obtain ⟨c0, c1, c2, c3, f1⟩ := k1.four
    have l1 := k1.lt
    have ag := own_ne hown (g := w.heap.size + 1) (by omega)
    have ag0 := own_ne hown (g := w.heap.size) (by omega)
    by_cases hlt : k < n
    · have hcv := conv_new wr ((wr.alloc (.cells zeros8 5)).drew) (heap_alloc_new wr _)
      go_wp2
      have hnb0 := heap_alloc_new (wr.alloc (.cells zeros8 5)) (.cells #[.string (padB ByteArray.empty)] 9)
      rw [World.size_alloc] at hnb0
      have HNB := Lib.hid (World.news_of_block (w := ((wr.alloc (.cells zeros8 5)).alloc (.cells #[.string (padB ByteArray.empty)] 9)).drew) (B := wr.heap.size + 1) (cs := #[.string (padB ByteArray.empty)]) (t := 9) (fr := (0, 0)) hnb0)
      clear hnb0
      have nn := World.new_ne wr ⟨w.heap.size + 1, 0, none⟩ c0
      have e1 : (wr.alloc (.cells zeros8 5)).cell? ⟨w.heap.size + 1, 0, none⟩ = some V := (k1.alloc _).cell 0
      have e2 : ((wr.alloc (.cells zeros8 5)).alloc (.cells #[.string (padB ByteArray.empty)] 9)).cell? ⟨w.heap.size + 1, 0, none⟩ = some V := ((k1.alloc _).alloc _).cell 0
      have q1 := Lib.hid (show ∀ u ∈ [Value.string (padB ByteArray.empty)], u.oneCell' = true by intro u hu; simp at hu; subst hu; rfl)
      have q2 := Lib.hid (show k + 1 ≤ maxLen by unfold maxLen; omega)
      have q3 : (k + 1) * 16 ≤ 140737488355328 := by omega
      have q4 := Lib.hid (show ((wr.alloc (.cells zeros8 5)).alloc (.cells #[.string (padB ByteArray.empty)] 9)).drew.heap.size = wr.heap.size + 2 by show ((wr.alloc (.cells zeros8 5)).alloc (.cells #[.string (padB ByteArray.empty)] 9)).heap.size = _; simp)
      have q5 := Lib.hid (show w.heap.size + 2 ≤ ((wr.alloc (.cells zeros8 5)).alloc (.cells #[.string (padB ByteArray.empty)] 9)).drew.heap.size by rw [q4.out]; omega)
      go_region_law (first | (refine step_append_lies _ (by rfl) _ _ _ (by rfl) (w.heap.size + 2) 9 i0 _ 1 16 Try.underlying25 hi hz0 hz1 hz2 rfl Nat.one_pos V k _ (by rfl) (((hown.alloc _).alloc _).drew) ⟨wr.heap.size + 1, 0, none⟩ 1 1 [.string (padB ByteArray.empty)] (by rfl) (by rfl) HNB.out q1.out Nat.one_pos q2.out q3 q5.out (wr.heap.size + 2) q4.out ?_; intro gg cap w1 hown1 hgrow hat hlt1; have k2 := ((k1.alloc _).alloc _).drewn.grown hgrow (Ne.symm ag); have k3 := ((k0.alloc _).alloc _).drewn.grown hgrow (Ne.symm ag0); obtain ⟨d0, d1, d2, d3, f2⟩ := k2.four))
      all_goals
        go_wp2
        go_roundw
        case rel => exact ⟨k + 1, _, by omega, by go_num, by rw [List.replicate_succ']; exact ownsRow_setCell_below hown1 (a := ⟨w.heap.size + 1, 0, none⟩) (by simp) _, k2.set 0 _, k3.far (by simp) _, (((((t0.alloc t0.size _).alloc (Nat.le_trans t0.size (by simp)) _).drew).grown hgrow (Nat.le_trans t0.size (by rw [q4.out]; omega)) (fun g hg => Nat.le_trans (by omega) (own_ge hown hg))).setCell (by simp) _)⟩
        case measure => simp [intOf]; omega
    · obtain rfl : k = n := by omega
      obtain ⟨d0, d1, d2, d3, f2⟩ := k0.four
      obtain ⟨A', c', rfl, hsl⟩ := Sl.own hown
      have HOW := Lib.hid hown
      have HT := Lib.hid t0
      clear hown t0 hsl ag ag0
      go_wp2
      refine bodyPost_ret (v := .tuple #[.agg #[.slice A' k c', .slice none 0 0, .bool false, .int .i64 (-1)], .int .i64 0]) (by simp [results, Try.results13, go_sem, d0, d1, d2, d3]) rfl ⟨_, rfl, ?_, ?_⟩
      · have g2 := ownsRow_setCell_below HOW.out (a := ⟨w.heap.size, 0, none⟩) (by simp) (.slice A' k c')
        have g3 := ownsRow_setCell_below g2 (a := ⟨w.heap.size, 1, none⟩) (by simp) (.slice none 0 0)
        have g4 := ownsRow_setCell_below g3 (a := ⟨w.heap.size, 2, none⟩) (by simp) (.bool false)
        have g5 := ownsRow_setCell_below g4 (a := ⟨w.heap.size, 3, none⟩) (by simp) (.int .i64 (-1))
        exact ⟨A', c', none, 0, by simp [newD], by simpa [newD] using Sl.own' g5, ⟨rfl, Nat.le_refl _, fun _ => ⟨rfl, rfl⟩, fun h => by simp [newD] at h⟩, by simpa [newD] using Ty.own g5, Ty.zero⟩
      · exact (((HT.out.setCell (p := ⟨w.heap.size, 0, none⟩) (Nat.le_refl _) _).setCell (p := ⟨w.heap.size, 1, none⟩) (Nat.le_refl _) _).setCell (p := ⟨w.heap.size, 2, none⟩) (Nat.le_refl _) _).setCell (p := ⟨w.heap.size, 3, none⟩) (Nat.le_refl _) _

end Go.Proofs.Ythcfncpkeldapaa
