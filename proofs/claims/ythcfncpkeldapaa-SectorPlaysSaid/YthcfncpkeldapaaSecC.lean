/-
  What sector.New answers, for every number.
-/
import Derived.Test.YthcfncpkeldapaaSecA
import Derived.Test.YthcfncpkeldapaaSecB
import Derived.Test.YthcfncpkeldapaaMem
namespace Go.Proofs.Ythcfncpkeldapaa
open Go.RowKit

def newD (k : Nat) : Dk := ⟨List.replicate k (padB ByteArray.empty), [], false, -1⟩

theorem newD_ok (k : Nat) (h : k ≤ 4096) : (newD k).ok := by
  refine ⟨by simpa [newD] using h, ?_, by simp [newD], by simp [newD], by simp [newD]⟩
  intro s hs
  simp only [newD] at hs
  rw [(List.mem_replicate.1 hs).2, padB_size _ (by decide)]

set_option maxHeartbeats 400000 in
theorem new_no (n : Int) (w : World) (h : n < 0 ∨ 4096 < n) :
    Calls Try.prog 12 #[.int .i64 n] w
      fun e w' => e = .returned (.tuple #[.agg #[.slice none 0 0, .slice none 0 0, .bool false, .int .i64 0], .int .i64 1]) ∧ Below w.heap.size w w' := by
  rcases h with h | h
  · go_enter Try.func12, Try.ntmps12
    go_wp2
    exact bodyPost_ret (v := .tuple #[.agg #[.slice none 0 0, .slice none 0 0, .bool false, .int .i64 0], .int .i64 1]) (by simp [results, Try.results12, go_sem]) rfl ⟨rfl, (Below.refl _ _).alloc (Nat.le_refl _) _⟩
  · have h' : ¬ n < 0 := by omega
    go_enter Try.func12, Try.ntmps12
    go_wp2
    exact bodyPost_ret (v := .tuple #[.agg #[.slice none 0 0, .slice none 0 0, .bool false, .int .i64 0], .int .i64 1]) (by simp [results, Try.results12, go_sem]) rfl ⟨rfl, (Below.refl _ _).alloc (Nat.le_refl _) _⟩

theorem Try.infoS : (Try.prog.info? 9).map (fun i => (i.zero, i.size, i.bytes)) = some (some (.string ⟨#[]⟩), 1, 16) := by kernel_rfl

def newRow (k i : Nat) : List Value := List.replicate i (Value.string (padB ByteArray.empty)) ++ List.replicate (k - i) (Value.string ⟨#[]⟩)

theorem newRow_set (k i : Nat) (h : i < k) : (newRow k i).set i (.string (padB ByteArray.empty)) = newRow k (i + 1) := by
  unfold newRow
  rw [List.set_append_right _ _ (by simp)]
  simp only [List.length_replicate, Nat.sub_self]
  rw [show k - i = (k - (i + 1)) + 1 by omega, List.replicate_succ, List.set_cons_zero, List.replicate_succ' (n := i), List.append_assoc]
  rfl

theorem newRow_at (k i : Nat) (h : i < k) : (newRow k i)[i]? = some (.string ⟨#[]⟩) := by
  unfold newRow
  rw [List.getElem?_append_right (by simp)]
  simp only [List.length_replicate, Nat.sub_self]
  rw [List.getElem?_replicate, if_pos (by omega)]

theorem newRow_full (k : Nat) : newRow k k = (newD k).sec.map Value.string := by simp [newRow, newD]

theorem newRow_zero (k : Nat) : (madeCells (Value.string ⟨#[]⟩).cells (k * 1)).toList = newRow k 0 := by
  show (madeCells #[Value.string ⟨#[]⟩] (k * 1)).toList = _
  rw [toList_madeCells_one]
  simp [newRow]

set_option maxHeartbeats 1000000 in
theorem new_yes (k : Nat) (w : World) (h : k ≤ 4096) :
    Calls Try.prog 12 #[.int .i64 k] w
      fun e w' => ∃ v, e = .returned (.tuple #[v, .int .i64 0]) ∧ IsDk w' v (newD k) ∧ Below w.heap.size w w' := by
  obtain ⟨i0, hi, hz0, hz1, hz2⟩ := info_parts Try.infoS
  have hq1 : decide ((k : Int) < 0) = false := by simp
  have hq2 : decide ((4096 : Int) < (k : Int)) = false := by simp; omega
  go_enter Try.func12, Try.ntmps12
  go_wp2_with (at_make; go_must (refine wpList_make_full _ rfl (.tmp 13) (.tmp 13) _ rfl (w.heap.size + 1) 9 i0 _ 1 Try.underlying25 hi hz0 hz1 _ _ _ _ k rfl rfl rfl rfl (by rw [hz2]; omega) (by unfold maxLen; omega) (by simp) ?_; intro w1 hown hg))
  have hown1 : w1.ownsRow (w.heap.size + 1) 9 1 (.slice (some ⟨w.heap.size + 1, 0, none⟩) k k) k (newRow k 0) := by
    have := hown; rw [newRow_zero] at this; simpa using this
  have hb1 : Below (w.heap.size + 1) (w.alloc (.cells #[.slice none 0 0, .slice none 0 0, .bool false, .int .i64 0] 28)) w1 :=
    (Below.refl _ _).grown hg (by simp) (by simp)
  clear hown hg hi hz0 hz1 hz2 hq1 hq2
  go_loopw [17] (fun c wr => ∃ i : Nat, i ≤ k ∧ c = .int .i64 i ∧ wr.ownsRow (w.heap.size + 1) 9 1 (.slice (some ⟨w.heap.size + 1, 0, none⟩) k k) k (newRow k i) ∧
      Below (w.heap.size + 1) (w.alloc (.cells #[.slice none 0 0, .slice none 0 0, .bool false, .int .i64 0] 28)) wr)
    (fun c _ => k - (intOf c).toNat)
  case atStart => exact ⟨0, Nat.zero_le _, rfl, hown1, hb1⟩
  case round =>
    clear hown1 hb1
    obtain ⟨i, hik, rfl, hown, hb⟩ := hrel
    have hsz : w.heap.size + 1 ≤ wr.heap.size := by have := hb.size; simpa using this
    by_cases hlt : i < k
    · go_wp2_with (go_at_call 29; go_must (refine (padded_any _ _ (by decide)).mono ?_; rintro e w' ⟨rfl, hbp⟩; have ho' := own_below hown hbp; have hcc := (ho'.cellAt i (by omega)).trans (newRow_at k i hlt); have hff := ho'.frozenAt i))
      have hst := ho'.stored i (.string (padB ByteArray.empty))
      rw [newRow_set k i hlt] at hst
      go_roundw
      case rel => exact ⟨i + 1, by omega, by go_num, hst.1, (hb.trans (hbp.mono hsz)).setCell (by simp) _⟩
      case measure => simp [intOf]; omega
    · have hik' : i = k := by omega
      subst hik'
      have c0 : wr.cell? ⟨w.heap.size, 0, none⟩ = some (.slice none 0 0) := by rw [hb.cell (p := ⟨w.heap.size, 0, none⟩) (by simp)]; simp
      have c1 : wr.cell? ⟨w.heap.size, 1, none⟩ = some (.slice none 0 0) := by rw [hb.cell (p := ⟨w.heap.size, 1, none⟩) (by simp)]; simp
      have c2 : wr.cell? ⟨w.heap.size, 2, none⟩ = some (.bool false) := by rw [hb.cell (p := ⟨w.heap.size, 2, none⟩) (by simp)]; simp
      have c3 : wr.cell? ⟨w.heap.size, 3, none⟩ = some (.int .i64 0) := by rw [hb.cell (p := ⟨w.heap.size, 3, none⟩) (by simp)]; simp
      have f0 : ∀ o, wr.frozen? ⟨w.heap.size, o, none⟩ = false := fun o => by rw [hb.frozen (p := ⟨w.heap.size, o, none⟩) (by simp)]; simp
      go_wp2
      refine bodyPost_ret (v := .tuple #[.agg #[.slice (some ⟨w.heap.size + 1, 0, none⟩) i i, .slice none 0 0, .bool false, .int .i64 (-1)], .int .i64 0]) (by simp [results, Try.results12, go_sem, c0, c1, c2, c3]) rfl ⟨_, rfl, ?_, ?_⟩
      · have h4 := ownsRow_setCell_below (ownsRow_setCell_below (ownsRow_setCell_below (ownsRow_setCell_below hown (a := ⟨w.heap.size, 0, none⟩) (by simp) (.slice (some ⟨w.heap.size + 1, 0, none⟩) i i)) (a := ⟨w.heap.size, 1, none⟩) (by simp) (.slice none 0 0)) (a := ⟨w.heap.size, 2, none⟩) (by simp) (.bool false)) (a := ⟨w.heap.size, 3, none⟩) (by simp) (.int .i64 (-1))
        have hsl := Sl.own' h4
        have hty := Ty.own h4
        rw [newRow_full] at hsl
        exact ⟨some ⟨w.heap.size + 1, 0, none⟩, i, none, 0, by simp [newD], by simpa [newD] using hsl, ⟨rfl, Nat.le_refl _, fun _ => ⟨rfl, rfl⟩, fun h => by simp [newD] at h⟩, by simpa [newD] using hty, Ty.zero⟩
      · have hb0 : Below w.heap.size w wr := ((Below.refl _ _).alloc (Nat.le_refl _) _).trans (hb.mono (by simp))
        exact (((hb0.setCell (p := ⟨w.heap.size, 0, none⟩) (by simp) _).setCell (p := ⟨w.heap.size, 1, none⟩) (by simp) _).setCell (p := ⟨w.heap.size, 2, none⟩) (by simp) _).setCell (p := ⟨w.heap.size, 3, none⟩) (by simp) _

end Go.Proofs.Ythcfncpkeldapaa
