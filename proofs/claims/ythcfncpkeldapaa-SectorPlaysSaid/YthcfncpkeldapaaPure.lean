/-
  Plain facts on devices: what stays where all stays, where nothing does; what is read. No conditions.
-/
import Derived.Test.YthcfncpkeldapaaPlayed
namespace Go.Proofs.Ythcfncpkeldapaa
open Go.RowKit

theorem startTo_none (sec : List ByteArray) (l : List (Int × ByteArray)) (b : Int) (k : Nat) : startTo sec l [] (-1) b k = sec := by
  induction k with
  | zero => rfl
  | succ k ih =>
    rw [startTo]
    split
    · exact ih
    · rw [if_neg (by omega), ih]
      rfl

theorem startTo_all (sec : List ByteArray) (l : List (Int × ByteArray)) (b : Int) (k : Nat) (hk : k ≤ l.length) : startTo sec l [true] (-1) b k = applyW sec (l.take k) := by
  induction k with
  | zero => rfl
  | succ k ih =>
    rw [startTo, List.getElem?_eq_getElem (by omega)]
    simp only [ih (by omega)]
    rw [if_neg (by omega), if_pos (by simp [Nat.mod_one])]
    rw [List.take_succ_eq_append_getElem (by omega)]
    unfold applyW
    rw [List.foldl_append]
    rfl

/-- What is read is what was written last. -/
theorem applyW_at (sec : List ByteArray) (l : List (Int × ByteArray)) (i k : Nat) (hk : k ≤ l.length) (hl : ∀ x ∈ l, 0 ≤ x.1 ∧ x.1 < sec.length) (hi : i < sec.length) :
    (applyW sec (l.take k)).getD i ByteArray.empty = (findTo l i k).getD (sec.getD i ByteArray.empty) := by
  induction k with
  | zero => rfl
  | succ k ih =>
    have hkl : k < l.length := by omega
    have e : applyW sec (l.take (k + 1)) = (applyW sec (l.take k)).set (l[k]).1.toNat (l[k]).2 := by
      rw [List.take_succ_eq_append_getElem hkl]
      unfold applyW
      rw [List.foldl_append]
      rfl
    obtain ⟨h0, h1⟩ := hl _ (List.getElem_mem hkl)
    rw [e, findTo, List.getElem?_eq_getElem hkl]
    simp only
    by_cases hq : (l[k]).1 = (i : Int)
    · rw [if_pos hq]
      simp only [List.getD_eq_getElem?_getD]
      rw [hq, Int.toNat_natCast, List.getElem?_set_self (by rw [applyW_length]; exact hi)]
      rfl
    · rw [if_neg hq, ← ih (by omega)]
      simp only [List.getD_eq_getElem?_getD]
      rw [List.getElem?_set_ne (by omega)]

theorem start_none_sec (D : Dk) (b : Int) : (startD D [] (-1) b).sec = D.sec := startTo_none _ _ _ _

theorem start_all_at (D : Dk) (b : Int) (hD : D.ok) (i : Nat) (hi : i < D.sec.length) : (startD D [true] (-1) b).sec.getD i ByteArray.empty = readAt D i := by
  show (startTo D.sec D.loose [true] (-1) b D.loose.length).getD i ByteArray.empty = _
  rw [startTo_all _ _ _ _ (Nat.le_refl _), applyW_at D.sec D.loose i D.loose.length (Nat.le_refl _) (fun x hx => ⟨(hD.loose x hx).1, (hD.loose x hx).2.1⟩) hi, readAt, Int.toNat_natCast]

/-- The sectors of a device value. -/
theorem IsDk.secs {w : World} {D : Dk} {A B : Option Addr} {n m c d : Nat} {dn : Bool} {lf : Int} (h : IsDk w (.agg #[.slice A n c, .slice B m d, .bool dn, .int .i64 lf]) D) (hn : 0 < n) :
    ∃ b off, A = some ⟨b, off, none⟩ ∧ n = D.sec.length ∧ b < w.heap.size ∧ ∀ i, i < D.sec.length → w.cell? ⟨b, off + i, none⟩ = some (.string (D.sec.getD i ByteArray.empty)) := by
  obtain ⟨A', c', B', d', e, hA, _⟩ := h
  simp only [Value.agg.injEq, Array.mk.injEq, List.cons.injEq, Value.slice.injEq] at e
  obtain ⟨⟨rfl, rfl, rfl⟩, _⟩ := e
  obtain ⟨b, off, e1, hb, hc⟩ := hA.2.2.2 hn
  refine ⟨b, off, e1, rfl, hb, fun i hi => ?_⟩
  rw [hc i (by omega), List.getElem?_map, List.getD_eq_getElem?_getD, List.getElem?_eq_getElem hi]
  rfl

theorem IsDk.left {w : World} {D : Dk} {A B : Option Addr} {n m c d : Nat} {dn : Bool} {lf : Int} (h : IsDk w (.agg #[.slice A n c, .slice B m d, .bool dn, .int .i64 lf]) D) (dn' : Bool) (lf' : Int) :
    IsDk w (.agg #[.slice A n c, .slice B m d, .bool dn', .int .i64 lf']) { D with down := dn', left := lf' } := by
  obtain ⟨A', c', B', d', e, h1, h2, h3, h4⟩ := h
  simp only [Value.agg.injEq, Array.mk.injEq, List.cons.injEq, Value.slice.injEq] at e
  obtain ⟨⟨rfl, rfl, rfl⟩, ⟨rfl, rfl, rfl⟩, _⟩ := e
  exact ⟨_, _, _, _, rfl, h1, h2, h3, h4⟩

end Go.Proofs.Ythcfncpkeldapaa
