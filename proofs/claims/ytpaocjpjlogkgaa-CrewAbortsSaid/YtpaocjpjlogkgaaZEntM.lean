/-
  Entries in memory: a block's cells and a number behind them; lists of them; loaded, held against each other, stored. No conditions but those that stand there.
-/
import Derived.Test.YtpaocjpjlogkgaaZSetL
import Derived.Test.YtpaocjpjlogkgaaQCelK
import Derived.Test.YtpaocjpjlogkgaaQQueP
namespace Go.Proofs.Ytpaocjpjlogkgaa
open Go.RowKit

/-! ### rows of so many cells each -/
theorem rowsW_length {k : Nat} : ∀ (own : Blks), (∀ b ∈ own, b.length = k) → (blksW own).length = own.length * k
  | [], _ => by simp [blksW]
  | b :: l, h => by
    have ih := rowsW_length l (fun x hx => h x (by simp [hx]))
    have hb := h b (by simp)
    unfold blksW at ih ⊢
    rw [List.flatMap_cons, List.length_append, List.length_map, ih, List.length_cons, hb, Nat.add_mul]
    omega

theorem rowsW_at {k : Nat} : ∀ (own : Blks), (∀ b ∈ own, b.length = k) → ∀ i, i < own.length → ∀ j, j < k → (blksW own)[i * k + j]? = some (.int .i64 ((own[i]?.getD [])[j]?.getD 0))
  | [], _, i, hi, _, _ => by simp at hi
  | b :: l, h, 0, _, j, hj => by
    have hb := h b (by simp)
    unfold blksW
    rw [List.flatMap_cons, List.getElem?_append_left (by simp; omega)]
    simp [show j < b.length by omega]
  | b :: l, h, i + 1, hi, j, hj => by
    have hb := h b (by simp)
    have ih := rowsW_at l (fun x hx => h x (by simp [hx])) i (by simpa using hi) j hj
    unfold blksW at ih ⊢
    rw [List.flatMap_cons, Nat.add_mul, Nat.one_mul, List.getElem?_append_right (by simp; omega), List.length_map, show i * k + k + j - b.length = i * k + j by omega, ih]
    simp

/-- a row set in a list of rows. -/
theorem rowsW_set {k : Nat} (hk : 0 < k) (own : Blks) (h8 : ∀ b ∈ own, b.length = k) {j : Nat} (hj : j < own.length) {y : List Int} (hy : y.length = k) : setL (blksW own) (j * k) (y.map (.int .i64)) = blksW (own.set j y) := by
  have h8' : ∀ b ∈ own.set j y, b.length = k := fun b hb => by
    rcases List.mem_or_eq_of_mem_set hb with hb | rfl
    · exact h8 b hb
    · exact hy
  have hl : (setL (blksW own) (j * k) (y.map (.int .i64))).length = own.length * k := by rw [setL_length, rowsW_length own h8]
  have hl' : (blksW (own.set j y)).length = own.length * k := by rw [rowsW_length _ h8', List.length_set]
  apply List.ext_getElem?
  intro i
  by_cases hi : i < own.length * k
  · have hp : i / k < own.length := Nat.div_lt_of_lt_mul (by rw [Nat.mul_comm]; exact hi)
    have hq : i % k < k := Nat.mod_lt _ hk
    have e : i = i / k * k + i % k := by rw [Nat.mul_comm]; exact (Nat.div_add_mod i k).symm
    rw [setL_at _ _ _ _ (by rw [rowsW_length own h8]; exact hi)]
    have e1 := rowsW_at own h8 (i / k) hp (i % k) hq
    have e2 := rowsW_at (own.set j y) h8' (i / k) (by simpa using hp) (i % k) hq
    rw [← e] at e1 e2
    rw [e2]
    by_cases hij : i / k = j
    · rw [hij] at e
      rw [if_pos (by rw [List.length_map]; omega), hij, List.getElem?_set_self hj, List.getElem?_map, show i - j * k = i % k by omega, List.getElem?_eq_getElem (by omega)]
      simp
      rw [List.getElem?_eq_getElem (by omega)]
      rfl
    · rw [if_neg, e1, List.getElem?_set_ne (Ne.symm hij)]
      rw [List.length_map, hy]
      rintro ⟨h1, h2⟩
      apply hij
      refine Nat.div_eq_of_lt_le h1 ?_
      rw [Nat.add_mul, Nat.one_mul]
      exact h2
  · rw [List.getElem?_eq_none (by omega), List.getElem?_eq_none (by omega)]

/-! ### entries -/
/-- an entry's cells. -/
def entI (e : Ent) : List Int := e.cells ++ [e.seq]
/-- entries' cells, one behind the other. -/
def entsW (l : List Ent) : List Value := blksW (l.map entI)
/-- each has eight cells. -/
def Eight (l : List Ent) : Prop := ∀ e ∈ l, e.cells.length = 8

theorem entI_length {e : Ent} (h : e.cells.length = 8) : (entI e).length = 9 := by simp [entI, h]
theorem Eight.rows {l : List Ent} (h : Eight l) : ∀ b ∈ l.map entI, b.length = 9 := fun b hb => by
  obtain ⟨e, he, rfl⟩ := List.mem_map.1 hb
  exact entI_length (h e he)
theorem Eight.at {l : List Ent} (h : Eight l) (i : Nat) : (l[i]?.getD entZ).cells.length = 8 := by
  by_cases hi : i < l.length
  · rw [List.getElem?_eq_getElem hi]
    exact h _ (List.getElem_mem _)
  · rw [List.getElem?_eq_none (by omega)]
    rfl
theorem Eight.set {l : List Ent} (h : Eight l) (i : Nat) {e : Ent} (he : e.cells.length = 8) : Eight (l.set i e) := fun x hx => by
  rcases List.mem_or_eq_of_mem_set hx with hx | rfl
  · exact h x hx
  · exact he
theorem entsW_length {l : List Ent} (h : Eight l) : (entsW l).length = l.length * 9 := by
  unfold entsW
  rw [rowsW_length _ h.rows, List.length_map]
theorem entsW_at {l : List Ent} (h : Eight l) {i : Nat} (hi : i < l.length) {j : Nat} (hj : j < 9) : (entsW l)[i * 9 + j]? = some (.int .i64 ((entI (l[i]?.getD entZ))[j]?.getD 0)) := by
  unfold entsW
  rw [rowsW_at _ h.rows i (by simpa using hi) j hj, List.getElem?_map, List.getElem?_eq_getElem hi]
  rfl
theorem entsW_one (l : List Ent) : ∀ u ∈ entsW l, u.oneCell' = true := blksW_one _
theorem entsW_set {l : List Ent} (h : Eight l) {j : Nat} (hj : j < l.length) {e : Ent} (he : e.cells.length = 8) : setL (entsW l) (j * 9) ((entI e).map (.int .i64)) = entsW (l.set j e) := by
  unfold entsW
  rw [rowsW_set (by decide) _ h.rows (by simpa using hj) (entI_length he), List.map_set]
theorem bkC_list (b : List Int) : (bkC b).toList = b.map (Value.int .i64) := by simp [bkC]

theorem infoEnt9 : (Try.prog.info? 51).map (·.size) = some 9 := by kernel_rfl
theorem infoEntZ : ∃ i, Try.prog.info? 51 = some i ∧ i.zero = some (.agg (bkC (entI entZ))) ∧ i.size = 9 ∧ i.bytes = 72 := by
  have h : (Try.prog.info? 51).map (fun i => (i.zero, i.size, i.bytes)) = some (some (.agg (bkC (entI entZ))), 9, 72) := by kernel_rfl
  cases hi : Try.prog.info? 51 with
  | none => rw [hi] at h; cases h
  | some i =>
    rw [hi] at h
    simp only [Option.map_some, Option.some.injEq, Prod.mk.injEq] at h
    exact ⟨i, rfl, h.1, h.2.1, h.2.2⟩

/-- a slice of entries. -/
def Ents (w : World) (A : Option Addr) (c : Nat) (l : List Ent) : Prop := Sl w 9 A l.length c (entsW l)
theorem Ents.below {w w' : World} {A : Option Addr} {c : Nat} {l : List Ent} (h : Ents w A c l) (hb : Below w.heap.size w w') : Ents w' A c l := Sl.below h hb

/-- where an entry lies in it. -/
theorem Ents.range {w : World} {A : Option Addr} {c : Nat} {l : List Ent} (h : Ents w A c l) (h8 : Eight l) {i : Nat} (hi : i < l.length) :
    ∃ b off, A = some ⟨b, off, none⟩ ∧ b < w.heap.size ∧ ∀ W, Below w.heap.size w W → W.rangeAt b (off + i * 9) ((entI (l[i]?.getD entZ)).map (.int .i64)) ∧ W.rangeAt b (off + i * 9) ((l[i]?.getD entZ).cells.map (.int .i64)) ∧ W.cell? ⟨b, off + i * 9 + 8, none⟩ = some (.int .i64 (l[i]?.getD entZ).seq) := by
  obtain ⟨b, off, rfl, hb, hc⟩ := h.2.2.2 (by omega)
  have hl := h8.at i
  generalize hx : l[i]?.getD entZ = x at *
  have key : ∀ W, Below w.heap.size w W → ∀ j, j < 9 → W.cell? ⟨b, off + i * 9 + j, none⟩ = some (.int .i64 ((entI x)[j]?.getD 0)) := fun W hW j hj => by
    rw [hW.cell (p := ⟨b, off + i * 9 + j, none⟩) hb, Nat.add_assoc, hc (i * 9 + j) (by omega), entsW_at h8 hi hj, hx]
  refine ⟨b, off, rfl, hb, fun W hW => ⟨fun j v hv => ?_, fun j v hv => ?_, ?_⟩⟩
  · have hj : j < 9 := by
      have := (List.getElem?_eq_some_iff.1 hv).1
      rw [List.length_map, entI_length hl] at this
      exact this
    rw [key W hW j hj]
    rw [List.getElem?_map, List.getElem?_eq_getElem (by rw [entI_length hl]; exact hj)] at hv
    simp only [Option.map_some, Option.some.injEq] at hv
    rw [← hv, List.getElem?_eq_getElem (by rw [entI_length hl]; exact hj)]
    rfl
  · have hj : j < 8 := by
      have := (List.getElem?_eq_some_iff.1 hv).1
      rw [List.length_map, hl] at this
      exact this
    rw [key W hW j (by omega)]
    rw [List.getElem?_map, List.getElem?_eq_getElem (by omega)] at hv
    simp only [Option.map_some, Option.some.injEq] at hv
    rw [← hv]
    unfold entI
    rw [List.getElem?_append_left (by omega), List.getElem?_eq_getElem (by omega)]
    rfl
  · rw [key W hW 8 (by omega)]
    unfold entI
    rw [List.getElem?_append_right (by omega)]
    simp [hl]

/-- an entry, and its block, are loaded as they lie there. -/
theorem Ents.load {w : World} {A : Option Addr} {c : Nat} {l : List Ent} (h : Ents w A c l) (h8 : Eight l) {i : Nat} (hi : i < l.length) :
    ∃ g off, A = some ⟨g, off, none⟩ ∧ g < w.heap.size ∧ ∀ W, Below w.heap.size w W →
      (loadVar 51 ⟨g, off + i * 9, none⟩).run Try.prog W = .ok (.agg (bkC (entI (l[i]?.getD entZ)))) W ∧
      (loadVar 49 ⟨g, off + i * 9, none⟩).run Try.prog W = .ok (.agg (bkC (l[i]?.getD entZ).cells)) W ∧
      W.cell? ⟨g, off + i * 9 + 8, none⟩ = some (.int .i64 (l[i]?.getD entZ).seq) := by
  obtain ⟨g, off, rfl, hg, hr⟩ := h.range h8 hi
  have hl := h8.at i
  refine ⟨g, off, rfl, hg, fun W hW => ?_⟩
  obtain ⟨r1, r2, r3⟩ := hr W hW
  exact ⟨run_loadVar_mid W g (off + i * 9) 51 _ _ r1 Try.underlying51 rfl (by rw [List.length_map, entI_length hl]; exact infoEnt9),
    run_loadVar_mid W g (off + i * 9) 49 _ _ r2 Try.underlying49 rfl (by rw [List.length_map, hl]; exact infoBlk8), r3⟩

end Go.Proofs.Ytpaocjpjlogkgaa
