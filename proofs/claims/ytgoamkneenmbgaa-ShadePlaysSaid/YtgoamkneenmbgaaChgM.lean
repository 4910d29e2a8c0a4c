/-
  A law's list of changes in memory. No conditions but those that stand there.
-/
import Derived.Test.YtgoamkneenmbgaaShdM
namespace Go.Proofs.Ytgoamkneenmbgaa
open Go.RowKit

/-- a block's change: its place, and what it is then. -/
structure Chg where
  at_ : Int
  to : Ent
def chI (c : Chg) : List Int := c.at_ :: entI c.to
def chW (l : List Chg) : List Value := blksW (l.map chI)
def EightC (l : List Chg) : Prop := ∀ c ∈ l, c.to.cells.length = 8
def chZ : Chg := ⟨0, entZ⟩
theorem chI_length {c : Chg} (h : c.to.cells.length = 8) : (chI c).length = 10 := by simp [chI, entI_length h]
theorem EightC.rows {l : List Chg} (h : EightC l) : ∀ b ∈ l.map chI, b.length = 10 := fun b hb => by
  obtain ⟨e, he, rfl⟩ := List.mem_map.1 hb
  exact chI_length (h e he)
theorem EightC.at {l : List Chg} (h : EightC l) (i : Nat) : (l[i]?.getD chZ).to.cells.length = 8 := by
  by_cases hi : i < l.length
  · rw [List.getElem?_eq_getElem hi]
    exact h _ (List.getElem_mem _)
  · rw [List.getElem?_eq_none (by omega)]
    rfl
theorem chW_length {l : List Chg} (h : EightC l) : (chW l).length = l.length * 10 := by
  unfold chW
  rw [rowsW_length _ h.rows, List.length_map]
theorem chW_at {l : List Chg} (h : EightC l) {i : Nat} (hi : i < l.length) {j : Nat} (hj : j < 10) : (chW l)[i * 10 + j]? = some (.int .i64 ((chI (l[i]?.getD chZ))[j]?.getD 0)) := by
  unfold chW
  rw [rowsW_at _ h.rows i (by simpa using hi) j hj, List.getElem?_map, List.getElem?_eq_getElem hi]
  rfl

/-- a slice of changes. -/
def Chgs (w : World) (A : Option Addr) (c : Nat) (l : List Chg) : Prop := Sl w 10 A l.length c (chW l)
theorem Chgs.below {w w' : World} {A : Option Addr} {c : Nat} {l : List Chg} (h : Chgs w A c l) (hb : Below w.heap.size w w') : Chgs w' A c l := Sl.below h hb

/-- where a change lies in it. -/
theorem Chgs.range {w : World} {A : Option Addr} {c : Nat} {l : List Chg} (h : Chgs w A c l) (h8 : EightC l) {i : Nat} (hi : i < l.length) :
    ∃ b off, A = some ⟨b, off, none⟩ ∧ b < w.heap.size ∧ ∀ W, Below w.heap.size w W → W.cell? ⟨b, off + i * 10, none⟩ = some (.int .i64 (l[i]?.getD chZ).at_) ∧
      (loadVar 34 ⟨b, off + i * 10 + 1, none⟩).run Try.prog W = .ok (.agg (bkC (entI (l[i]?.getD chZ).to))) W := by
  obtain ⟨b, off, rfl, hb, hc⟩ := h.2.2.2 (by omega)
  have hl := h8.at i
  generalize hx : l[i]?.getD chZ = x at *
  have key : ∀ W, Below w.heap.size w W → ∀ j, j < 10 → W.cell? ⟨b, off + i * 10 + j, none⟩ = some (.int .i64 ((chI x)[j]?.getD 0)) := fun W hW j hj => by
    rw [hW.cell (p := ⟨b, off + i * 10 + j, none⟩) hb, Nat.add_assoc, hc (i * 10 + j) (by omega), chW_at h8 hi hj, hx]
  refine ⟨b, off, rfl, hb, fun W hW => ⟨?_, ?_⟩⟩
  · have := key W hW 0 (by decide)
    simpa [chI] using this
  · have hr : W.rangeAt b (off + i * 10 + 1) ((entI x.to).map (.int .i64)) := fun j v hv => by
      have hj : j < 9 := by
        have := (List.getElem?_eq_some_iff.1 hv).1
        rw [List.length_map, entI_length hl] at this
        exact this
      rw [Nat.add_assoc, Nat.add_comm 1 j, key W hW (j + 1) (by omega)]
      rw [List.getElem?_map, List.getElem?_eq_getElem (by rw [entI_length hl]; exact hj)] at hv
      simp only [Option.map_some, Option.some.injEq] at hv
      rw [← hv]
      unfold chI
      rw [List.getElem?_cons_succ, List.getElem?_eq_getElem (by rw [entI_length hl]; exact hj)]
      rfl
    exact run_loadVar_mid W b (off + i * 10 + 1) 34 _ _ hr Try.underlying34 rfl (by rw [List.length_map, entI_length hl]; exact infoEnt9)

end Go.Proofs.Ytgoamkneenmbgaa
