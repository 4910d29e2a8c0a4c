/-
  Lists of blocks in memory, one behind the other. They name no function of the program. No conditions but those that stand there.
-/
import Derived.Test.YtldljohholgmoaaZCelM
import Derived.Test.YtldljohholgmoaaQStr
import Derived.Deep.MidRow
namespace Go.Proofs.Ytldljohholgmoaa
open Go.RowKit

/-- blocks' cells, one behind the other. -/
def blksW (own : Blks) : List Value := own.flatMap fun b => b.map (Value.int .i64)

theorem blksW_length : ∀ (own : Blks), (∀ b ∈ own, b.length = 8) → (blksW own).length = own.length * 8
  | [], _ => rfl
  | b :: l, h => by
    have ih := blksW_length l (fun x hx => h x (by simp [hx]))
    have hb := h b (by simp)
    unfold blksW at ih ⊢
    rw [List.flatMap_cons, List.length_append, List.length_map, ih, List.length_cons, hb]
    omega

theorem blksW_at : ∀ (own : Blks), (∀ b ∈ own, b.length = 8) → ∀ i, i < own.length → ∀ j, j < 8 → (blksW own)[i * 8 + j]? = some (.int .i64 ((own[i]?.getD [])[j]?.getD 0))
  | [], _, i, hi, _, _ => by simp at hi
  | b :: l, h, 0, _, j, hj => by
    have hb := h b (by simp)
    unfold blksW
    rw [List.flatMap_cons, List.getElem?_append_left (by simp; omega)]
    simp [show j < b.length by omega]
  | b :: l, h, i + 1, hi, j, hj => by
    have hb := h b (by simp)
    have ih := blksW_at l (fun x hx => h x (by simp [hx])) i (by simpa using hi) j hj
    unfold blksW at ih ⊢
    rw [List.flatMap_cons, List.getElem?_append_right (by simp; omega), List.length_map, show (i + 1) * 8 + j - b.length = i * 8 + j by omega, ih]
    simp

theorem blksW_one (own : Blks) : ∀ u ∈ blksW own, u.oneCell' = true := by
  intro u hu
  obtain ⟨b, _, hb⟩ := List.mem_flatMap.1 hu
  obtain ⟨x, _, rfl⟩ := List.mem_map.1 hb
  rfl

/-- a slice of blocks. -/
def Blocks (w : World) (A : Option Addr) (c : Nat) (own : Blks) : Prop := Sl w 8 A own.length c (blksW own)

theorem Blocks.below {w w' : World} {A : Option Addr} {c : Nat} {l : Blks} (h : Blocks w A c l) (hb : Below w.heap.size w w') : Blocks w' A c l := Sl.below h hb

/-- where a block lies in it. -/
theorem Blocks.range {w : World} {A : Option Addr} {c : Nat} {own : Blks} (h : Blocks w A c own) (h8 : ∀ b ∈ own, b.length = 8) {i : Nat} (hi : i < own.length) :
    ∃ b off, A = some ⟨b, off, none⟩ ∧ b < w.heap.size ∧ w.rangeAt b (off + i * 8) ((own[i]?.getD []).map (.int .i64)) := by
  obtain ⟨b, off, rfl, hb, hc⟩ := h.2.2.2 (by omega)
  refine ⟨b, off, rfl, hb, fun j v hv => ?_⟩
  have hl : (own[i]?.getD []).length = 8 := by
    rw [List.getElem?_eq_getElem hi]
    exact h8 _ (List.getElem_mem _)
  have hj : j < 8 := by
    rcases Nat.lt_or_ge j 8 with h1 | h1
    · exact h1
    · rw [List.getElem?_eq_none (by rw [List.length_map]; omega)] at hv; cases hv
  rw [Nat.add_assoc, hc (i * 8 + j) (by omega), blksW_at own h8 i hi j hj]
  rw [List.getElem?_map, List.getElem?_eq_getElem (by omega)] at hv
  simp only [Option.map_some, Option.some.injEq] at hv
  rw [← hv, List.getElem?_eq_getElem (by omega)]
  simp

end Go.Proofs.Ytldljohholgmoaa
