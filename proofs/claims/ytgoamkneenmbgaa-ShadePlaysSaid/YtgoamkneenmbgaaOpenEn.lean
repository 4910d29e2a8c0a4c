/-
  How an argument that is a list of entries reads as plain numbers. No conditions.
-/
import Derived.Test.YtgoamkneenmbgaaOpenBk
import Derived.Test.YtgoamkneenmbgaaAddr
import Derived.Deep.Slices
import Derived.Lib.SmallJoins
import Derived.Test.YtgoamkneenmbgaaEntM
namespace Go.Proofs.Ytgoamkneenmbgaa
open Go.RowKit Go.ChangeShapes Go.WideShapes Go.ChangeAt Go.Deep

section
variable {H : Type} {enc : TypeId × Value → H} {w : World} {base : Nat} {spare : Nat → Bool} {held : Bool}

theorem cEnt : Try.prog.cellsOf 34 = 9 := by kernel_rfl

theorem open_ent {fuel : Nat} {cs : List Value} {x : DataW H × List MemPlace} (h : DataW.trod enc Try.prog w base spare held fuel 34 cs = some x) :
    ∃ e : Ent, cs = (entI e).map (.int .i64) ∧ e.cells.length = 8 := by
  obtain ⟨y0, y1, n, hx, hl, h0, h1⟩ := trod_struct2 Try.underlying34 h
  rw [cEnt] at hl
  have h0' : DataW.trod enc Try.prog w base spare held n 32 ((cs.drop 0).take (Try.prog.cellsOf 32)) = some y0 := h0
  have h1' : DataW.trod enc Try.prog w base spare held n 3 ((cs.drop 8).take (Try.prog.cellsOf 3)) = some y1 := h1
  rw [cBlk, List.drop_zero] at h0'
  rw [cellsInt] at h1'
  obtain ⟨y, hy, h8, -⟩ := open_cells Try.underlying32 cBlk h0'
  obtain ⟨s, hs, _, _⟩ := DataW.trod_int Try.underlying3 h1'
  refine ⟨⟨y, s⟩, ?_, h8⟩
  have hd : (cs.drop 8).take 1 = cs.drop 8 := List.take_of_length_le (by simp; omega)
  rw [hd] at hs
  unfold entI
  rw [List.map_append, List.map_cons, List.map_nil, ← hy, ← hs, List.take_append_drop]

theorem open_ents {A : Option Addr} {n c : Nat} {d : DataW H} {p : List MemPlace} (h : DataW.Trod enc Try.prog w base spare held 22 (.slice A n c) d p) :
    ∃ l : List Ent, n = l.length ∧ Ents w A c l ∧ Eight l ∧ l.length ≤ 9223372036854775807 := by
  obtain ⟨fuel, hf⟩ := h
  rcases open_slice Try.underlying22 hf with ⟨hcs, _⟩ | ⟨a, len, cap, m, nf, D, Pl, hcs, _, hl, hm, hmm, _, hi⟩
  · simp [Value.cells] at hcs
    obtain ⟨rfl, rfl, rfl⟩ := hcs
    exact ⟨[], rfl, ⟨rfl, Nat.le_refl _, fun _ => ⟨rfl, rfl⟩, fun h => absurd h (by simp)⟩, (fun e he => by simp at he), by simp⟩
  · simp [Value.cells] at hcs
    obtain ⟨rfl, rfl, rfl⟩ := hcs
    have hlm : n ≤ m := by rw [hmm]; split <;> omega
    have key : ∀ i, i < n → ∃ y : Ent, y.cells.length = 8 ∧ ∀ j, j < 9 → w.cell? (a.add (i * 9 + j)) = some (.int .i64 ((entI y)[j]?.getD 0)) := by
      intro i hil
      obtain ⟨cs', hcs, ht⟩ := hi i (by omega)
      obtain ⟨y, rfl, h8⟩ := open_ent ht
      rw [cEnt] at hcs
      obtain ⟨_, _, hat⟩ := World.cells?_some hcs
      have h9 := entI_length h8
      refine ⟨y, h8, fun j hj => ?_⟩
      have h0 := hat j (by omega)
      rw [Go.Deep.add_add] at h0
      rw [h0]
      simp [show j < (entI y).length by omega]
    letI : Inhabited Ent := ⟨entZ⟩
    obtain ⟨f, hf⟩ := choose_lt key
    unfold maxLen at hm
    have h8 : Eight ((List.range n).map f) := fun b hb => by
      obtain ⟨i, hi, rfl⟩ := List.mem_map.1 hb
      exact (hf i (by simpa using hi)).1
    have hlen : ((List.range n).map f).length = n := by simp
    refine ⟨(List.range n).map f, hlen.symm, ?_, h8, by rw [hlen]; omega⟩
    unfold Ents
    rw [hlen]
    refine ⟨by rw [entsW_length h8, hlen], hl, (fun h => by cases h), fun hn => ?_⟩
    obtain ⟨b, off, rfl, hlt⟩ := addr_plain ((hf 0 hn).2 0 (by omega))
    refine ⟨b, off, rfl, hlt, fun j hj => ?_⟩
    have hat := (hf (j / 9) (by omega)).2 (j % 9) (by omega)
    have he := entsW_at h8 (i := j / 9) (by rw [hlen]; omega) (j := j % 9) (by omega)
    have hj9 : j / 9 * 9 + j % 9 = j := by omega
    rw [hj9] at hat he
    rw [Addr.add_lit] at hat
    rw [he, hat, List.getElem?_map, List.getElem?_range (by omega)]
    rfl

end
end Go.Proofs.Ytgoamkneenmbgaa
