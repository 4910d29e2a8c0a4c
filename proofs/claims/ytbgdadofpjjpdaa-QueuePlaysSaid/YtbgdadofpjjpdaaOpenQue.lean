/-
  How arguments that are lists of those who wait, or of deeds, read as plain data. No conditions.
-/
import Derived.Test.YtbgdadofpjjpdaaActQ
import Derived.Test.YtbgdadofpjjpdaaRecO
import Derived.ProofKit
import Derived.Deep.Slices
import Derived.Deep.Strs
import Derived.OpenShut
namespace Go.Proofs.Ytbgdadofpjjpdaa
open Go.RowKit Go.ChangeShapes Go.WideShapes Go.Deep

section
variable {H : Type} {enc : TypeId × Value → H} {w : World} {base : Nat} {spare : Nat → Bool} {held : Bool}

theorem three_ofQ {α : Type} : ∀ {l : List α}, l.length = 3 → ∃ a b c, l = [a, b, c]
  | [a, b, c], _ => ⟨a, b, c, rfl⟩
theorem cIntQ : Try.prog.cellsOf 3 = 1 := by kernel_rfl
theorem cBoolQ : Try.prog.cellsOf 4 = 1 := by kernel_rfl
theorem cWntQ : Try.prog.cellsOf 33 = 3 := by kernel_rfl
theorem cActQ : Try.prog.cellsOf 26 = 3 := by kernel_rfl

theorem open_wnt {fuel : Nat} {cs : List Value} {x : DataW H × List MemPlace} (h : DataW.trod enc Try.prog w base spare held fuel 33 cs = some x) : ∃ y : Wnt, cs = wnC y := by
  obtain ⟨y0, y1, y2, n, hx, hl, h0, h1, h2⟩ := trod_struct3 Try.underlying33 h
  rw [cWntQ] at hl
  obtain ⟨c0, c1, c2, rfl⟩ := three_ofQ hl
  have h0' : DataW.trod enc Try.prog w base spare held n 3 (([c0, c1, c2].drop 0).take (Try.prog.cellsOf 3)) = some y0 := h0
  have h1' : DataW.trod enc Try.prog w base spare held n 4 (([c0, c1, c2].drop 1).take (Try.prog.cellsOf 4)) = some y1 := h1
  have h2' : DataW.trod enc Try.prog w base spare held n 4 (([c0, c1, c2].drop 2).take (Try.prog.cellsOf 4)) = some y2 := h2
  rw [cIntQ] at h0'
  rw [cBoolQ] at h1' h2'
  simp only [List.drop_zero, List.drop_succ_cons, List.take_succ_cons, List.take_zero] at h0' h1' h2'
  obtain ⟨a, e0, _, w0⟩ := DataW.trod_int Try.underlying3 h0'
  obtain ⟨b, e1, _⟩ := DataW.trod_bool Try.underlying4 h1'
  obtain ⟨d, e2, _⟩ := DataW.trod_bool Try.underlying4 h2'
  injection e0 with e0 _
  injection e1 with e1 _
  injection e2 with e2 _
  subst e0
  subst e1
  subst e2
  exact ⟨⟨a, b, d⟩, rfl⟩

theorem open_actq {fuel : Nat} {cs : List Value} {x : DataW H × List MemPlace} (h : DataW.trod enc Try.prog w base spare held fuel 26 cs = some x) : ∃ y : ActQ, cs = aqC y := by
  obtain ⟨y0, y1, y2, n, hx, hl, h0, h1, h2⟩ := trod_struct3 Try.underlying26 h
  rw [cActQ] at hl
  obtain ⟨c0, c1, c2, rfl⟩ := three_ofQ hl
  have h0' : DataW.trod enc Try.prog w base spare held n 4 (([c0, c1, c2].drop 0).take (Try.prog.cellsOf 4)) = some y0 := h0
  have h1' : DataW.trod enc Try.prog w base spare held n 4 (([c0, c1, c2].drop 1).take (Try.prog.cellsOf 4)) = some y1 := h1
  have h2' : DataW.trod enc Try.prog w base spare held n 3 (([c0, c1, c2].drop 2).take (Try.prog.cellsOf 3)) = some y2 := h2
  rw [cIntQ] at h2'
  rw [cBoolQ] at h0' h1'
  simp only [List.drop_zero, List.drop_succ_cons, List.take_succ_cons, List.take_zero] at h0' h1' h2'
  obtain ⟨a, e0, _⟩ := DataW.trod_bool Try.underlying4 h0'
  obtain ⟨b, e1, _⟩ := DataW.trod_bool Try.underlying4 h1'
  obtain ⟨d, e2, _, w2⟩ := DataW.trod_int Try.underlying3 h2'
  injection e0 with e0 _
  injection e1 with e1 _
  injection e2 with e2 _
  subst e0
  subst e1
  subst e2
  exact ⟨⟨a, b, d⟩, rfl⟩

theorem open_wnts {A : Option Addr} {n c : Nat} {d : DataW H} {p : List MemPlace} (h : DataW.Trod enc Try.prog w base spare held 22 (.slice A n c) d p) :
    ∃ l : List Wnt, n = l.length ∧ Wnts w A c l := by
  obtain ⟨fuel, hf⟩ := h
  rcases open_slice Try.underlying22 hf with ⟨hcs, _⟩ | ⟨a, len, cap, m, nf, D, Pl, hcs, _, hl, hm, hmm, _, hi⟩
  · simp [Value.cells] at hcs
    obtain ⟨rfl, rfl, rfl⟩ := hcs
    exact ⟨[], rfl, Wnts.nil w⟩
  · simp [Value.cells] at hcs
    obtain ⟨rfl, rfl, rfl⟩ := hcs
    have hlm : n ≤ m := by rw [hmm]; split <;> omega
    have key : ∀ i, i < n → ∃ y : Wnt, ∀ j, j < 3 → w.cell? (a.add (i * 3 + j)) = (wnC y)[j]? := by
      intro i hil
      obtain ⟨cs', hcs, ht⟩ := hi i (by omega)
      obtain ⟨y, rfl⟩ := open_wnt ht
      rw [cWntQ] at hcs
      obtain ⟨_, _, hat⟩ := World.cells?_some hcs
      refine ⟨y, fun j hj => ?_⟩
      have h0 := hat j (by omega)
      rw [Go.Deep.add_add] at h0
      rw [h0, List.getElem?_eq_getElem (by rw [wnC_length]; exact hj)]
    obtain ⟨f, hf⟩ := choose_lt key
    refine ⟨(List.range n).map f, by simp, ?_⟩
    have := sl_recs wnC_length (by decide) f hl hf
    unfold Wnts
    rw [List.length_map, List.length_range]
    exact this

theorem open_actsq {A : Option Addr} {n c : Nat} {d : DataW H} {p : List MemPlace} (h : DataW.Trod enc Try.prog w base spare held 23 (.slice A n c) d p) :
    ∃ l : List ActQ, n = l.length ∧ Acts14 w A c l := by
  obtain ⟨fuel, hf⟩ := h
  rcases open_slice Try.underlying23 hf with ⟨hcs, _⟩ | ⟨a, len, cap, m, nf, D, Pl, hcs, _, hl, hm, hmm, _, hi⟩
  · simp [Value.cells] at hcs
    obtain ⟨rfl, rfl, rfl⟩ := hcs
    exact ⟨[], rfl, rfl, Nat.le_refl _, fun _ => ⟨rfl, rfl⟩, fun h => absurd h (by simp)⟩
  · simp [Value.cells] at hcs
    obtain ⟨rfl, rfl, rfl⟩ := hcs
    have hlm : n ≤ m := by rw [hmm]; split <;> omega
    have key : ∀ i, i < n → ∃ y : ActQ, ∀ j, j < 3 → w.cell? (a.add (i * 3 + j)) = (aqC y)[j]? := by
      intro i hil
      obtain ⟨cs', hcs, ht⟩ := hi i (by omega)
      obtain ⟨y, rfl⟩ := open_actq ht
      rw [cActQ] at hcs
      obtain ⟨_, _, hat⟩ := World.cells?_some hcs
      refine ⟨y, fun j hj => ?_⟩
      have h0 := hat j (by omega)
      rw [Go.Deep.add_add] at h0
      rw [h0, List.getElem?_eq_getElem (by rw [aqC_length]; exact hj)]
    obtain ⟨f, hf⟩ := choose_lt key
    refine ⟨(List.range n).map f, by simp, ?_⟩
    have := sl_recs aqC_length (by decide) f hl hf
    unfold Acts14
    rw [List.length_map, List.length_range]
    exact this

end
end Go.Proofs.Ytbgdadofpjjpdaa
