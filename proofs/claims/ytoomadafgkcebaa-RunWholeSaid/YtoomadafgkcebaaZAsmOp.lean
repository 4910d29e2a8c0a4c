/-
  How an argument that is a list of instructions reads as plain numbers. No conditions.
-/
import Derived.Test.YtoomadafgkcebaaZAsmW
import Derived.Test.YtoomadafgkcebaaZAddr
import Derived.ProofKit
import Derived.Deep.Slices
import Derived.Deep.Strs
import Derived.OpenShut
namespace Go.Proofs.Ytoomadafgkcebaa
open Go.RowKit Go.ChangeShapes Go.WideShapes Go.Deep

section
variable {H : Type} {enc : TypeId × Value → H} {w : World} {base : Nat} {spare : Nat → Bool} {held : Bool}

instance : Inhabited Ins := ⟨⟨0, 0, 0⟩⟩

theorem three_of {α : Type} : ∀ {l : List α}, l.length = 3 → ∃ a b c, l = [a, b, c]
  | [a, b, c], _ => ⟨a, b, c, rfl⟩

theorem cIntO : Try.prog.cellsOf 3 = 1 := by kernel_rfl
theorem cIns : Try.prog.cellsOf 45 = 3 := by kernel_rfl

theorem open_ins {fuel : Nat} {cs : List Value} {x : DataW H × List MemPlace} (h : DataW.trod enc Try.prog w base spare held fuel 45 cs = some x) :
    ∃ y : Ins, cs = insW y ∧ inI y := by
  obtain ⟨y0, y1, y2, n, hx, hl, h0, h1, h2⟩ := trod_struct3 Try.underlying45 h
  rw [cIns] at hl
  obtain ⟨c0, c1, c2, rfl⟩ := three_of hl
  have h0' : DataW.trod enc Try.prog w base spare held n 3 (([c0, c1, c2].drop 0).take (Try.prog.cellsOf 3)) = some y0 := h0
  have h1' : DataW.trod enc Try.prog w base spare held n 3 (([c0, c1, c2].drop 1).take (Try.prog.cellsOf 3)) = some y1 := h1
  have h2' : DataW.trod enc Try.prog w base spare held n 3 (([c0, c1, c2].drop 2).take (Try.prog.cellsOf 3)) = some y2 := h2
  rw [cIntO] at h0' h1' h2'
  simp only [List.drop_zero, List.drop_succ_cons, List.take_succ_cons, List.take_zero] at h0' h1' h2'
  obtain ⟨a, e0, _, w0⟩ := DataW.trod_int Try.underlying3 h0'
  obtain ⟨b, e1, _, w1⟩ := DataW.trod_int Try.underlying3 h1'
  obtain ⟨d, e2, _, w2⟩ := DataW.trod_int Try.underlying3 h2'
  injection e0 with e0 _
  injection e1 with e1 _
  injection e2 with e2 _
  subst e0
  subst e1
  subst e2
  exact ⟨⟨a, b, d⟩, rfl, bounds_i64 w1, bounds_i64 w2⟩

theorem inss_of {a : Addr} {n c : Nat} (f : Nat → Ins) (hl : n ≤ c) (h : ∀ i, i < n → w.cell? (a.add (i * 3)) = some (.int .i64 (f i).op) ∧ w.cell? (a.add (i * 3 + 1)) = some (.int .i64 (f i).a) ∧ w.cell? (a.add (i * 3 + 2)) = some (.int .i64 (f i).b)) :
    Inss w (some a) c ((List.range n).map f) := by
  have hlen : ((List.range n).map f).length = n := by simp
  have hsz : ∀ l : List Ins, (inssW l).length = l.length * 3 := fun l => by
    induction l with
    | nil => rfl
    | cons x l ih => rw [inssW, List.flatMap_cons, List.length_append, List.length_cons]; rw [inssW] at ih; rw [ih]; simp [insW]; omega
  refine ⟨by rw [hsz], by rw [hlen]; exact hl, fun h => (by cases h), fun hn => ?_⟩
  rw [hlen] at hn
  obtain ⟨b, off, rfl, hlt⟩ := addr_plain (by simpa using (h 0 hn).1)
  refine ⟨b, off, rfl, hlt, fun j hj => ?_⟩
  rw [hlen] at hj
  obtain ⟨g0, g1, g2⟩ := h (j / 3) (by omega)
  rw [Addr.add_lit] at g0 g1 g2
  obtain ⟨e0, e1, e2⟩ := inssW_at ((List.range n).map f) (j / 3) (by rw [hlen]; omega)
  have hin : insAt ((List.range n).map f) (j / 3) = f (j / 3) := by
    unfold insAt
    rw [List.getElem?_map, List.getElem?_range (by omega)]
    rfl
  rw [hin] at e0 e1 e2
  rcases (show j = j / 3 * 3 ∨ j = j / 3 * 3 + 1 ∨ j = j / 3 * 3 + 2 by omega) with e | e | e
  · rw [e, e0, g0]
  · rw [e, e1, g1]
  · rw [e, e2, g2]

theorem open_inss {A : Option Addr} {n c : Nat} {d : DataW H} {p : List MemPlace} (h : DataW.Trod enc Try.prog w base spare held 23 (.slice A n c) d p) :
    ∃ l : List Ins, n = l.length ∧ Inss w A c l ∧ l.length ≤ 9223372036854775807 ∧ ∀ x ∈ l, inI x := by
  obtain ⟨fuel, hf⟩ := h
  rcases open_slice Try.underlying23 hf with ⟨hcs, _⟩ | ⟨a, len, cap, m, nf, D, Pl, hcs, _, hl, hm, hmm, _, hi⟩
  · simp [Value.cells] at hcs
    obtain ⟨rfl, rfl, rfl⟩ := hcs
    exact ⟨[], rfl, Inss.nil w, by simp, by simp⟩
  · simp [Value.cells] at hcs
    obtain ⟨rfl, rfl, rfl⟩ := hcs
    have hlm : n ≤ m := by rw [hmm]; split <;> omega
    have key : ∀ i, i < n → ∃ y : Ins, w.cell? (a.add (i * 3)) = some (.int .i64 y.op) ∧ w.cell? (a.add (i * 3 + 1)) = some (.int .i64 y.a) ∧ (w.cell? (a.add (i * 3 + 2)) = some (.int .i64 y.b)) ∧ inI y := by
      intro i hil
      obtain ⟨cs', hcs, ht⟩ := hi i (by omega)
      obtain ⟨y, rfl, hy⟩ := open_ins ht
      rw [cIns] at hcs
      obtain ⟨_, _, hat⟩ := World.cells?_some hcs
      have h0 := hat 0 (by omega)
      have h1 := hat 1 (by omega)
      have h2 := hat 2 (by omega)
      rw [Go.Deep.add_add] at h0 h1 h2
      exact ⟨y, h0, h1, h2, hy⟩
    obtain ⟨f, hf⟩ := choose_lt key
    unfold maxLen at hm
    refine ⟨(List.range n).map f, by simp, inss_of f hl (fun i hi => ⟨(hf i hi).1, (hf i hi).2.1, (hf i hi).2.2.1⟩), by simp; omega, fun x hx => ?_⟩
    obtain ⟨i, hi, rfl⟩ := List.mem_map.1 hx
    exact (hf i (by simpa using hi)).2.2.2

end
end Go.Proofs.Ytoomadafgkcebaa
