/-
  How an argument that is a list of ints, or of pairs of ints, reads as plain numbers. No conditions.
-/
import Derived.Test.YtoolgbeiphdkdaaLayF
import Derived.Test.YtoolgbeiphdkdaaAddr
import Derived.ProofKit
import Derived.Deep.Slices
import Derived.OpenShut
namespace Go.Proofs.Ytoolgbeiphdkdaa
open Go.RowKit Go.ChangeShapes Go.WideShapes Go.Deep

section
variable {H : Type} {enc : TypeId × Value → H} {w : World} {base : Nat} {spare : Nat → Bool} {held : Bool}

def inI64 (x : Int) : Prop := -9223372036854775808 ≤ x ∧ x ≤ 9223372036854775807

theorem Ints.nil (w : World) : Ints w none 0 [] := ⟨rfl, Nat.le_refl _, fun _ => ⟨rfl, rfl⟩, fun h => absurd h (by simp)⟩

theorem open_ints1 {A : Option Addr} {n c : Nat} {d : DataW H} {p : List MemPlace} (h : DataW.Trod enc Try.prog w base spare held 22 (.slice A n c) d p) :
    ∃ l : List Int, n = l.length ∧ Ints w A c l ∧ l.length ≤ 9223372036854775807 ∧ ∀ x ∈ l, inI64 x := by
  obtain ⟨fuel, hf⟩ := h
  rcases open_slice Try.underlying22 hf with ⟨hcs, _⟩ | ⟨a, len, cap, m, nf, D, Pl, hcs, _, hl, hm, hmm, _, hi⟩
  · simp [Value.cells] at hcs
    obtain ⟨rfl, rfl, rfl⟩ := hcs
    exact ⟨[], rfl, Ints.nil w, by simp, by simp⟩
  · simp [Value.cells] at hcs
    obtain ⟨rfl, rfl, rfl⟩ := hcs
    have hlm : n ≤ m := by rw [hmm]; split <;> omega
    have hc1 : Try.prog.cellsOf 3 = 1 := by kernel_rfl
    have key : ∀ i, i < n → ∃ x : Int, w.cell? (a.add i) = some (.int .i64 x) ∧ inI64 x := by
      intro i hil
      obtain ⟨cs', hcs, ht⟩ := hi i (by omega)
      obtain ⟨x, rfl, _, wx⟩ := DataW.trod_int Try.underlying3 ht
      rw [hc1] at hcs
      obtain ⟨_, _, hat⟩ := World.cells?_some hcs
      have := hat 0 (by omega)
      rw [Nat.mul_one, Go.Deep.add_add, Nat.add_zero] at this
      exact ⟨x, this, bounds_i64 wx⟩
    obtain ⟨f, hf⟩ := choose_lt key
    unfold maxLen at hm
    refine ⟨(List.range n).map f, by simp, ⟨by simp, by simpa using hl, fun h => by simp at h, fun hn => ?_⟩, by simp; omega, fun x hx => ?_⟩
    · simp only [List.length_map, List.length_range] at hn
      obtain ⟨b, off, rfl, hlt⟩ := addr_plain (hf 0 hn).1
      refine ⟨b, off, rfl, hlt, fun j hj => ?_⟩
      simp only [List.length_map, List.length_range, Nat.mul_one] at hj
      have := (hf j hj).1
      rw [Addr.add_lit] at this
      rw [this]
      simp [hj]
    · obtain ⟨i, hi, rfl⟩ := List.mem_map.1 hx
      exact (hf i (by simpa using hi)).2

/-- a slice of pairs. -/
def Pairs (w : World) (A : Option Addr) (c : Nat) (l : List (Int × Int)) : Prop :=
  l.length ≤ c ∧ (0 < l.length → ∃ b off, A = some ⟨b, off, none⟩ ∧ b < w.heap.size ∧
    ∀ i, i < l.length → w.cell? ⟨b, off + i * 2, none⟩ = some (.int .i64 (l[i]?.getD (0, 0)).1) ∧ w.cell? ⟨b, off + i * 2 + 1, none⟩ = some (.int .i64 (l[i]?.getD (0, 0)).2))

theorem open_pair {fuel : Nat} {cs : List Value} {x : DataW H × List MemPlace} (h : DataW.trod enc Try.prog w base spare held fuel 33 cs = some x) :
    ∃ y : Int × Int, cs = [.int .i64 y.1, .int .i64 y.2] := by
  obtain ⟨xs, m, _, _, hlen, hxs, hf⟩ := DataW.trod_array Try.underlying33 h
  have hc0 : Try.prog.cellsOf 33 = 2 := by kernel_rfl
  have hc1 : Try.prog.cellsOf 3 = 1 := by kernel_rfl
  rw [hc0] at hlen
  rw [hc1] at hf
  match cs, hlen with
  | [c0, c1], _ =>
    have g0 := hf 0 (by omega)
    have g1 := hf 1 (by omega)
    match xs, (show xs.length = 2 from hxs) with
    | [y0, y1], _ =>
      obtain ⟨a, e0, _, _⟩ := DataW.trod_int Try.underlying3 (show DataW.trod enc Try.prog w base spare held m 3 [c0] = some y0 from g0)
      obtain ⟨b, e1, _, _⟩ := DataW.trod_int Try.underlying3 (show DataW.trod enc Try.prog w base spare held m 3 [c1] = some y1 from g1)
      injection e0 with e0 _
      injection e1 with e1 _
      subst e0
      subst e1
      exact ⟨(a, b), rfl⟩

theorem open_pairs {A : Option Addr} {n c : Nat} {d : DataW H} {p : List MemPlace} (h : DataW.Trod enc Try.prog w base spare held 27 (.slice A n c) d p) :
    ∃ l : List (Int × Int), n = l.length ∧ Pairs w A c l ∧ l.length ≤ 9223372036854775807 := by
  obtain ⟨fuel, hf⟩ := h
  rcases open_slice Try.underlying27 hf with ⟨hcs, _⟩ | ⟨a, len, cap, m, nf, D, Pl, hcs, _, hl, hm, hmm, _, hi⟩
  · simp [Value.cells] at hcs
    obtain ⟨rfl, rfl, rfl⟩ := hcs
    exact ⟨[], rfl, ⟨Nat.le_refl _, fun h => absurd h (by simp)⟩, by simp⟩
  · simp [Value.cells] at hcs
    obtain ⟨rfl, rfl, rfl⟩ := hcs
    have hlm : n ≤ m := by rw [hmm]; split <;> omega
    have hc1 : Try.prog.cellsOf 33 = 2 := by kernel_rfl
    have key : ∀ i, i < n → ∃ y : Int × Int, w.cell? (a.add (i * 2)) = some (.int .i64 y.1) ∧ w.cell? (a.add (i * 2 + 1)) = some (.int .i64 y.2) := by
      intro i hil
      obtain ⟨cs', hcs, ht⟩ := hi i (by omega)
      obtain ⟨y, rfl⟩ := open_pair ht
      rw [hc1] at hcs
      obtain ⟨_, _, hat⟩ := World.cells?_some hcs
      have h0 := hat 0 (by omega)
      have h1 := hat 1 (by omega)
      rw [Go.Deep.add_add] at h0 h1
      exact ⟨y, h0, h1⟩
    obtain ⟨f, hf⟩ := choose_lt key
    unfold maxLen at hm
    refine ⟨(List.range n).map f, by simp, ⟨by simpa using hl, fun hn => ?_⟩, by simp; omega⟩
    simp only [List.length_map, List.length_range] at hn
    obtain ⟨b, off, rfl, hlt⟩ := addr_plain (by simpa using (hf 0 hn).1)
    refine ⟨b, off, rfl, hlt, fun i hi => ?_⟩
    have hin : i < n := by simpa using hi
    obtain ⟨h0, h1⟩ := hf i hin
    rw [Addr.add_lit] at h0 h1
    simp [hin, h0, ← Nat.add_assoc] at h1 ⊢
    exact h1

end
end Go.Proofs.Ytoolgbeiphdkdaa
