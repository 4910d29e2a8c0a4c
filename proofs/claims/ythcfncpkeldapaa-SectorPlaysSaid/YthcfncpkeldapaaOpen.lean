/-
  How an argument that is a list of deeds, or a cut, reads as plain deeds, a plain cut. No conditions.
-/
import Derived.Test.YthcfncpkeldapaaActs
import Derived.ProofKit
import Derived.Deep.Slices
import Derived.OpenShut
namespace Go.Proofs.Ythcfncpkeldapaa
open Go.RowKit Go.ChangeShapes Go.WideShapes Go.Deep

section
variable {H : Type} {enc : TypeId × Value → H} {w : World} {base : Nat} {spare : Nat → Bool} {held : Bool}

theorem addr_plain {w : World} {a : Addr} {v : Value} (h : w.cell? (a.add 0) = some v) : ∃ b off, a = ⟨b, off, none⟩ ∧ b < w.heap.size := by
  have e : a.add 0 = a := rfl
  rw [e] at h
  obtain ⟨b, off, spot⟩ := a
  obtain rfl : spot = none := World.cell?_spot h
  refine ⟨b, off, rfl, ?_⟩
  rcases Nat.lt_or_ge b w.heap.size with hlt | hge
  · exact hlt
  · simp [World.cell?, Array.getElem?_eq_none hge] at h

theorem open_bools {fuel : Nat} {cs : List Value} {x : DataW H × List MemPlace} (h : DataW.trod enc Try.prog w base spare held fuel 33 cs = some x) :
    ∃ (S : Option Addr) (c : Nat) (stay : List Bool), cs = [.slice S stay.length c] ∧ Sl w 1 S stay.length c (stay.map Value.bool) ∧ stay.length ≤ 9223372036854775807 := by
  rcases open_slice Try.underlying33 h with ⟨rfl, _⟩ | ⟨a, len, cap, m, n, D, Pl, rfl, _, hl, hm, hmm, _, hi⟩
  · exact ⟨none, 0, [], rfl, Sl.nil _ _, by simp⟩
  · have hlm : len ≤ m := by rw [hmm]; split <;> omega
    have hc1 : Try.prog.cellsOf 4 = 1 := by kernel_rfl
    have key : ∀ i, i < len → ∃ b : Bool, w.cell? (a.add i) = some (.bool b) := by
      intro i hil
      obtain ⟨cs', hcs, ht⟩ := hi i (by omega)
      obtain ⟨b, rfl, _⟩ := DataW.trod_bool Try.underlying4 ht
      rw [hc1] at hcs
      obtain ⟨_, _, hat⟩ := World.cells?_some hcs
      have := hat 0 (by omega)
      rw [Nat.mul_one, Go.Deep.add_add, Nat.add_zero] at this
      exact ⟨b, this⟩
    obtain ⟨f, hf⟩ := choose_lt key
    unfold maxLen at hm
    refine ⟨some a, cap, (List.range len).map f, by simp, ⟨by simp, by simpa using hl, fun h => by simp at h, fun hn => ?_⟩, by simp; omega⟩
    simp only [List.length_map, List.length_range] at hn
    obtain ⟨b, off, rfl, hlt⟩ := addr_plain (hf 0 hn)
    refine ⟨b, off, rfl, hlt, fun j hj => ?_⟩
    simp only [List.length_map, List.length_range, Nat.mul_one] at hj
    have := hf j hj
    rw [Addr.add_lit] at this
    rw [this]
    simp [hj]

theorem open_cut {fuel : Nat} {cs : List Value} {x : DataW H × List MemPlace} (h : DataW.trod enc Try.prog w base spare held fuel 35 cs = some x) :
    ∃ (S : Option Addr) (c : Nat) (stay : List Bool) (torn bytes : Int), cs = [.slice S stay.length c, .int .i64 torn, .int .i64 bytes] ∧ Sl w 1 S stay.length c (stay.map Value.bool) ∧ stay.length ≤ 9223372036854775807 := by
  obtain ⟨xs, n, _, _, hlen, hxs, hf⟩ := DataW.trod_struct Try.underlying35 h
  have hc0 : Try.prog.cellsOf 35 = 3 := by kernel_rfl
  have hc1 : Try.prog.cellsOf 33 = 1 := by kernel_rfl
  have hc2 : Try.prog.cellsOf 3 = 1 := by kernel_rfl
  rw [hc0] at hlen
  match cs, hlen with
  | [c0, c1, c2], _ =>
    have g0 : DataW.trod enc Try.prog w base spare held n 33 (([c0, c1, c2].drop 0).take (Try.prog.cellsOf 33)) = xs[0]? := hf 0 _ rfl
    have g1 : DataW.trod enc Try.prog w base spare held n 3 (([c0, c1, c2].drop 1).take (Try.prog.cellsOf 3)) = xs[1]? := hf 1 _ rfl
    have g2 : DataW.trod enc Try.prog w base spare held n 3 (([c0, c1, c2].drop 2).take (Try.prog.cellsOf 3)) = xs[2]? := hf 2 _ rfl
    rw [hc1] at g0
    rw [hc2] at g1 g2
    match xs, (show xs.length = 3 from hxs) with
    | [y0, y1, y2], _ =>
      obtain ⟨S, c, stay, e0, hs, hl⟩ := open_bools (show DataW.trod enc Try.prog w base spare held n 33 [c0] = some y0 from g0)
      obtain ⟨t, e1, _, _⟩ := DataW.trod_int Try.underlying3 (show DataW.trod enc Try.prog w base spare held n 3 [c1] = some y1 from g1)
      obtain ⟨b, e2, _, _⟩ := DataW.trod_int Try.underlying3 (show DataW.trod enc Try.prog w base spare held n 3 [c2] = some y2 from g2)
      injection e0 with e0 _
      injection e1 with e1 _
      injection e2 with e2 _
      subst e0
      subst e1
      subst e2
      exact ⟨S, c, stay, t, b, rfl, hs, hl⟩

theorem open_act {fuel : Nat} {cs : List Value} {x : DataW H × List MemPlace} (h : DataW.trod enc Try.prog w base spare held fuel 37 cs = some x) :
    ∃ (S : Option Addr) (c : Nat) (y : ActD), cs = [.int .i64 y.kind, .int .i64 y.at_, .string y.data, .slice S y.stay.length c, .int .i64 y.torn, .int .i64 y.bytes] ∧ Sl w 1 S y.stay.length c (y.stay.map Value.bool) ∧
      y.at_ ≤ 9223372036854775807 ∧ y.data.size ≤ 9223372036854775807 ∧ y.stay.length ≤ 9223372036854775807 := by
  obtain ⟨xs, n, _, _, hlen, hxs, hf⟩ := DataW.trod_struct Try.underlying37 h
  have hc0 : Try.prog.cellsOf 37 = 6 := by kernel_rfl
  have hc1 : Try.prog.cellsOf 9 = 1 := by kernel_rfl
  have hc2 : Try.prog.cellsOf 3 = 1 := by kernel_rfl
  have hc3 : Try.prog.cellsOf 35 = 3 := by kernel_rfl
  rw [hc0] at hlen
  match cs, hlen with
  | [c0, c1, c2, c3, c4, c5], _ =>
    have g0 : DataW.trod enc Try.prog w base spare held n 3 (([c0, c1, c2, c3, c4, c5].drop 0).take (Try.prog.cellsOf 3)) = xs[0]? := hf 0 _ rfl
    have g1 : DataW.trod enc Try.prog w base spare held n 3 (([c0, c1, c2, c3, c4, c5].drop 1).take (Try.prog.cellsOf 3)) = xs[1]? := hf 1 _ rfl
    have g2 : DataW.trod enc Try.prog w base spare held n 9 (([c0, c1, c2, c3, c4, c5].drop 2).take (Try.prog.cellsOf 9)) = xs[2]? := hf 2 _ rfl
    have g3 : DataW.trod enc Try.prog w base spare held n 35 (([c0, c1, c2, c3, c4, c5].drop 3).take (Try.prog.cellsOf 35)) = xs[3]? := hf 3 _ rfl
    rw [hc2] at g0 g1
    rw [hc1] at g2
    rw [hc3] at g3
    match xs, (show xs.length = 4 from hxs) with
    | [y0, y1, y2, y3], _ =>
      obtain ⟨k, e0, _, _⟩ := DataW.trod_int Try.underlying3 (show DataW.trod enc Try.prog w base spare held n 3 [c0] = some y0 from g0)
      obtain ⟨a, e1, _, wa⟩ := DataW.trod_int Try.underlying3 (show DataW.trod enc Try.prog w base spare held n 3 [c1] = some y1 from g1)
      obtain ⟨s, e2, _, ws⟩ := DataW.trod_string Try.underlying9 (show DataW.trod enc Try.prog w base spare held n 9 [c2] = some y2 from g2)
      obtain ⟨S, c, stay, t, b, e3, hs, hl⟩ := open_cut (show DataW.trod enc Try.prog w base spare held n 35 [c3, c4, c5] = some y3 from g3)
      injection e0 with e0 _
      injection e1 with e1 _
      injection e2 with e2 _
      injection e3 with e3 e4
      injection e4 with e4 e5
      injection e5 with e5 _
      subst e0
      subst e1
      subst e2
      subst e3
      subst e4
      subst e5
      have hb := bounds_i64 wa
      unfold maxLen at ws
      exact ⟨S, c, ⟨k, a, s, stay, t, b⟩, rfl, hs, by simpa using hb.2, by simpa using ws, hl⟩

theorem open_acts {A : Option Addr} {n c : Nat} {d : DataW H} {p : List MemPlace} (h : DataW.Trod enc Try.prog w base spare held 22 (.slice A n c) d p) : ∃ l, IsActs w A n l := by
  obtain ⟨fuel, hf⟩ := h
  rcases open_slice Try.underlying22 hf with ⟨hcs, _⟩ | ⟨a, len, cap, m, nf, D, Pl, hcs, _, hl, hm, hmm, _, hi⟩
  · simp [Value.cells] at hcs
    obtain ⟨rfl, rfl, rfl⟩ := hcs
    exact ⟨[], rfl, by omega, fun h => absurd h (by omega)⟩
  · simp [Value.cells] at hcs
    obtain ⟨rfl, rfl, rfl⟩ := hcs
    have hlm : n ≤ m := by rw [hmm]; split <;> omega
    have hc0 : Try.prog.cellsOf 37 = 6 := by kernel_rfl
    have key : ∀ i, i < n → ∃ y : Option Addr × Nat × ActD, (∀ j, j < 6 → w.cell? (a.add (i * 6 + j)) = [Value.int .i64 y.2.2.kind, .int .i64 y.2.2.at_, .string y.2.2.data, .slice y.1 y.2.2.stay.length y.2.1, .int .i64 y.2.2.torn, .int .i64 y.2.2.bytes][j]?) ∧
        Sl w 1 y.1 y.2.2.stay.length y.2.1 (y.2.2.stay.map Value.bool) ∧ y.2.2.at_ ≤ 9223372036854775807 ∧ y.2.2.data.size ≤ 9223372036854775807 ∧ y.2.2.stay.length ≤ 9223372036854775807 := by
      intro i hil
      obtain ⟨cs', hcs, ht⟩ := hi i (by omega)
      obtain ⟨S, cc, y, rfl, h1, h2, h3, h4⟩ := open_act ht
      rw [hc0] at hcs
      obtain ⟨_, _, hat⟩ := World.cells?_some hcs
      refine ⟨(S, cc, y), fun j hj => ?_, h1, h2, h3, h4⟩
      have := hat j hj
      rwa [Go.Deep.add_add] at this
    have inh : Inhabited (Option Addr × Nat × ActD) := ⟨(none, 0, ⟨0, 0, ByteArray.empty, [], 0, 0⟩)⟩
    obtain ⟨f, hf⟩ := choose_lt key
    unfold maxLen at hm
    refine ⟨(List.range n).map fun i => (f i).2.2, by simp, by omega, fun hn => ?_⟩
    obtain ⟨b, off, rfl, hlt⟩ := addr_plain ((hf 0 hn).1 0 (by omega))
    refine ⟨b, off, rfl, hlt, fun i hi => ?_⟩
    have hin : i < n := by simpa using hi
    obtain ⟨g1, g2, g3, g4, g5⟩ := hf i hin
    simp only [List.getElem_map, List.getElem_range]
    have q : ∀ j, j < 6 → w.cell? ⟨b, off + i * 6 + j, none⟩ = [Value.int .i64 (f i).2.2.kind, .int .i64 (f i).2.2.at_, .string (f i).2.2.data, .slice (f i).1 (f i).2.2.stay.length (f i).2.1, .int .i64 (f i).2.2.torn, .int .i64 (f i).2.2.bytes][j]? := fun j hj => by
      have := g1 j hj
      rwa [Addr.add_lit, ← Nat.add_assoc] at this
    exact ⟨(f i).1, (f i).2.1, q 0 (by omega), q 1 (by omega), q 2 (by omega), q 3 (by omega), q 4 (by omega), q 5 (by omega), g2, g3, g4, g5⟩

end
end Go.Proofs.Ythcfncpkeldapaa
