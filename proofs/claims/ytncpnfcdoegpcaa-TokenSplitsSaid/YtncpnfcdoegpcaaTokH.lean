/-
  A slice of tokens in memory; what the reference's Same of two of them answers, in whatever memory, where they are the same: true; for lists of at most 2^40.
-/
import Derived.Test.YtncpnfcdoegpcaaTokG
namespace Go.Proofs.Ytncpnfcdoegpcaa
open Go.RowKit

theorem toksV_length (l : List Tok) : (toksV l).length = l.length * 3 := by
  induction l with
  | nil => rfl
  | cons t l ih => simp only [toksV, List.flatMap_cons, List.length_append, tokV, List.length_cons, List.length_nil] at ih ⊢; omega

theorem toksV_at : ∀ (l : List Tok) (j : Nat) (t : Tok), l[j]? = some t → (toksV l)[j * 3]? = some (.int .i64 (t.kind : Nat)) ∧ (toksV l)[j * 3 + 1]? = some (.string (strL t.word)) ∧ (toksV l)[j * 3 + 2]? = some (.int .i64 t.n)
  | [], j, t, h => by simp at h
  | u :: l, 0, t, h => by
    simp at h
    subst h
    exact ⟨rfl, rfl, rfl⟩
  | u :: l, j + 1, t, h => by
    have ih := toksV_at l j t (by simpa using h)
    have e : ∀ k, (toksV (u :: l))[(j + 1) * 3 + k]? = (toksV l)[j * 3 + k]? := fun k => by
      rw [show (j + 1) * 3 + k = (j * 3 + k) + 3 by omega]
      rfl
    exact ⟨(e 0).trans ih.1, (e 1).trans ih.2.1, (e 2).trans ih.2.2⟩

/-- a slice of tokens. -/
def Toks (w : World) (A : Option Addr) (c : Nat) (l : List Tok) : Prop := Sl w 3 A l.length c (toksV l)

theorem Toks.cellAt {w : World} {A : Option Addr} {c : Nat} {l : List Tok} (h : Toks w A c l) {j : Nat} {t : Tok} (ht : l[j]? = some t) :
    ∃ b off, A = some ⟨b, off, none⟩ ∧ b < w.heap.size ∧ w.cell? ⟨b, off + j * 3, none⟩ = some (.int .i64 (t.kind : Nat)) ∧ w.cell? ⟨b, off + j * 3 + 1, none⟩ = some (.string (strL t.word)) ∧ w.cell? ⟨b, off + j * 3 + 2, none⟩ = some (.int .i64 t.n) := by
  have hj : j < l.length := by
    rcases Nat.lt_or_ge j l.length with hlt | hge
    · exact hlt
    · rw [List.getElem?_eq_none hge] at ht; cases ht
  obtain ⟨b, off, rfl, hb, hc⟩ := h.2.2.2 (by omega)
  obtain ⟨e0, e1, e2⟩ := toksV_at l j t ht
  refine ⟨b, off, rfl, hb, ?_, ?_, ?_⟩
  · rw [hc (j * 3) (by omega), e0]
  · rw [Nat.add_assoc, hc (j * 3 + 1) (by omega), e1]
  · rw [Nat.add_assoc, hc (j * 3 + 2) (by omega), e2]

theorem Toks.own {w : World} {B : Nat} {v : Value} {l : List Tok} (h : w.ownsRow B 31 3 v l.length (toksV l)) : ∃ A c, v = .slice A l.length c ∧ Toks w A c l := Sl.own h

theorem at_of_lt {l : List Tok} {j : Nat} (h : j < l.length) : ∃ t, l[j]? = some t := ⟨l[j], List.getElem?_eq_getElem h⟩

set_option maxHeartbeats 2000000 in
theorem sameT (l : List Tok) (A : Option Addr) (c : Nat) (B : Option Addr) (d : Nat) (w : World) (h1 : Toks w A c l) (h2 : Toks w B d l) (hn : l.length ≤ 1099511627776) :
    Calls Try.prog 10 #[.slice A l.length c, .slice B l.length d] w
      fun e w' => e = .returned (.bool true) ∧ Below w.heap.size w w' := by
  have hcl : Hid (∀ i, i < l.length → ∃ k s n b off b2 off2, A = some ⟨b, off, none⟩ ∧ b < w.heap.size ∧ w.cell? ⟨b, off + i * 3, none⟩ = some (.int .i64 k) ∧ w.cell? ⟨b, off + i * 3 + 1, none⟩ = some (.string s) ∧ w.cell? ⟨b, off + i * 3 + 2, none⟩ = some (.int .i64 n)
      ∧ B = some ⟨b2, off2, none⟩ ∧ b2 < w.heap.size ∧ w.cell? ⟨b2, off2 + i * 3, none⟩ = some (.int .i64 k) ∧ w.cell? ⟨b2, off2 + i * 3 + 1, none⟩ = some (.string s) ∧ w.cell? ⟨b2, off2 + i * 3 + 2, none⟩ = some (.int .i64 n)) := Lib.hid fun i h => by
    obtain ⟨t, ht⟩ := at_of_lt h
    obtain ⟨b, off, a0, a1, a2, a3, a4⟩ := h1.cellAt ht
    obtain ⟨b2, off2, b0, b1, b2', b3, b4⟩ := h2.cellAt ht
    exact ⟨_, _, _, b, off, b2, off2, a0, a1, a2, a3, a4, b0, b1, b2', b3, b4⟩
  have hle := h1.2.1
  have hle2 := h2.2.1
  clear h1 h2
  generalize l.length = N at *
  go_enter Try.func10, Try.ntmps10
  go_wp2
  go_loopw [5] (fun cc wr => ∃ i k : Nat, i ≤ N ∧ cc = .int .i64 i ∧ wr = w.drewN k) (fun cc _ => N - (intOf cc).toNat)
  case atStart => exact ⟨0, 0, Nat.zero_le _, rfl, rfl⟩
  case round =>
    obtain ⟨i, k, hi, rfl, rfl⟩ := hrel
    by_cases hlt : i < N
    · obtain ⟨kd, s, n, b, off, b2, off2, rfl, hbl, x0, x1, x2, rfl, hbl2, y0, y1, y2⟩ := hcl.out i hlt
      have d0 : (i : Int) < (N : Int) := by omega
      have d1 : (i : Int) < (c : Int) := by omega
      have d2 : (i : Int) < (d : Int) := by omega
      clear hcl
      go_wp2
      go_quiet (fail)
      go_wp2
      go_roundw
      case rel => exact ⟨i + 1, _, by omega, by go_num, rfl⟩
      case measure => simp [intOf]; omega
    · go_wp2
      go_ret
      exact ⟨rfl, below_drewN (Below.refl _ _) _⟩

end Go.Proofs.Ytncpnfcdoegpcaa
