/-
  A slice of tokens in memory; words of a text are no longer than it. No conditions but those that stand there.
-/
import Derived.Test.YtjbhhlhaikmecaaDoorTokG
import Derived.Lib.Strings
namespace Go.Proofs.YtjbhhlhaikmecaaDoor
open Go.RowKit

theorem toksV_length (l : List Tok) : (toksV l).length = l.length * 3 := by
  induction l with
  | nil => rfl
  | cons t l ih => simp only [toksV, List.flatMap_cons, List.length_append, tokV, List.length_cons, List.length_nil] at ih ⊢; omega

theorem toksV_at : ∀ (l : List Tok) (j : Nat) (t : Tok), l[j]? = some t → (toksV l)[j * 3]? = some (.int .i64 (t.kind : Nat)) ∧ (toksV l)[j * 3 + 1]? = some (.string (strL t.word)) ∧ (toksV l)[j * 3 + 2]? = some (.int .i64 t.n)
  | [], j, t, h => by simp at h
  | u :: l, 0, t, h => by
    simp at h
    subst h
    exact ⟨rfl, rfl, rfl⟩
  | u :: l, j + 1, t, h => by
    have ih := toksV_at l j t (by simpa using h)
    have e : ∀ k, (toksV (u :: l))[(j + 1) * 3 + k]? = (toksV l)[j * 3 + k]? := fun k => by
      rw [show (j + 1) * 3 + k = (j * 3 + k) + 3 by omega]
      rfl
    exact ⟨(e 0).trans ih.1, (e 1).trans ih.2.1, (e 2).trans ih.2.2⟩

/-- a slice of tokens. -/
def Toks (w : World) (A : Option Addr) (c : Nat) (l : List Tok) : Prop := Sl w 3 A l.length c (toksV l)

theorem Toks.cellAt {w : World} {A : Option Addr} {c : Nat} {l : List Tok} (h : Toks w A c l) {j : Nat} {t : Tok} (ht : l[j]? = some t) :
    ∃ b off, A = some ⟨b, off, none⟩ ∧ b < w.heap.size ∧ w.cell? ⟨b, off + j * 3, none⟩ = some (.int .i64 (t.kind : Nat)) ∧ w.cell? ⟨b, off + j * 3 + 1, none⟩ = some (.string (strL t.word)) ∧ w.cell? ⟨b, off + j * 3 + 2, none⟩ = some (.int .i64 t.n) := by
  have hj : j < l.length := by
    rcases Nat.lt_or_ge j l.length with hlt | hge
    · exact hlt
    · rw [List.getElem?_eq_none hge] at ht; cases ht
  obtain ⟨b, off, rfl, hb, hc⟩ := h.2.2.2 (by omega)
  obtain ⟨e0, e1, e2⟩ := toksV_at l j t ht
  refine ⟨b, off, rfl, hb, ?_, ?_, ?_⟩
  · rw [hc (j * 3) (by omega), e0]
  · rw [Nat.add_assoc, hc (j * 3 + 1) (by omega), e1]
  · rw [Nat.add_assoc, hc (j * 3 + 2) (by omega), e2]

theorem Toks.own {w : World} {B : Nat} {v : Value} {l : List Tok} (h : w.ownsRow B 48 3 v l.length (toksV l)) : ∃ A c, v = .slice A l.length c ∧ Toks w A c l := Sl.own h

theorem at_of_lt {l : List Tok} {j : Nat} (h : j < l.length) : ∃ t, l[j]? = some t := ⟨l[j], List.getElem?_eq_getElem h⟩

theorem toksV_one (l : List Tok) : ∀ u ∈ toksV l, u.oneCell' = true := by
  intro u hu
  obtain ⟨t, _, ht⟩ := List.mem_flatMap.1 hu
  simp only [tokV, List.mem_cons, List.not_mem_nil, or_false] at ht
  rcases ht with rfl | rfl | rfl <;> rfl

theorem Toks.below {w w' : World} {A : Option Addr} {c : Nat} {l : List Tok} (h : Toks w A c l) (hb : Below w.heap.size w w') : Toks w' A c l := Sl.below h hb
theorem toksV_append (l m : List Tok) : toksV (l ++ m) = toksV l ++ toksV m := by simp [toksV]
theorem Toks.nil (w : World) : Toks w none 0 [] := ⟨rfl, Nat.le_refl _, fun _ => ⟨rfl, rfl⟩, fun h => absurd h (by simp)⟩

theorem letter_at {wd : List Nat} (h : ∀ c ∈ wd, isLetter c) {k : Nat} (hk : k < (strL wd).size) : 97 ≤ ((strL wd)[k]'hk).toNat ∧ ((strL wd)[k]'hk).toNat ≤ 122 := by
  have h1 := bL_get (strL wd) k hk
  rw [bL_strL wd (fun b hb => by have := h b hb; unfold isLetter at this; omega)] at h1
  exact h _ (List.mem_of_getElem? h1)

theorem toList_no {s : ByteArray} (h : 0 < s.size) : s.toList.isEmpty = false := by
  cases hq : s.toList.isEmpty with
  | false => rfl
  | true =>
    rw [Lib.toList_data] at hq
    rw [List.isEmpty_iff] at hq
    have := congrArg List.length hq
    rw [Array.length_toList] at this
    have h' : 0 < s.data.size := h
    simp only [List.length_nil] at this
    omega

/-! ### no word is longer than the text -/
def wordsLe (N : Nat) (x : List Tok × TS) : Prop := (∀ t ∈ x.1, t.word.length ≤ N) ∧ wordLen x.2 ≤ N

theorem snocLe {N : Nat} {out : List Tok} {t : Tok} (h : ∀ t ∈ out, t.word.length ≤ N) (ht : t.word.length ≤ N) : ∀ u ∈ out ++ [t], u.word.length ≤ N := by
  intro u hu
  rcases List.mem_append.1 hu with hu | hu
  · exact h u hu
  · rw [List.mem_singleton.1 hu]; exact ht

theorem gapS_out (out : List Tok) (c : Nat) : (gapS out c).1 = out := by
  unfold gapS
  repeat' split
  all_goals rfl

theorem gapS_le {N : Nat} {out : List Tok} (h : ∀ t ∈ out, t.word.length ≤ N) (c : Nat) : wordsLe (N + 1) (gapS out c) :=
  ⟨by rw [gapS_out]; intro t ht; have := h t ht; omega, by have := (gapS_len out c).2; omega⟩

theorem step_le {N : Nat} {x : List Tok × TS} (h : wordsLe N x) (c : Nat) : wordsLe (N + 1) (stepS x c) := by
  refine ⟨?_, by have := (step_len x c).2; have := h.2; omega⟩
  obtain ⟨out, st⟩ := x
  obtain ⟨h1, h2⟩ := h
  have h1' : ∀ t ∈ out, t.word.length ≤ N + 1 := fun t ht => by have := h1 t ht; omega
  cases st with
  | gap => exact (gapS_le h1 c).1
  | note => rw [stepS]; split <;> exact h1'
  | word wd =>
    have hw : wd.length ≤ N := h2
    rw [stepS]
    split
    · exact h1'
    · split
      · exact snocLe h1' (by simp only; omega)
      · rw [gapS_out]; exact snocLe h1' (by simp only; omega)
  | minus => rw [stepS]; split <;> exact h1'
  | num neg n =>
    rw [stepS]
    split
    · split <;> exact h1'
    · rw [gapS_out]; exact snocLe h1' (by simp)
  | err => exact h1'

theorem fold_le : ∀ (l : List Nat) (N : Nat) (x : List Tok × TS), wordsLe N x → wordsLe (N + l.length) (foldS x l)
  | [], _, _, h => h
  | c :: l, N, x, h => by
    have := fold_le l (N + 1) (stepS x c) (step_le h c)
    rw [foldS_cons, List.length_cons]
    rwa [Nat.add_right_comm, Nat.add_assoc] at this

theorem split_words {l : List Nat} {o : List Tok} (h : splitN l = some o) : ∀ t ∈ o, t.word.length ≤ l.length := by
  have h1 := fold_le l 0 ([], .gap) ⟨by simp, by simp [wordLen]⟩
  rw [Nat.zero_add] at h1
  unfold splitN at h
  obtain ⟨h1, h2⟩ := h1
  generalize foldS ([], .gap) l = x at *
  obtain ⟨out, st⟩ := x
  cases st with
  | gap => injection h with h; subst h; exact h1
  | note => injection h with h; subst h; exact h1
  | word wd => injection h with h; subst h; exact snocLe h1 h2
  | minus => cases h
  | num neg n => injection h with h; subst h; exact snocLe h1 (by simp)
  | err => cases h

end Go.Proofs.YtjbhhlhaikmecaaDoor
