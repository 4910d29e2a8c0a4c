/-
  A text's runes, in the model's own decoding, in the place of its bytes: the tokens are the same. No conditions.
-/
import Derived.Test.YtjbhhlhaikmecaaDoorTokQ
import Derived.Laws.RangeAny
namespace Go.Proofs.YtjbhhlhaikmecaaDoor

theorem get_bL (s : ByteArray) (p : Nat) (h : p < s.size) : (s.get! p).toNat = (s[p]'h).toNat := by
  have := get_at s p h
  rw [Nat.add_zero] at this
  rw [this]

/-- what stands in a rune that is none of ASCII. -/
theorem decode_wide (s : ByteArray) (p : Nat) (h : p < s.size) (ha : 128 ≤ (s[p]'h).toNat) : ∀ k, k < (Utf8.decode s p).2 → p + k < s.size ∧ 128 ≤ (s.get! (p + k)).toNat := by
  have hn : ¬ (s[p]'h).toNat < 128 := by omega
  have h0 : p + 0 < s.size ∧ 128 ≤ (s.get! (p + 0)).toNat := ⟨h, by rw [get_at s p h]; exact ha⟩
  have hc : ∀ k, (decide (p + k < s.size) && (s.get! (p + k)).toNat / 64 == 2) = true → p + k < s.size ∧ 128 ≤ (s.get! (p + k)).toNat := by
    intro k hk
    simp only [Bool.and_eq_true, decide_eq_true_eq, beq_iff_eq] at hk
    exact ⟨hk.1, by omega⟩
  have one : ∀ k, k < 1 → p + k < s.size ∧ 128 ≤ (s.get! (p + k)).toNat := fun k hk => by
    obtain rfl : k = 0 := by omega
    exact h0
  simp only [Utf8.decode, get_at s p h, hn, if_false]
  split
  · rename_i h1
    simp only [Bool.and_eq_true] at h1
    split
    · intro k hk
      rcases (show k = 0 ∨ k = 1 by simp only at hk; omega) with rfl | rfl
      · exact h0
      · exact hc 1 (by simpa using h1.2)
    · exact one
  · split
    · rename_i h1
      simp only [Bool.and_eq_true] at h1
      split
      · intro k hk
        rcases (show k = 0 ∨ k = 1 ∨ k = 2 by simp only at hk; omega) with rfl | rfl | rfl
        · exact h0
        · exact hc 1 (by simpa using h1.1.2)
        · exact hc 2 (by simpa using h1.2)
      · exact one
    · split
      · rename_i h1
        simp only [Bool.and_eq_true] at h1
        split
        · intro k hk
          rcases (show k = 0 ∨ k = 1 ∨ k = 2 ∨ k = 3 by simp only at hk; omega) with rfl | rfl | rfl | rfl
          · exact h0
          · exact hc 1 (by simpa using h1.1.1.2)
          · exact hc 2 (by simpa using h1.1.2)
          · exact hc 3 (by simpa using h1.2)
        · exact one
      · exact one

/-- the runes from a place on, so many at most. -/
def runesAt (s : ByteArray) : Nat → Nat → List Nat
  | 0, _ => []
  | f + 1, p => if p < s.size then (Utf8.decode s p).1 :: runesAt s f (p + (Utf8.decode s p).2) else []

theorem runesAt_end (s : ByteArray) (f p : Nat) (h : ¬ p < s.size) : runesAt s f p = [] := by
  cases f with
  | zero => rfl
  | succ f => rw [runesAt, if_neg h]

theorem fold_runes (s : ByteArray) : ∀ (f p : Nat) (x : List Tok × TS), s.size ≤ p + f → foldS x (runesAt s f p) = foldS x ((bL s).drop p)
  | 0, p, x, h => by rw [List.drop_eq_nil_of_le (by rw [bL_length]; omega)]; rfl
  | f + 1, p, x, h => by
    by_cases hp : p < s.size
    · rw [runesAt, if_pos hp, foldS_cons]
      by_cases ha : (s[p]'hp).toNat < 128
      · rw [decode_ascii s p hp ha, fold_runes s f (p + 1) _ (by omega)]
        have hd := List.drop_eq_getElem_cons (l := bL s) (i := p) (by rw [bL_length]; exact hp)
        rw [hd, foldS_cons]
        congr 1
        have e := bL_get s p hp
        rw [List.getElem?_eq_getElem (by rw [bL_length]; exact hp)] at e
        rw [Option.some.inj e]
      · obtain ⟨h1, h2⟩ := decode_high s p hp (by omega)
        have hw := decode_wide s p hp (by omega)
        rw [fold_runes s f _ _ (by omega), ← List.drop_drop]
        have hsplit := List.take_append_drop (Utf8.decode s p).2 ((bL s).drop p)
        conv => rhs; rw [← hsplit, foldS_append]
        congr 1
        refine (fold_wide _ h1 _ x ?_ ?_).symm
        · intro e
          have hlen := congrArg List.length e
          rw [List.length_take, List.length_drop, bL_length] at hlen
          simp only [List.length_nil] at hlen
          omega
        · intro c hc
          obtain ⟨k, hk, rfl⟩ := List.getElem_of_mem hc
          have hk1 : k < (Utf8.decode s p).2 := by
            rw [List.length_take] at hk
            omega
          obtain ⟨hs, hb⟩ := hw k hk1
          have e := bL_get s (p + k) hs
          have e2 : (((bL s).drop p).take (Utf8.decode s p).2)[k]? = (bL s)[p + k]? := by
            rw [List.getElem?_take, if_pos hk1, List.getElem?_drop]
          rw [List.getElem?_eq_getElem hk, e] at e2
          rw [Option.some.inj e2, ← get_bL s (p + k) hs]
          exact hb
    · rw [runesAt_end s _ p hp, List.drop_eq_nil_of_le (by rw [bL_length]; omega)]

def runesN (s : ByteArray) : List Nat := runesAt s s.size 0

/-- by runes as by bytes. -/
theorem split_runes (s : ByteArray) : splitN (runesN s) = splitN (bL s) := by
  rw [splitN, splitN, runesN, fold_runes s s.size 0 _ (by omega), List.drop_zero]

theorem runesAt_length (s : ByteArray) : ∀ (f p : Nat), (runesAt s f p).length ≤ f
  | 0, _ => by simp [runesAt]
  | f + 1, p => by
    rw [runesAt]
    split
    · rw [List.length_cons]; have := runesAt_length s f (p + (Utf8.decode s p).2); omega
    · simp

theorem runesAt_le (s : ByteArray) : ∀ (f p : Nat), ∀ c ∈ runesAt s f p, c ≤ 2147483647
  | 0, _ => by simp [runesAt]
  | f + 1, p => by
    rw [runesAt]
    split
    · intro c hc
      rcases List.mem_cons.1 hc with rfl | hc
      · exact decode_le s p
      · exact runesAt_le s f _ c hc
    · simp

/-- with enough room it makes no difference how much. -/
theorem runesAt_more (s : ByteArray) : ∀ (f g p : Nat), s.size ≤ p + f → s.size ≤ p + g → runesAt s f p = runesAt s g p
  | 0, g, p, h, _ => by rw [runesAt_end s g p (by omega)]; rfl
  | f + 1, 0, p, _, h => by rw [runesAt_end s (f + 1) p (by omega)]; rfl
  | f + 1, g + 1, p, h1, h2 => by
    rw [runesAt, runesAt]
    by_cases hp : p < s.size
    · have hw : 1 ≤ (Utf8.decode s p).2 := by
        by_cases ha : (s[p]'hp).toNat < 128
        · rw [decode_ascii s p hp ha]; exact Nat.le_refl _
        · exact (decode_high s p hp (by omega)).2
      rw [if_pos hp, if_pos hp, runesAt_more s f g _ (by omega) (by omega)]
    · rw [if_neg hp, if_neg hp]

end Go.Proofs.YtjbhhlhaikmecaaDoor
