/-
  Who waits for a block, on plain numbers: the first at which something holds; how many have the block; who is gone. No conditions but those that stand there.
-/
import Derived.Test.YtbgdadofpjjpdaaQueP
namespace Go.Proofs.Ytbgdadofpjjpdaa

/-- the first place at which it holds; -1 if there is none. -/
def idxP {α : Type} (p : α → Bool) (l : List α) : Int := if l.findIdx p < l.length then ((l.findIdx p : Nat) : Int) else -1

theorem findIdx_at {α : Type} (p : α → Bool) : ∀ (l : List α) (i : Nat), i ≤ l.length → (∀ j x, j < i → l[j]? = some x → p x = false) → (∀ x, l[i]? = some x → p x = true) → l.findIdx p = i
  | [], i, hi, _, _ => by simp at hi; simp [hi]
  | y :: l, 0, _, _, h => by
    have := h y rfl
    simp [List.findIdx_cons, this]
  | y :: l, i + 1, hi, h1, h2 => by
    have hy := h1 0 y (by omega) rfl
    have ih := findIdx_at p l i (by simpa using hi) (fun j x hj hx => h1 (j + 1) x (by omega) (by simpa using hx)) (fun x hx => h2 x (by simpa using hx))
    simp [List.findIdx_cons, hy, ih]

theorem idxP_at {α : Type} {p : α → Bool} {l : List α} {i : Nat} {x : α} (hx : l[i]? = some x) (hp : p x = true) (h : ∀ j y, j < i → l[j]? = some y → p y = false) : idxP p l = (i : Int) := by
  have hi : i < l.length := by
    rcases Nat.lt_or_ge i l.length with h | h
    · exact h
    · rw [List.getElem?_eq_none h] at hx; cases hx
  have := findIdx_at p l i (by omega) h (fun y hy => by rw [hx] at hy; injection hy with hy; rw [← hy]; exact hp)
  unfold idxP
  rw [this, if_pos hi]

theorem idxP_none {α : Type} {p : α → Bool} {l : List α} (h : ∀ j y, j < l.length → l[j]? = some y → p y = false) : idxP p l = -1 := by
  have := findIdx_at p l l.length (Nat.le_refl _) h (fun y hy => by rw [List.getElem?_eq_none (Nat.le_refl _)] at hy; cases hy)
  unfold idxP
  rw [this, if_neg (by omega)]

theorem idxP_is {α : Type} (p : α → Bool) (l : List α) : (idxP p l = -1 ∧ ∀ x ∈ l, p x = false) ∨ ∃ i x, idxP p l = ((i : Nat) : Int) ∧ i < l.length ∧ l[i]? = some x ∧ p x = true ∧ ∀ j y, j < i → l[j]? = some y → p y = false := by
  induction l with
  | nil => exact .inl ⟨rfl, by simp⟩
  | cons y l ih =>
    cases hy : p y with
    | true => exact .inr ⟨0, y, idxP_at (i := 0) rfl hy (by omega), by simp, rfl, hy, by omega⟩
    | false =>
      rcases ih with ⟨-, h⟩ | ⟨i, x, -, h2, h3, h4, h5⟩
      · have ha : ∀ x ∈ y :: l, p x = false := fun x hx => by
          rcases List.mem_cons.1 hx with rfl | hx
          · exact hy
          · exact h x hx
        exact .inl ⟨idxP_none fun j z _ hz => ha z (List.mem_of_getElem? hz), ha⟩
      · have h5' : ∀ j z, j < i + 1 → (y :: l)[j]? = some z → p z = false := fun j z hj hz => by
          cases j with
          | zero => simp at hz; rw [← hz]; exact hy
          | succ j => exact h5 j z (by omega) (by simpa using hz)
        exact .inr ⟨i + 1, x, idxP_at (i := i + 1) (by simpa using h3) h4 h5', by simpa using h2, by simpa using h3, h4, h5'⟩

theorem idxP_any {α : Type} (p : α → Bool) (l : List α) : decide (0 ≤ idxP p l) = l.any p := by
  rcases idxP_is p l with ⟨h1, h2⟩ | ⟨i, x, h1, -, h3, h4, -⟩
  · rw [h1, List.any_eq_false.2 (fun x hx => by rw [h2 x hx]; decide)]
    rfl
  · rw [h1, List.any_eq_true.2 ⟨x, List.mem_of_getElem? h3, h4⟩]
    exact decide_eq_true (by omega)

/-- how many have it. -/
def havW (l : List Wnt) : Nat := if idxP Wnt.excl l < 0 then l.length else max (idxP Wnt.excl l).toNat 1

theorem havW_le (l : List Wnt) : havW l ≤ l.length := by
  unfold havW
  rcases idxP_is Wnt.excl l with ⟨h1, h2⟩ | ⟨i, x, h1, h2, -⟩
  · rw [h1, if_pos (by omega)]
    exact Nat.le_refl _
  · rw [h1, if_neg (by omega), Int.toNat_natCast]
    omega

theorem keyAt_keys {l : List Wnt} {i : Nat} {x : Wnt} (h : l[i]? = some x) : keyAt (keysN l) i = (x.seq, x.excl) := by
  unfold keyAt keysN
  rw [List.getElem?_map, h]
  rfl
theorem keys_length (l : List Wnt) : (keysN l).length = l.length := by simp [keysN]

theorem free_of {l : List Wnt} : ∀ {i : Nat}, i ≤ l.length → (∀ j y, j < i → l[j]? = some y → y.excl = false) → freeK (keysN l) i = true
  | 0, _, _ => rfl
  | i + 1, hi, h => by
    have hx : l[i]? = some l[i] := List.getElem?_eq_getElem (by omega)
    rw [free_succ (by rw [keys_length]; omega), free_of (i := i) (by omega) (fun j y hj hy => h j y (by omega) hy), keyAt_keys hx, h i _ (by omega) hx]
    rfl

/-- who has it: the first so many. -/
theorem hav_has {l : List Wnt} {i : Nat} (hi : i < l.length) : hasK (keysN l) i = decide (i < havW l) := by
  unfold havW
  have hi' : i < (keysN l).length := by rw [keys_length]; exact hi
  rcases idxP_is Wnt.excl l with ⟨h1, h2⟩ | ⟨k, x, h1, h2, h3, h4, h5⟩
  · rw [h1, if_pos (by omega)]
    unfold hasK
    rw [free_of (by omega) fun j y _ hy => h2 y (List.mem_of_getElem? hy), Bool.or_true]
    exact (decide_eq_true hi).symm
  · rw [h1, if_neg (by omega), Int.toNat_natCast]
    by_cases hik : i < k
    · unfold hasK
      rw [free_of (by omega) fun j y hj hy => h5 j y (by omega) hy, Bool.or_true]
      exact (decide_eq_true (by omega)).symm
    · by_cases h0 : i = 0
      · rw [h0, has_zero]
        exact (decide_eq_true (by omega)).symm
      · rw [has_one hi', decide_eq_false h0, Bool.false_or]
        have hf : (freeK (keysN l) i && !(keyAt (keysN l) i).2) = false := by
          by_cases he : i = k
          · subst he
            rw [keyAt_keys h3, h4]
            simp
          · cases hf : freeK (keysN l) i with
            | false => rfl
            | true =>
              have := free_le (show k + 1 ≤ i by omega) (by omega) hf
              rw [free_succ (by rw [keys_length]; omega), keyAt_keys h3, h4] at this
              simp at this
        rw [hf]
        exact (decide_eq_false (by omega)).symm

theorem hav_one {l : List Wnt} (h : 0 < l.length) : 0 < havW l := by
  have h1 := hav_has h
  rw [has_zero] at h1
  exact of_decide_eq_true h1.symm

/-- the first so many with Has as it is now, the others as they are. -/
def toldW (l : List Wnt) (i : Nat) : List Wnt := (grK (keysN l)).take i ++ l.drop i

theorem gr_length (l : List Wnt) : (grK (keysN l)).length = l.length := by rw [grK_length, keys_length]
theorem gr_at {l : List Wnt} {i : Nat} {x : Wnt} (hx : l[i]? = some x) : (grK (keysN l))[i]? = some ⟨x.seq, x.excl, decide (i < havW l)⟩ := by
  have hi : i < l.length := by
    rcases Nat.lt_or_ge i l.length with h | h
    · exact h
    · rw [List.getElem?_eq_none h] at hx; cases hx
  rw [grK_at (by rw [keys_length]; exact hi), keyAt_keys hx, hav_has hi]
theorem toldW_zero (l : List Wnt) : toldW l 0 = l := by simp [toldW]
theorem toldW_all (l : List Wnt) : toldW l l.length = grK (keysN l) := by
  unfold toldW
  rw [List.drop_length, List.append_nil, List.take_of_length_le (by rw [gr_length]; exact Nat.le_refl _)]
theorem toldW_length (l : List Wnt) (i : Nat) : (toldW l i).length = l.length := by
  unfold toldW
  rw [List.length_append, List.length_take, gr_length, List.length_drop]
  omega
theorem toldW_at {l : List Wnt} {i : Nat} {x : Wnt} (hx : l[i]? = some x) : (toldW l i)[i]? = some x := by
  have hi : i < l.length := by
    rcases Nat.lt_or_ge i l.length with h | h
    · exact h
    · rw [List.getElem?_eq_none h] at hx; cases hx
  unfold toldW
  have hl : ((grK (keysN l)).take i).length = i := by rw [List.length_take, gr_length]; omega
  rw [List.getElem?_append_right (by omega), hl, Nat.sub_self, List.getElem?_drop, Nat.add_zero, hx]
theorem toldW_succ {l : List Wnt} {i : Nat} {x : Wnt} (hx : l[i]? = some x) : (toldW l i).set i ⟨x.seq, x.excl, decide (i < havW l)⟩ = toldW l (i + 1) := by
  have hi : i < l.length := by
    rcases Nat.lt_or_ge i l.length with h | h
    · exact h
    · rw [List.getElem?_eq_none h] at hx; cases hx
  have hl : ((grK (keysN l)).take i).length = i := by rw [List.length_take, gr_length]; omega
  have hg := gr_at hx
  have hd : l.drop i = x :: l.drop (i + 1) := by
    rw [List.getElem?_eq_getElem hi] at hx
    injection hx with hx
    rw [← hx]
    exact List.drop_eq_getElem_cons hi
  unfold toldW
  rw [hd, List.set_append_right _ _ (by omega), hl, Nat.sub_self, List.set_cons_zero, List.take_add_one, hg, List.append_assoc]
  rfl

/-- one of that number has it, by the order alone. -/
def hasO (l : List Wnt) (s : Int) : Bool := (l.take (havW l)).any fun x => decide (x.seq = s)

theorem hasO_eq (l : List Wnt) (s : Int) : hasO l s = hasS (grK (keysN l)) s := by
  rw [Bool.eq_iff_iff, hasS_gr]
  unfold hasO
  rw [List.any_eq_true]
  constructor
  · rintro ⟨x, hx, hs⟩
    obtain ⟨i, hi⟩ := List.getElem?_of_mem hx
    have hlt : i < havW l := by
      rcases Nat.lt_or_ge i (havW l) with h | h
      · exact h
      · rw [List.getElem?_eq_none (by rw [List.length_take]; omega)] at hi; cases hi
    have hl := havW_le l
    rw [List.getElem?_take, if_pos hlt] at hi
    refine ⟨i, by rw [keys_length]; omega, ?_, ?_⟩
    · rw [keyAt_keys hi]
      exact of_decide_eq_true hs
    · rw [hav_has (by omega)]
      exact decide_eq_true hlt
  · rintro ⟨i, hi, hs, hh⟩
    rw [keys_length] at hi
    have hx : l[i]? = some l[i] := List.getElem?_eq_getElem hi
    rw [hav_has hi] at hh
    have hlt := of_decide_eq_true hh
    rw [keyAt_keys hx] at hs
    refine ⟨l[i], ?_, decide_eq_true hs⟩
    refine List.mem_of_getElem? (i := i) ?_
    rw [List.getElem?_take, if_pos hlt, hx]

theorem hasO_gr (K : Keys) (s : Int) : hasO (grK K) s = hasS (grK K) s := by rw [hasO_eq, keys_gr]

/-- without all of that number, before who has it is told. -/
def goneW (l : List Wnt) (s : Int) : List Wnt := l.filter fun x => decide (x.seq ≠ s)
theorem give_gone (l : List Wnt) (s : Int) : grK (keysN (goneW l s)) = giveN l s := by
  unfold giveN goneW keysN
  rw [List.filter_map]
  rfl
theorem ask_more (l : List Wnt) (s : Int) (e h : Bool) : grK (keysN (l ++ [⟨s, e, h⟩])) = askN l s e := by
  unfold askN keysN
  rw [List.map_append]
  rfl
theorem askN_length (l : List Wnt) (s : Int) (e : Bool) : (askN l s e).length = l.length + 1 := by unfold askN; rw [grK_length]; simp [keysN]
theorem giveN_length (l : List Wnt) (s : Int) : (giveN l s).length ≤ l.length := by
  unfold giveN
  rw [grK_length]
  exact Nat.le_trans (List.length_filter_le _ _) (by simp [keysN])

end Go.Proofs.Ytbgdadofpjjpdaa
