/-
  Jumps that are led to their labels, on plain numbers and in memory. No conditions but those that stand there.
-/
import Derived.Test.YtjbhhlhaikmecaaDoorAsmI
namespace Go.Proofs.YtjbhhlhaikmecaaDoor
open Go.RowKit

def aimI (x : Ins) (a : Int) : Ins := ⟨x.op, a, x.b⟩
/-- the jumps are led, one by one; none, if one leads nowhere. -/
def leadN (labs : List (List Nat × Nat)) : List Ins → List (Nat × List Nat) → Option (List Ins)
  | code, [] => some code
  | code, j :: js => if whereN labs j.2 ≤ j.1 then none else leadN labs (code.set j.1 (aimI (insAt code j.1) (whereN labs j.2 - j.1 - 1))) js

def mixI (x : BS) (s : Nat) : List Ins := (List.range x.out.length).map fun i => if i < s then aimed x.labs x.goals i (insAt x.out i) else insAt x.out i

theorem mixI_length (x : BS) (s : Nat) : (mixI x s).length = x.out.length := by simp [mixI]
theorem mixI_at (x : BS) (s : Nat) {i : Nat} (h : i < x.out.length) : (mixI x s)[i]? = some (if i < s then aimed x.labs x.goals i (insAt x.out i) else insAt x.out i) := by simp [mixI, h]
theorem mixI_zero (x : BS) : mixI x 0 = x.out := by
  apply List.ext_getElem?
  intro i
  by_cases h : i < x.out.length
  · rw [mixI_at x 0 h, if_neg (by omega)]
    unfold insAt
    rw [List.getElem?_eq_getElem h]
    rfl
  · rw [List.getElem?_eq_none (by rw [mixI_length]; omega), List.getElem?_eq_none (by omega)]
theorem mixI_end (x : BS) : mixI x x.out.length = (List.range x.out.length).map fun i => aimed x.labs x.goals i (insAt x.out i) := by
  unfold mixI
  apply List.map_congr_left
  intro i hi
  rw [if_pos (by simpa using hi)]
theorem mixI_set (x : BS) {s : Nat} (h : s < x.out.length) (hj : jumpsN (insAt x.out s).op) : (mixI x s).set s (aimI (insAt (mixI x s) s) (whereN x.labs (x.goals[s]?.getD []) - s - 1)) = mixI x (s + 1) := by
  have h0 : insAt (mixI x s) s = insAt x.out s := by
    unfold insAt
    rw [mixI_at x s h, if_neg (by omega)]
    rfl
  rw [h0]
  apply List.ext_getElem?
  intro i
  rw [List.getElem?_set]
  by_cases hi : i < x.out.length
  · rw [mixI_at x (s + 1) hi]
    by_cases e : s = i
    · subst e
      rw [if_pos rfl, if_pos (by rw [mixI_length]; exact h), if_pos (by omega)]
      unfold aimed aimI
      rw [if_pos hj]
    · rw [if_neg e, mixI_at x s hi]
      by_cases hl : i < s
      · rw [if_pos hl, if_pos (by omega)]
      · rw [if_neg hl, if_neg (by omega)]
  · rw [if_neg (by omega), List.getElem?_eq_none (by rw [mixI_length]; omega), List.getElem?_eq_none (by rw [mixI_length]; omega)]
theorem mixI_skip (x : BS) {s : Nat} (hj : ¬ jumpsN (insAt x.out s).op) : mixI x s = mixI x (s + 1) := by
  unfold mixI
  apply List.map_congr_left
  intro i _
  by_cases e : i = s
  · subst e
    rw [if_neg (by omega), if_pos (by omega)]
    unfold aimed
    rw [if_neg hj]
  · by_cases hl : i < s
    · rw [if_pos hl, if_pos (by omega)]
    · rw [if_neg hl, if_neg (by omega)]

def leadsFrom (x : BS) (s : Nat) : Prop := ∀ i, s ≤ i → i < x.out.length → jumpsN (insAt x.out i).op → (i : Int) < whereN x.labs (x.goals[i]?.getD [])

theorem lead_from (x : BS) : ∀ (len s : Nat), s + len = x.out.length →
    (leadsFrom x s → leadN x.labs (mixI x s) ((List.range' s len).filterMap fun i => if jumpsN (insAt x.out i).op then some (i, x.goals[i]?.getD []) else none) = some (mixI x x.out.length)) ∧
    (¬ leadsFrom x s → leadN x.labs (mixI x s) ((List.range' s len).filterMap fun i => if jumpsN (insAt x.out i).op then some (i, x.goals[i]?.getD []) else none) = none)
  | 0, s, h => by
    have hs : s = x.out.length := by omega
    refine ⟨fun _ => ?_, fun hn => absurd (fun i a b => by omega) hn⟩
    show leadN x.labs (mixI x s) [] = _
    rw [leadN, hs]
  | len + 1, s, h => by
    rw [List.range'_succ, List.filterMap_cons]
    have ih := lead_from x len (s + 1) (by omega)
    by_cases hj : jumpsN (insAt x.out s).op
    · simp only [if_pos hj]
      rw [leadN]
      by_cases hw : whereN x.labs (x.goals[s]?.getD []) ≤ (s : Int)
      · rw [if_pos hw]
        exact ⟨fun hall => by have := hall s (Nat.le_refl _) (by omega) hj; omega, fun _ => rfl⟩
      · rw [if_neg hw, mixI_set x (by omega) hj]
        refine ⟨fun hall => ih.1 fun i a b c => hall i (by omega) b c, fun hn => ih.2 fun hall => hn fun i a b c => ?_⟩
        by_cases e : i = s
        · subst e; omega
        · exact hall i (by omega) b c
    · simp only [if_neg hj]
      rw [mixI_skip x hj]
      refine ⟨fun hall => ih.1 fun i a b c => hall i (by omega) b c, fun hn => ih.2 fun hall => hn fun i a b c => ?_⟩
      by_cases e : i = s
      · subst e; exact absurd c hj
      · exact hall i (by omega) b c

theorem lead_fin {x : BS} (hx : x.mode = .ready) : finB x = match leadN x.labs x.out (jsOf x.out x.goals) with
    | none => .error 10
    | some c => .ok c := by
  have hl := lead_from x x.out.length 0 (by omega)
  rw [mixI_zero, ← List.range_eq_range'] at hl
  unfold finB
  rw [hx]
  simp only
  by_cases hc : ∀ i < x.out.length, jumpsN (insAt x.out i).op → (i : Int) < whereN x.labs (x.goals[i]?.getD [])
  · have := hl.1 (fun i _ b c => hc i b c)
    unfold jsOf
    rw [if_pos hc, this, mixI_end]
  · have := hl.2 (fun hall => hc fun i b c => hall i (Nat.zero_le _) b c)
    unfold jsOf
    rw [if_neg hc, this]

/-! ### in memory -/
theorem own_set {w : World} {B : Nat} {e : TypeId} {size n g cap : Nat} {xs : List Value} (h : w.ownsRow B e size (.slice (some ⟨g, 0, none⟩) n cap) n xs) (j : Nat) (u : Value) : (w.setCell ⟨g, j, none⟩ u).ownsRow B e size (.slice (some ⟨g, 0, none⟩) n cap) n (xs.set j u) := by
  refine ⟨by rw [List.length_set]; exact h.1, ?_⟩
  rcases h.2 with ⟨h0, _⟩ | ⟨g', cap', cur, hv, hb, hg, hnc, hcm, hcs, ht⟩
  · cases h0
  · injection hv with h1 h2 h3
    injection h1 with h1
    injection h1 with h1
    subst h1
    subst h3
    refine .inr ⟨g, cap, cur.setIfInBounds j u, rfl, hb, Bk.set (t := e) (cs := cur) hg j u, hnc, hcm, by simpa using hcs, ?_⟩
    rw [Array.toList_setIfInBounds, List.take_set, ht]

theorem inssW_length (l : List Ins) : (inssW l).length = l.length * 3 := by
  induction l with
  | nil => rfl
  | cons t l ih => simp only [inssW, List.flatMap_cons, List.length_append, insW, List.length_cons, List.length_nil] at ih ⊢; omega

theorem inssW_set : ∀ (l : List Ins) (j : Nat) (a : Int), j < l.length → (inssW l).set (j * 3 + 1) (.int .i64 a) = inssW (l.set j (aimI (insAt l j) a))
  | [], j, a, h => by simp at h
  | u :: l, 0, a, _ => rfl
  | u :: l, j + 1, a, h => by
    have ih := inssW_set l j a (by simpa using h)
    show (insW u ++ inssW l).set ((j + 1) * 3 + 1) _ = insW u ++ inssW (l.set j (aimI (insAt (u :: l) (j + 1)) a))
    rw [show (j + 1) * 3 + 1 = (j * 3 + 1) + 3 by omega]
    have : insAt (u :: l) (j + 1) = insAt l j := rfl
    rw [this, ← ih]
    rfl

theorem jmpsW_at : ∀ (l : List (Nat × List Nat)) (j : Nat) (p : Nat × List Nat), l[j]? = some p → (jmpsW l)[j * 2]? = some (.int .i64 (p.1 : Nat)) ∧ (jmpsW l)[j * 2 + 1]? = some (.string (strL p.2))
  | [], j, p, h => by simp at h
  | u :: l, 0, p, h => by
    simp at h
    subst h
    exact ⟨rfl, rfl⟩
  | u :: l, j + 1, p, h => by
    have ih := jmpsW_at l j p (by simpa using h)
    have e : ∀ k, (jmpsW (u :: l))[(j + 1) * 2 + k]? = (jmpsW l)[j * 2 + k]? := fun k => by
      rw [show (j + 1) * 2 + k = (j * 2 + k) + 2 by omega]
      rfl
    exact ⟨(e 0).trans ih.1, (e 1).trans ih.2⟩

theorem lead_set_length (code : List Ins) (j : Nat) (x : Ins) : (code.set j x).length = code.length := List.length_set

end Go.Proofs.YtjbhhlhaikmecaaDoor
