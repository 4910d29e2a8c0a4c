/-
  A statement whose order is open, whose operations may make memory, and whose values may hang on it: what each value is said to be must stay so whatever the others do; then one look at each operation serves every order. Behind them come the operations whose order is fixed. No conditions.
-/
import Derived.StillTail
import Derived.WalkKit
namespace Go.Proofs.Ytbgdadofpjjpdaa
open Go

section
variable {P : Program} {ops : Array Oper} {md : Region.Mode} {Q : Exit → Act → World → Prop}

theorem getD_set_self (listed : Array Bool) (i : Nat) : (listed.setIfInBounds i true).getD i true = true := by
  rcases Nat.lt_or_ge i listed.size with h | h
  · simp [h]
  · simp [h]

/-- How many of the first k haven't come up yet. -/
def leftN (listed : Array Bool) : Nat → Nat
  | 0 => 0
  | k + 1 => leftN listed k + (if listed.getD k true = false then 1 else 0)

theorem leftN_far (listed : Array Bool) (i : Nat) : ∀ k, k ≤ i → leftN (listed.setIfInBounds i true) k = leftN listed k
  | 0, _ => rfl
  | k + 1, h => by rw [leftN, leftN, leftN_far listed i k (by omega), getD_set_ne true (by omega)]

theorem leftN_set (listed : Array Bool) (i : Nat) (hl : listed.getD i true = false) : ∀ k, i < k → leftN (listed.setIfInBounds i true) k + 1 = leftN listed k
  | 0, h => absurd h (by omega)
  | k + 1, h => by
    rw [leftN, leftN]
    by_cases hk : i = k
    · subst hk
      rw [leftN_far listed i i (Nat.le_refl _), getD_set_self, if_neg (by simp), if_pos hl]
    · have := leftN_set listed i hl k (by omega)
      rw [getD_set_ne true hk]
      omega

theorem leftN_zero (listed : Array Bool) : ∀ k, leftN listed k = 0 → ∀ i, i < k → listed.getD i true = true
  | 0, _, i, hi => absurd hi (by omega)
  | k + 1, h, i, hi => by
    rw [leftN] at h
    by_cases hk : i = k
    · subst hk
      cases hv : listed.getD i true with
      | true => rfl
      | false => rw [if_pos hv] at h; omega
    · exact leftN_zero listed k (by omega) i (by omega)

theorem leftN_pos (listed : Array Bool) : ∀ k, leftN listed k ≠ 0 → ∃ i, i < k ∧ listed.getD i true = false ∧ ∀ j, j < i → listed.getD j true = true
  | 0, h => absurd rfl h
  | k + 1, h => by
    by_cases h0 : leftN listed k = 0
    · refine ⟨k, by omega, ?_, fun j hj => leftN_zero listed k h0 j hj⟩
      cases hv : listed.getD k true with
      | false => rfl
      | true => rw [leftN, h0, hv] at h; simp at h
    · obtain ⟨i, hi, h1, h2⟩ := leftN_pos listed k h0
      exact ⟨i, by omega, h1, h2⟩

theorem leftN_none (m : Nat) : ∀ k, k ≤ m → leftN (Array.replicate m false) k = k
  | 0, _ => rfl
  | k + 1, h => by
    have hk : k < m := by omega
    rw [leftN, leftN_none m k (by omega)]
    simp [hk]

/-- Each edge of the first n operations leads back. -/
def backB (md : Region.Mode) (ops : Array Oper) (n : Nat) : Bool :=
  (List.range n).all fun i => match ops[i]? with
    | some o => o.after.all fun e => !Region.binds md e || decide (e.on < i)
    | none => false

theorem backB_spec {n i : Nat} (h : backB md ops n = true) (hi : i < n) : ∃ o, ops[i]? = some o ∧ ∀ e ∈ o.after, Region.binds md e = true → e.on < i := by
  have h1 := List.all_eq_true.1 h i (List.mem_range.2 hi)
  split at h1
  · rename_i o ho
    refine ⟨o, ho, fun e he hb => ?_⟩
    have h2 := Array.all_eq_true_iff_forall_mem.1 h1 e he
    simpa [hb] using h2
  · cases h1

theorem first_ready {n i : Nat} {listed : Array Bool} (hb : backB md ops n = true) (inv : HeadInv md ops n listed) (hi : i < n) (hl : listed.getD i true = false) (hj : ∀ j, j < i → listed.getD j true = true) :
    i ∈ Region.ready md ops listed := by
  obtain ⟨o, ho, he⟩ := backB_spec hb hi
  refine mem_ready.2 ⟨hl, o, ho, fun e hm hbi => ?_⟩
  have h1 := hj _ (he e hm hbi)
  have hlt : e.on < listed.size := by
    have := he e hm hbi
    have : i < ops.size := (Array.getElem?_eq_some_iff.1 ho).1
    rw [inv.size]
    omega
  simpa [hlt] using h1

theorem any_of_inv {n g : Nat} (I : Array Bool → Act → World → Prop) (hb : backB md ops n = true)
    (htail : ∀ listed, HeadInv md ops n listed → ∀ i, i < n → listed.getD i true = false → ∀ t ∈ Region.ready md ops listed, t < n)
    (hstep : ∀ i listed a w, i < n → i ∈ Region.ready md ops listed → I listed a w → wpOp P ops Q i (fun a' w' => I (listed.setIfInBounds i true) a' w') a w)
    (hL : ∀ listed a w, HeadInv md ops n listed → leftN listed n = 0 → I listed a w → wpAny P md ops Q g listed a w) :
    ∀ f listed a w, HeadInv md ops n listed → leftN listed n = f → I listed a w → wpAny P md ops Q (f + g) listed a w
  | 0, listed, a, w, inv, hf, hI => by rw [Nat.zero_add]; exact hL listed a w inv hf hI
  | f + 1, listed, a, w, inv, hf, hI => by
    rw [show f + 1 + g = (f + g) + 1 by omega]
    obtain ⟨i0, hi0, hl0, hj0⟩ := leftN_pos listed n (by omega)
    have hr0 := first_ready hb inv hi0 hl0 hj0
    refine ⟨fun h0 => (by rw [h0] at hr0; cases hr0), fun i hi => ?_⟩
    have hin := htail listed inv i0 hi0 hl0 i hi
    have hli := (mem_ready.1 hi).1
    exact wpOp_mono (fun a' w' h' => any_of_inv I hb htail hstep hL f _ a' w' (inv.set hi hin) (by have := leftN_set listed i hli n hin; omega) h') (hstep i listed a w hin hi hI)

/-- The first n have come up, and no other. -/
def doneN (size n : Nat) : Array Bool := (List.replicate n true ++ List.replicate (size - n) false).toArray

def relyB (md : Region.Mode) (ops : Array Oper) (n : Nat) : Bool :=
  decide (n < ops.size) && Region.sinkB md ops n && Region.chainB md ops n && backB md ops n && Region.seqB md ops (ops.size - n) n (doneN ops.size n)

theorem done_eq {n : Nat} {listed : Array Bool} (hn : n ≤ ops.size) (inv : HeadInv md ops n listed) (h : leftN listed n = 0) : listed = doneN ops.size n := by
  have hs : (doneN ops.size n).size = ops.size := by simp [doneN]; omega
  apply Array.ext
  · rw [inv.size, hs]
  · intro i h1 h2
    by_cases hi : i < n
    · have := leftN_zero listed n h i hi
      simp [h1] at this
      rw [this]
      simp [doneN, hi]
    · have := inv.tail i (by omega) (by rw [← inv.size]; exact h1)
      simp [h1] at this
      rw [this]
      simp [doneN, List.getElem_append, hi]

theorem wp_region_inv {id : Nat} {a : Act} {w : World} {l : List Oper} (n : Nat) (hm : P.follows .mixedOrders = true) (hB : relyB .any l.toArray n = true) (I : Array Bool → Act → World → Prop)
    (h0 : I (Array.replicate l.toArray.size false) a w.drew)
    (hstep : ∀ i listed a w, i < n → i ∈ Region.ready .any l.toArray listed → I listed a w → wpOp P l.toArray Q i (fun a' w' => I (listed.setIfInBounds i true) a' w') a w)
    (ht : ∀ a w, I (doneN l.toArray.size n) a w → wpList P l.toArray Q (l.drop n) a w) : (Code.region id l.toArray true).wp P Q a w := by
  simp only [relyB, Bool.and_eq_true, decide_eq_true_eq] at hB
  obtain ⟨⟨⟨⟨hn, hs⟩, hc⟩, hb⟩, hq⟩ := hB
  have hdl : (l.drop n).length = l.toArray.size - n := by simp
  have inv0 : HeadInv .any l.toArray n (Array.replicate l.toArray.size false) :=
    ⟨by simp, fun j oj _ hl => (by rw [getD_replicate_false] at hl; cases hl), fun t _ ht => getD_in (by simpa using ht) (getD_replicate_false _ _)⟩
  refine wp_region_any hm ?_
  have H := any_of_inv (P := P) (Q := Q) (md := .any) (ops := l.toArray) (n := n) (g := l.toArray.size - n) I hb
    (fun listed inv i hi hl t htr => by
      rcases Nat.lt_or_ge t n with h | h
      · exact h
      · exact absurd htr (tail_waits hs hc hn inv _ i rfl hi hl t h))
    hstep
    (fun listed a' w' inv hf hI => by
      have e := done_eq (Nat.le_of_lt hn) inv hf
      subst e
      have := wpAny_of_seq (md := .any) (Q' := Q) (l.drop n) n (doneN l.toArray.size n) a' w' (fun j => by simp [List.getElem?_drop]) (by rw [hdl]; exact hq) (ht a' w' hI)
      rwa [hdl] at this)
    n _ a w.drew inv0 (leftN_none _ n (Nat.le_of_lt hn)) h0
  rw [show n + (l.toArray.size - n) = l.toArray.size by omega] at H
  exact H

end
end Go.Proofs.Ytbgdadofpjjpdaa
