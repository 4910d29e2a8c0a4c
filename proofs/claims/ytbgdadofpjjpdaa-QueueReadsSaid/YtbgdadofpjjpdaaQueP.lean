/-
  Who waits for a block, on plain numbers: those who wait as pairs (their number, whether they write); who has it hangs on the pairs alone. No conditions but those that stand there.
-/
import Derived.Test.YtbgdadofpjjpdaaStr
namespace Go.Proofs.Ytbgdadofpjjpdaa

structure Wnt where
  seq : Int
  excl : Bool
  has : Bool
deriving DecidableEq

abbrev Keys := List (Int × Bool)

def keyAt (K : Keys) (i : Nat) : Int × Bool := K[i]?.getD (0, false)

/-- all of the first so many read. -/
def freeK (K : Keys) (i : Nat) : Bool := (K.take i).all fun x => !x.2
/-- has the i'th one the block? -/
def hasK (K : Keys) (i : Nat) : Bool := decide (i = 0) || freeK K (i + 1)

/-- those who wait, and who has it. -/
def grK (K : Keys) : List Wnt := (List.range K.length).map fun i => ⟨(keyAt K i).1, (keyAt K i).2, hasK K i⟩

def keysN (l : List Wnt) : Keys := l.map fun x => (x.seq, x.excl)

def askN (l : List Wnt) (s : Int) (e : Bool) : List Wnt := grK (keysN l ++ [(s, e)])
def giveN (l : List Wnt) (s : Int) : List Wnt := grK ((keysN l).filter fun x => decide (x.1 ≠ s))
def hasS (l : List Wnt) (s : Int) : Bool := l.any fun x => decide (x.seq = s) && x.has

theorem keyAt_lt {K : Keys} {i : Nat} (h : i < K.length) : keyAt K i = K[i] := by simp [keyAt, h]
theorem grK_length (K : Keys) : (grK K).length = K.length := by simp [grK]
theorem grK_at {K : Keys} {i : Nat} (h : i < K.length) : (grK K)[i]? = some ⟨(keyAt K i).1, (keyAt K i).2, hasK K i⟩ := by simp [grK, h]

theorem keys_gr (K : Keys) : keysN (grK K) = K := by
  apply List.ext_getElem?
  intro i
  unfold keysN
  rw [List.getElem?_map]
  by_cases h : i < K.length
  · rw [grK_at h, keyAt_lt h, List.getElem?_eq_getElem h]
    rfl
  · rw [List.getElem?_eq_none (by rw [grK_length]; omega), List.getElem?_eq_none (by omega)]
    rfl

theorem ask_gr (K : Keys) (s : Int) (e : Bool) : askN (grK K) s e = grK (K ++ [(s, e)]) := by rw [askN, keys_gr]
theorem give_gr (K : Keys) (s : Int) : giveN (grK K) s = grK (K.filter fun x => decide (x.1 ≠ s)) := by rw [giveN, keys_gr]
theorem gr_nil : grK [] = [] := rfl

theorem free_zero (K : Keys) : freeK K 0 = true := rfl
theorem free_succ {K : Keys} {i : Nat} (h : i < K.length) : freeK K (i + 1) = (freeK K i && !(keyAt K i).2) := by
  unfold freeK
  rw [List.take_succ_eq_append_getElem h, List.all_append, keyAt_lt h]
  simp
theorem has_zero (K : Keys) : hasK K 0 = true := by simp [hasK]
theorem has_one {K : Keys} {i : Nat} (h : i < K.length) : hasK K i = (decide (i = 0) || (freeK K i && !(keyAt K i).2)) := by rw [hasK, free_succ h]
/-- each other one: if the one ahead of it has it, and neither writes. -/
theorem has_succ {K : Keys} {i : Nat} (h : i + 1 < K.length) : hasK K (i + 1) = (!(keyAt K (i + 1)).2 && hasK K i && !(keyAt K i).2) := by
  rw [has_one h, free_succ (show i < K.length by omega), has_one (show i < K.length by omega)]
  cases i with
  | zero => simp [free_zero, Bool.and_comm]
  | succ i =>
    simp only [show decide (i + 1 + 1 = 0) = false by simp, show decide (i + 1 = 0) = false by simp, Bool.false_or]
    cases freeK K (i + 1) <;> cases (keyAt K (i + 1)).2 <;> cases (keyAt K (i + 1 + 1)).2 <;> rfl

theorem free_le {K : Keys} {i j : Nat} (hj : j ≤ i) (hi : i ≤ K.length) (h : freeK K i = true) : freeK K j = true := by
  induction i with
  | zero => obtain rfl : j = 0 := by omega
            exact h
  | succ i ih =>
    by_cases e : j = i + 1
    · exact e ▸ h
    · rw [free_succ (by omega)] at h
      exact ih (by omega) (by omega) (by cases hf : freeK K i <;> simp [hf] at h ⊢)

/-- who writes has it alone. -/
theorem excl_first {K : Keys} {i : Nat} (h : i < K.length) (hh : hasK K i = true) (he : (keyAt K i).2 = true) : i = 0 := by
  rw [has_one h, he] at hh
  simpa using hh
theorem excl_alone {K : Keys} {i : Nat} (h : i < K.length) (h0 : (keyAt K 0).2 = true) (hi : 0 < i) : hasK K i = false := by
  rw [has_one h]
  have h1 : freeK K 1 = false := by rw [free_succ (by omega), h0]; simp
  cases hf : freeK K i with
  | false => simp; omega
  | true =>
    rw [free_le (show 1 ≤ i by omega) (by omega) hf] at h1
    cases h1

/-- how many of the first so many have it; how many of those write. -/
def someK (K : Keys) (n : Nat) : Nat := ((List.range n).filter fun i => hasK K i).length
def exclK (K : Keys) (n : Nat) : Nat := ((List.range n).filter fun i => hasK K i && (keyAt K i).2).length

theorem some_succ (K : Keys) (n : Nat) : someK K (n + 1) = someK K n + if hasK K n = true then 1 else 0 := by
  unfold someK
  rw [List.range_succ, List.filter_append, List.length_append]
  by_cases h : hasK K n = true
  · simp [h]
  · simp [h]
theorem exclK_succ (K : Keys) (n : Nat) : exclK K (n + 1) = exclK K n + if (hasK K n && (keyAt K n).2) = true then 1 else 0 := by
  unfold exclK
  rw [List.range_succ, List.filter_append, List.length_append]
  by_cases h : (hasK K n && (keyAt K n).2) = true
  · simp [h]
  · simp [h]

theorem alone_K (K : Keys) : ∀ n, n ≤ K.length → (0 < n → 1 ≤ someK K n) ∧ exclK K n ≤ 1 ∧ (exclK K n = 1 → someK K n = 1)
  | 0, _ => by simp [someK, exclK]
  | n + 1, hn => by
    obtain ⟨h1, h2, h3⟩ := alone_K K n (by omega)
    rw [some_succ, exclK_succ]
    cases n with
    | zero =>
      have e1 : someK K 0 = 0 := rfl
      have e2 : exclK K 0 = 0 := rfl
      rw [e1, e2, has_zero]
      refine ⟨fun _ => by simp, ?_, fun _ => by simp⟩
      split <;> omega
    | succ n =>
      have hno : (hasK K (n + 1) && (keyAt K (n + 1)).2) = false := by
        cases hh : hasK K (n + 1) with
        | false => rfl
        | true =>
          cases he : (keyAt K (n + 1)).2 with
          | false => rfl
          | true => exact absurd (excl_first (by omega) hh he) (by omega)
      rw [hno]
      refine ⟨fun _ => by have := h1 (by omega); omega, by simpa using h2, fun he => ?_⟩
      have he' : exclK K (n + 1) = 1 := by simpa using he
      have hs := h3 he'
      have h0 : (keyAt K 0).2 = true := by
        cases h0 : (keyAt K 0).2 with
        | true => rfl
        | false =>
          exfalso
          have : ∀ m, m ≤ K.length → exclK K m = 0 := by
            intro m hm
            induction m with
            | zero => rfl
            | succ m ih =>
              rw [exclK_succ, ih (by omega)]
              cases hh : hasK K m with
              | false => rfl
              | true =>
                cases he : (keyAt K m).2 with
                | false => rfl
                | true =>
                  have := excl_first (show m < K.length by omega) hh he
                  rw [this, h0] at he
                  cases he
          rw [this (n + 1) (by omega)] at he'
          cases he'
      rw [excl_alone (by omega) h0 (by omega), hs]
      simp

/-- in order: who waits behind more asks; behind one who gives back. -/
theorem keys_ask (l : List Wnt) (s : Int) (e : Bool) : keysN (askN l s e) = keysN l ++ [(s, e)] := keys_gr _
theorem keys_give (l : List Wnt) (s : Int) : keysN (giveN l s) = (keysN l).filter fun x => decide (x.1 ≠ s) := keys_gr _

theorem hasS_gr (K : Keys) (s : Int) : hasS (grK K) s = true ↔ ∃ i, i < K.length ∧ (keyAt K i).1 = s ∧ hasK K i = true := by
  unfold hasS grK
  simp only [List.any_map, List.any_eq_true, List.mem_range, Function.comp_def, Bool.and_eq_true, decide_eq_true_eq]

/-! ### readers, a writer, readers -/
def readersK (a b : Nat) (base : Int) : Keys := (List.range (b - a)).map fun i => (base + (a + i : Nat), false)

theorem readers_length (a b : Nat) (base : Int) : (readersK a b base).length = b - a := by simp [readersK]
theorem readers_snoc {a b : Nat} (h : a ≤ b) (base : Int) : readersK a b base ++ [(base + (b : Int), false)] = readersK a (b + 1) base := by
  unfold readersK
  rw [show b + 1 - a = (b - a) + 1 by omega, List.range_succ, List.map_append]
  simp only [List.map_cons, List.map_nil]
  rw [show a + (b - a) = b by omega]
theorem readers_free (a b : Nat) (base : Int) (n : Nat) : freeK (readersK a b base) n = true := by
  unfold freeK
  rw [List.all_eq_true]
  intro x hx
  have hx := List.mem_of_mem_take hx
  unfold readersK at hx
  obtain ⟨i, -, rfl⟩ := List.mem_map.1 hx
  rfl

theorem readers_mem {a b : Nat} {base : Int} {x : Int × Bool} (h : x ∈ readersK a b base) : ∃ i : Nat, a ≤ i ∧ i < b ∧ x = (base + (i : Int), false) := by
  unfold readersK at h
  obtain ⟨i, hi, rfl⟩ := List.mem_map.1 h
  rw [List.mem_range] at hi
  exact ⟨a + i, by omega, by omega, rfl⟩

theorem readers_drop {a b : Nat} (h : a < b) (base : Int) : (readersK a b base).filter (fun x => decide (x.1 ≠ base + (a : Int))) = readersK (a + 1) b base := by
  have e : readersK a b base = (base + (a : Int), false) :: readersK (a + 1) b base := by
    unfold readersK
    rw [show b - a = (b - (a + 1)) + 1 by omega, List.range_succ_eq_map, List.map_cons, List.map_map]
    simp only [Nat.add_zero, List.cons.injEq, true_and]
    apply List.map_congr_left
    intro i _
    simp only [Function.comp_apply, Prod.mk.injEq, and_true]
    omega
  rw [e, List.filter_cons_of_neg (by simp)]
  rw [List.filter_eq_self]
  intro x hx
  obtain ⟨i, h1, h2, rfl⟩ := readers_mem hx
  simp only [ne_eq, decide_eq_true_eq]
  omega

theorem filter_apart {K : Keys} {s : Int} (h : ∀ x ∈ K, x.1 ≠ s) : K.filter (fun x => decide (x.1 ≠ s)) = K := by
  rw [List.filter_eq_self]
  intro x hx
  simpa using h x hx

end Go.Proofs.Ytbgdadofpjjpdaa
