/-
  A text's tokens, on plain bytes: tokens written one by one are split as they were; runes in the place of bytes come to the same. No conditions but those that stand there.
-/
import Derived.Test.YtgoamkneenmbgaaTokP
import Derived.Laws.RangeAny
namespace Go.Proofs.Ytgoamkneenmbgaa

/-- a number's digits. -/
def decN (n : Nat) : List Nat := if n < 10 then [48 + n] else decN (n / 10) ++ [48 + n % 10]
termination_by n
decreasing_by omega

theorem decN_small {n : Nat} (h : n < 10) : decN n = [48 + n] := by rw [decN, if_pos h]
theorem decN_large {n : Nat} (h : ¬ n < 10) : decN n = decN (n / 10) ++ [48 + n % 10] := by rw [decN, if_neg h]

theorem digit_of (n : Nat) : isDigit (48 + n % 10) := by unfold isDigit; omega

theorem gapS_digit (out : List Tok) {d : Nat} (h : d < 10) : gapS out (48 + d) = (out, .num false d) := by
  have h1 : ¬ isBlank (48 + d) := by unfold isBlank; omega
  have h2 : ¬ 48 + d = 35 := by omega
  have h3 : ¬ isLetter (48 + d) := by unfold isLetter; omega
  have h4 : isDigit (48 + d) := by unfold isDigit; omega
  rw [gapS, if_neg h1, if_neg h2, if_neg h3, if_pos h4, Nat.add_sub_cancel_left]

theorem step_digit (out : List Tok) (neg : Bool) (n : Nat) {d : Nat} (h : d < 10) (hn : 10 * n + d ≤ 1099511627776) : stepS (out, .num neg n) (48 + d) = (out, .num neg (10 * n + d)) := by
  have h4 : isDigit (48 + d) := by unfold isDigit; omega
  rw [stepS, if_pos h4, Nat.add_sub_cancel_left, if_neg (by omega)]

/-- the digits of a number, behind what makes one of its first. -/
theorem fold_decN (x : List Tok × TS) (out : List Tok) (neg : Bool) (hx : ∀ d, d < 10 → stepS x (48 + d) = (out, .num neg d)) (n : Nat) : n ≤ 1099511627776 → foldS x (decN n) = (out, .num neg n) := by
  induction n using Nat.strongRecOn with
  | ind n ih =>
    intro hn
    by_cases h : n < 10
    · rw [decN_small h, foldS_cons, hx n h]; rfl
    · rw [decN_large h, foldS_append, ih (n / 10) (by omega) (by omega), foldS_cons, step_digit out neg (n / 10) (by omega) (by omega), foldS_nil, show 10 * (n / 10) + n % 10 = n by omega]

/-- an int's digits. -/
def decZ (n : Int) : List Nat := if n < 0 then 45 :: decN n.natAbs else decN n.natAbs

def textOf (t : Tok) : List Nat := if t.kind = 2 then decZ t.n else if t.kind = 3 then t.word ++ [58] else t.word

theorem fold_letters (out : List Tok) : ∀ (l w : List Nat), (∀ c ∈ l, isLetter c) → foldS (out, .word w) l = (out, .word (w ++ l))
  | [], w, _ => by simp [foldS_nil]
  | c :: l, w, h => by
    rw [foldS_cons, show stepS (out, .word w) c = (out, .word (w ++ [c])) by rw [stepS, if_pos (h c (by simp))], fold_letters out l _ (fun d hd => h d (by simp [hd])), List.append_assoc]
    rfl

theorem gapS_letter (out : List Tok) {c : Nat} (h : isLetter c) : gapS out c = (out, .word [c]) := by
  have h1 : ¬ isBlank c := by unfold isLetter at h; unfold isBlank; omega
  have h2 : ¬ c = 35 := by unfold isLetter at h; omega
  rw [gapS, if_neg h1, if_neg h2, if_pos h]

theorem fold_word (out : List Tok) {w : List Nat} (h0 : w ≠ []) (h : ∀ c ∈ w, isLetter c) : foldS (out, .gap) w = (out, .word w) := by
  cases w with
  | nil => exact absurd rfl h0
  | cons c w => rw [foldS_cons, show stepS (out, .gap) c = (out, .word [c]) from gapS_letter out (h c (by simp)), fold_letters out w _ (fun d hd => h d (by simp [hd]))]; rfl

theorem fold_text (out : List Tok) {t : Tok} (ht : okTok t) {b : Nat} (hb : isBlank b) : foldS (out, .gap) (textOf t ++ [b]) = (out ++ [t], .gap) := by
  obtain ⟨k, w, n⟩ := t
  rw [foldS_append, foldS_cons, foldS_nil]
  rcases ht with ⟨hk, hw, h1, h2⟩ | ⟨hk, hw, hl, hn⟩
  · simp only at hk hw h1 h2
    subst hk
    subst hw
    have hx : foldS (out, .gap) (textOf ⟨2, [], n⟩) = (out, .num (decide (n < 0)) n.natAbs) := by
      show foldS (out, .gap) (if (2 : Nat) = 2 then decZ n else _) = _
      rw [if_pos rfl, decZ]
      by_cases hneg : n < 0
      · rw [if_pos hneg, foldS_cons, show stepS (out, .gap) 45 = (out, .minus) from rfl]
        rw [fold_decN (out, .minus) out true (fun d hd => by rw [stepS, if_pos (by unfold isDigit; omega), Nat.add_sub_cancel_left]) _ (by omega)]
        simp [hneg]
      · rw [if_neg hneg, fold_decN (out, .gap) out false (fun d hd => gapS_digit out hd) _ (by omega)]
        simp [hneg]
    rw [hx]
    refine step_blank ?_ (by simp) hb
    show some (out ++ [⟨2, [], signed (decide (n < 0)) n.natAbs⟩]) = _
    have : signed (decide (n < 0)) n.natAbs = n := by
      unfold signed
      by_cases hneg : n < 0
      · rw [if_pos (by simpa using hneg)]; omega
      · rw [if_neg (by simpa using hneg)]; omega
    rw [this]
  · simp only at hk hw hl hn
    subst hn
    rcases hk with rfl | rfl
    · rw [show textOf ⟨1, w, 0⟩ = w from rfl, fold_word out hw hl]
      exact step_blank rfl (by simp) hb
    · rw [show textOf ⟨3, w, 0⟩ = w ++ [58] from rfl, foldS_append, fold_word out hw hl, foldS_cons, foldS_nil, stepS, if_neg (by unfold isLetter; omega), if_pos rfl]
      exact gapS_blank _ hb

theorem fold_texts {b : Nat} (hb : isBlank b) : ∀ (l out : List Tok), (∀ t ∈ l, okTok t) → foldS (out, .gap) (l.flatMap fun t => textOf t ++ [b]) = (out ++ l, .gap)
  | [], out, _ => by simp [foldS_nil]
  | t :: l, out, h => by
    rw [List.flatMap_cons, foldS_append, fold_text out (h t (by simp)) hb, fold_texts hb l _ (fun u hu => h u (by simp [hu])), List.append_assoc]
    rfl

/-- tokens written one by one, with blanks between, are split as they were. -/
theorem split_again {b : Nat} (hb : isBlank b) {l : List Tok} (h : ∀ t ∈ l, okTok t) : splitN (l.flatMap fun t => textOf t ++ [b]) = some l := by
  rw [splitN, fold_texts hb l [] h]
  rfl

/-! ### runes -/
/-- what is no letter of ASCII is one thing. -/
theorem gapS_wide (out : List Tok) {c : Nat} (h : 128 ≤ c) : gapS out c = (out, .err) := by
  rw [gapS, if_neg (by unfold isBlank; omega), if_neg (by omega), if_neg (by unfold isLetter; omega), if_neg (by unfold isDigit; omega), if_neg (by omega)]

theorem stepS_wide (x : List Tok × TS) {c d : Nat} (hc : 128 ≤ c) (hd : 128 ≤ d) : stepS x c = stepS x d ∧ stepS (stepS x c) d = stepS x c := by
  obtain ⟨out, st⟩ := x
  have e : ∀ {c : Nat}, 128 ≤ c → ¬ isLetter c ∧ ¬ isDigit c ∧ ¬ c = 58 ∧ ¬ c = 10 := fun h => ⟨by unfold isLetter; omega, by unfold isDigit; omega, by omega, by omega⟩
  obtain ⟨c1, c2, c3, c4⟩ := e hc
  obtain ⟨d1, d2, d3, d4⟩ := e hd
  cases st with
  | gap => simp only [stepS, gapS_wide _ hc, gapS_wide _ hd, and_self]
  | note => simp only [stepS, if_neg c4, if_neg d4, and_self]
  | word w => simp only [stepS, if_neg c1, if_neg c3, if_neg d1, if_neg d3, gapS_wide _ hc, gapS_wide _ hd, and_self]
  | minus => simp only [stepS, if_neg c2, if_neg d2, and_self]
  | num neg n => simp only [stepS, if_neg c2, if_neg d2, gapS_wide _ hc, gapS_wide _ hd, and_self]
  | err => exact ⟨rfl, rfl⟩

theorem fold_wide (r : Nat) (hr : 128 ≤ r) : ∀ (g : List Nat) (x : List Tok × TS), g ≠ [] → (∀ c ∈ g, 128 ≤ c) → foldS x g = stepS x r
  | [], _, h, _ => absurd rfl h
  | [c], x, _, h => (stepS_wide x (h c (by simp)) hr).1
  | c :: d :: g, x, _, h => by
    rw [foldS_cons, fold_wide r hr (d :: g) _ (by simp) (fun e he => h e (by simp [he])), (stepS_wide x (h c (by simp)) hr).2]
    exact (stepS_wide x (h c (by simp)) hr).1

end Go.Proofs.Ytgoamkneenmbgaa
