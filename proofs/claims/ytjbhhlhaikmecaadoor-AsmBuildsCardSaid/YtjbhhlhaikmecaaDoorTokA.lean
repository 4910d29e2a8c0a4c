/-
  A text's tokens, on plain bytes or runes: what is left to do, and how it goes on, step by step; for loops that go through a text by its places. No conditions but those that stand there.
-/
import Derived.Test.YtjbhhlhaikmecaaDoorTokR
namespace Go.Proofs.YtjbhhlhaikmecaaDoor

/-- what comes of the rest. -/
def ansS (st : TS) (out : List Tok) (rest : List Nat) : Option (List Tok) := finS (foldS (out, st) rest)

theorem ansS_split (l : List Nat) : ansS .gap [] l = splitN l := rfl
theorem ansS_cons (st : TS) (out : List Tok) (c : Nat) (r : List Nat) : ansS st out (c :: r) = finS (foldS (stepS (out, st) c) r) := rfl

theorem ans_err (out : List Tok) (r : List Nat) : ansS .err out r = none := by rw [ansS, fold_err]; rfl
theorem ans_end (out : List Tok) : ansS .gap out [] = some out := rfl
theorem ans_blank (out : List Tok) {c : Nat} (r : List Nat) (h : isBlank c) : ansS .gap out (c :: r) = ansS .gap out r := by
  rw [ansS_cons, show stepS (out, .gap) c = (out, .gap) from gapS_blank out h]; rfl
theorem ans_hash (out : List Tok) (r : List Nat) : ansS .gap out (35 :: r) = ansS .note out r := rfl
theorem ans_note (out : List Tok) {c : Nat} (r : List Nat) (h : c ≠ 10) : ansS .note out (c :: r) = ansS .note out r := by
  rw [ansS_cons, stepS, if_neg h]; rfl
theorem ans_noted (out : List Tok) (rest : List Nat) (h : ∀ d r, rest = d :: r → d = 10) : ansS .note out rest = ansS .gap out rest := by
  cases rest with
  | nil => rfl
  | cons d r => obtain rfl := h d r rfl; rfl
theorem ans_letter (out : List Tok) {c : Nat} (r : List Nat) (h : isLetter c) : ansS .gap out (c :: r) = ansS (.word [c]) out r := by
  rw [ansS_cons, show stepS (out, .gap) c = (out, .word [c]) from gapS_letter out h]; rfl
theorem ans_word (out : List Tok) (w : List Nat) {c : Nat} (r : List Nat) (h : isLetter c) : ansS (.word w) out (c :: r) = ansS (.word (w ++ [c])) out r := by
  rw [ansS_cons, stepS, if_pos h]; rfl
theorem ans_label (out : List Tok) (w : List Nat) (r : List Nat) : ansS (.word w) out (58 :: r) = ansS .gap (out ++ [⟨3, w, 0⟩]) r := rfl
theorem ans_worded (out : List Tok) (w rest : List Nat) (h : ∀ d r, rest = d :: r → ¬ isLetter d ∧ d ≠ 58) : ansS (.word w) out rest = ansS .gap (out ++ [⟨1, w, 0⟩]) rest := by
  cases rest with
  | nil => rfl
  | cons d r =>
    obtain ⟨h1, h2⟩ := h d r rfl
    rw [ansS_cons, show stepS (out, .word w) d = gapS (out ++ [⟨1, w, 0⟩]) d by rw [stepS, if_neg h1, if_neg h2]]
    rfl
theorem ans_digit (out : List Tok) {c : Nat} (r : List Nat) (h : isDigit c) : ansS .gap out (c :: r) = ansS (.num false (c - 48)) out r := by
  obtain ⟨d, hd, rfl⟩ : ∃ d, d < 10 ∧ c = 48 + d := ⟨c - 48, by unfold isDigit at h; omega, by unfold isDigit at h; omega⟩
  rw [ansS_cons, show stepS (out, .gap) (48 + d) = (out, .num false d) from gapS_digit out hd, Nat.add_sub_cancel_left]
  rfl
theorem ans_minus (out : List Tok) {c : Nat} (r : List Nat) (h : isDigit c) : ansS .gap out (45 :: c :: r) = ansS (.num true (c - 48)) out r := by
  rw [ansS_cons, show stepS (out, .gap) 45 = (out, .minus) from rfl, foldS_cons, stepS, if_pos h]; rfl
theorem ans_minus_no (out : List Tok) (rest : List Nat) (h : ∀ d r, rest = d :: r → ¬ isDigit d) : ansS .gap out (45 :: rest) = none := by
  rw [ansS_cons, show stepS (out, .gap) 45 = (out, .minus) from rfl]
  cases rest with
  | nil => rfl
  | cons d r => rw [foldS_cons, stepS, if_neg (h d r rfl)]; exact ans_err out r
theorem ans_num (out : List Tok) (neg : Bool) (n : Nat) {c : Nat} (r : List Nat) (h : isDigit c) (hn : 10 * n + (c - 48) ≤ 1099511627776) : ansS (.num neg n) out (c :: r) = ansS (.num neg (10 * n + (c - 48))) out r := by
  rw [ansS_cons, stepS, if_pos h, if_neg (by omega)]; rfl
theorem ans_num_much (out : List Tok) (neg : Bool) (n : Nat) {c : Nat} (r : List Nat) (h : isDigit c) (hn : 1099511627776 < 10 * n + (c - 48)) : ansS (.num neg n) out (c :: r) = none := by
  rw [ansS_cons, stepS, if_pos h, if_pos hn]; exact ans_err out r
theorem ans_numbered (out : List Tok) (neg : Bool) (n : Nat) (rest : List Nat) (h : ∀ d r, rest = d :: r → ¬ isDigit d) : ansS (.num neg n) out rest = ansS .gap (out ++ [⟨2, [], signed neg n⟩]) rest := by
  cases rest with
  | nil => rfl
  | cons d r =>
    rw [ansS_cons, show stepS (out, .num neg n) d = gapS (out ++ [⟨2, [], signed neg n⟩]) d by rw [stepS, if_neg (h d r rfl)]]
    rfl
/-- a number in a gap, as if nought stood ahead of it. -/
theorem ans_zero (out : List Tok) {c : Nat} (r : List Nat) (h : isDigit c) : ansS .gap out (c :: r) = ansS (.num false 0) out (c :: r) := by
  rw [ans_digit out r h, ans_num out false 0 r h (by unfold isDigit at h; omega)]
  simp
theorem ans_minus_zero (out : List Tok) {c : Nat} (r : List Nat) (h : isDigit c) : ansS .gap out (45 :: c :: r) = ansS (.num true 0) out (c :: r) := by
  rw [ans_minus out r h, ans_num out true 0 r h (by unfold isDigit at h; omega)]
  simp
/-- all else. -/
theorem ans_other (out : List Tok) {c : Nat} (r : List Nat) (h1 : ¬ isBlank c) (h2 : c ≠ 35) (h3 : ¬ isLetter c) (h4 : ¬ isDigit c) (h5 : c ≠ 45) : ansS .gap out (c :: r) = none := by
  rw [ansS_cons, show stepS (out, .gap) c = (out, .err) by rw [stepS, gapS, if_neg h1, if_neg h2, if_neg h3, if_neg h4, if_neg h5]]
  exact ans_err out r

end Go.Proofs.YtjbhhlhaikmecaaDoor
