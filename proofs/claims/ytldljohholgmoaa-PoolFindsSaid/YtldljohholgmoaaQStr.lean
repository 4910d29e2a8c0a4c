/-
  Words and contracts of this claim, 23 texts laid into one, each under its own remark. No conditions but those that stand at each.
-/
import Derived.Test.YtldljohholgmoaaRows
import Derived.Laws.RangeAny
import Derived.IntWalk
import Derived.WalkKit
import Derived.Lib.SmallJoins

/-
  A string's bytes as a list of numbers. No conditions.
-/
namespace Go.Proofs.Ytldljohholgmoaa

/-- a string's bytes, as numbers. -/
def bL (s : ByteArray) : List Nat := s.data.toList.map (·.toNat)

theorem bL_length (s : ByteArray) : (bL s).length = s.size := by simp [bL]
theorem bL_lt (s : ByteArray) : ∀ b ∈ bL s, b < 256 := by
  intro b hb
  obtain ⟨x, _, rfl⟩ := List.mem_map.1 hb
  exact x.toNat_lt
theorem bL_get (s : ByteArray) (i : Nat) (h : i < s.size) : (bL s)[i]? = some (s[i]'h).toNat := by
  have : s.data.toList[i]? = some (s[i]'h) := by
    rw [Array.getElem?_toList]
    exact Array.getElem?_eq_getElem h
  simp [bL, this]
theorem bL_take (s : ByteArray) (i : Nat) (h : i < s.size) : (bL s).take (i + 1) = (bL s).take i ++ [(s[i]'h).toNat] := by
  rw [List.take_add_one, bL_get s i h]
  rfl
theorem bL_take_lt (s : ByteArray) (i : Nat) : ∀ b ∈ (bL s).take i, b < 256 := fun b hb => bL_lt s b (List.mem_of_mem_take hb)
theorem bL_append (s t : ByteArray) : bL (s ++ t) = bL s ++ bL t := by simp [bL]

end Go.Proofs.Ytldljohholgmoaa

/-
  A text's tokens, on plain bytes: one byte at a time. No conditions but those that stand there.
-/
namespace Go.Proofs.Ytldljohholgmoaa

structure Tok where
  kind : Nat
  word : List Nat
  n : Int

/-- between tokens, in a note, in a word, behind a minus, in a number, gone wrong. -/
inductive TS where
  | gap
  | note
  | word (w : List Nat)
  | minus
  | num (neg : Bool) (n : Nat)
  | err

def signed (neg : Bool) (n : Nat) : Int := if neg = true then -(n : Int) else (n : Int)
def isLetter (c : Nat) : Prop := 97 ≤ c ∧ c ≤ 122
def isDigit (c : Nat) : Prop := 48 ≤ c ∧ c ≤ 57
def isBlank (c : Nat) : Prop := c = 32 ∨ c = 10 ∨ c = 9
instance (c : Nat) : Decidable (isLetter c) := inferInstanceAs (Decidable (_ ∧ _))
instance (c : Nat) : Decidable (isDigit c) := inferInstanceAs (Decidable (_ ∧ _))
instance (c : Nat) : Decidable (isBlank c) := inferInstanceAs (Decidable (_ ∨ _))

def gapS (out : List Tok) (c : Nat) : List Tok × TS :=
  if isBlank c then (out, .gap)
  else if c = 35 then (out, .note)
  else if isLetter c then (out, .word [c])
  else if isDigit c then (out, .num false (c - 48))
  else if c = 45 then (out, .minus)
  else (out, .err)

def stepS : List Tok × TS → Nat → List Tok × TS
  | (out, .gap), c => gapS out c
  | (out, .note), c => if c = 10 then (out, .gap) else (out, .note)
  | (out, .word w), c => if isLetter c then (out, .word (w ++ [c])) else if c = 58 then (out ++ [⟨3, w, 0⟩], .gap) else gapS (out ++ [⟨1, w, 0⟩]) c
  | (out, .minus), c => if isDigit c then (out, .num true (c - 48)) else (out, .err)
  | (out, .num neg n), c => if isDigit c then (if 1099511627776 < 10 * n + (c - 48) then (out, .err) else (out, .num neg (10 * n + (c - 48)))) else gapS (out ++ [⟨2, [], signed neg n⟩]) c
  | (out, .err), _ => (out, .err)

def finS : List Tok × TS → Option (List Tok)
  | (out, .gap) => some out
  | (out, .note) => some out
  | (out, .word w) => some (out ++ [⟨1, w, 0⟩])
  | (_, .minus) => none
  | (out, .num neg n) => some (out ++ [⟨2, [], signed neg n⟩])
  | (_, .err) => none

def foldS (x : List Tok × TS) (l : List Nat) : List Tok × TS := l.foldl stepS x
def splitN (l : List Nat) : Option (List Tok) := finS (foldS ([], .gap) l)

theorem foldS_nil (x : List Tok × TS) : foldS x [] = x := rfl
theorem foldS_cons (x : List Tok × TS) (c : Nat) (l : List Nat) : foldS x (c :: l) = foldS (stepS x c) l := rfl
theorem foldS_append (x : List Tok × TS) (l m : List Nat) : foldS x (l ++ m) = foldS (foldS x l) m := List.foldl_append

/-! ### what is out stays out -/
def preS (p : List Tok) (x : List Tok × TS) : List Tok × TS := (p ++ x.1, x.2)

theorem gapS_pre (p out : List Tok) (c : Nat) : gapS (p ++ out) c = preS p (gapS out c) := by
  unfold gapS preS
  repeat' split
  all_goals rfl

theorem stepS_pre (p : List Tok) (x : List Tok × TS) (c : Nat) : stepS (preS p x) c = preS p (stepS x c) := by
  obtain ⟨out, st⟩ := x
  cases st with
  | gap => exact gapS_pre p out c
  | note => show (if c = 10 then _ else _) = preS p (if c = 10 then _ else _); split <;> rfl
  | word w =>
    show (if isLetter c then _ else if c = 58 then _ else gapS (p ++ out ++ [⟨1, w, 0⟩]) c) = preS p (if isLetter c then _ else if c = 58 then _ else gapS (out ++ [⟨1, w, 0⟩]) c)
    have e := gapS_pre p (out ++ [(⟨1, w, 0⟩ : Tok)]) c
    rw [← List.append_assoc] at e
    rw [e]
    repeat' split
    all_goals simp [preS]
  | minus => show (if isDigit c then _ else _) = preS p (if isDigit c then _ else _); split <;> rfl
  | num neg n =>
    show (if isDigit c then (if _ then _ else _) else gapS (p ++ out ++ [⟨2, [], signed neg n⟩]) c) = preS p (if isDigit c then (if _ then _ else _) else gapS (out ++ [⟨2, [], signed neg n⟩]) c)
    have e := gapS_pre p (out ++ [(⟨2, [], signed neg n⟩ : Tok)]) c
    rw [← List.append_assoc] at e
    rw [e]
    repeat' split
    all_goals simp [preS]
  | err => rfl

theorem foldS_pre (p : List Tok) : ∀ (l : List Nat) (x : List Tok × TS), foldS (preS p x) l = preS p (foldS x l)
  | [], _ => rfl
  | c :: l, x => by rw [foldS_cons, foldS_cons, stepS_pre, foldS_pre p l]

theorem finS_pre (p : List Tok) (x : List Tok × TS) : finS (preS p x) = (finS x).map (p ++ ·) := by
  obtain ⟨out, st⟩ := x
  cases st <;> simp [finS, preS]

theorem fold_from (out : List Tok) (l : List Nat) : finS (foldS (out, .gap) l) = (splitN l).map (out ++ ·) := by
  have h := foldS_pre out l ([], .gap)
  rw [show preS out ([], TS.gap) = (out, .gap) by simp [preS]] at h
  rw [h, finS_pre]
  rfl

theorem fold_err : ∀ (l : List Nat) (out : List Tok), foldS (out, .err) l = (out, .err)
  | [], _ => rfl
  | _ :: l, out => by rw [foldS_cons]; exact fold_err l out

/-! ### blanks and notes -/
theorem gapS_blank (out : List Tok) {b : Nat} (hb : isBlank b) : gapS out b = (out, .gap) := by rw [gapS, if_pos hb]

theorem blank_other {b : Nat} (hb : isBlank b) : ¬ isLetter b ∧ ¬ isDigit b ∧ b ≠ 58 := by
  unfold isBlank at hb
  unfold isLetter isDigit
  omega

theorem step_blank {x : List Tok × TS} {o : List Tok} {b : Nat} (hf : finS x = some o) (hn : x.2 ≠ .note) (hb : isBlank b) : stepS x b = (o, .gap) := by
  obtain ⟨h1, h2, h3⟩ := blank_other hb
  obtain ⟨out, st⟩ := x
  cases st with
  | gap => injection hf with hf; subst hf; exact gapS_blank _ hb
  | note => exact absurd rfl hn
  | word w => injection hf with hf; subst hf; rw [stepS, if_neg h1, if_neg h3, gapS_blank _ hb]
  | minus => cases hf
  | num neg n => injection hf with hf; subst hf; rw [stepS, if_neg h2, gapS_blank _ hb]
  | err => cases hf

theorem step_blank_no {x : List Tok × TS} {b : Nat} (hf : finS x = none) (hb : isBlank b) : ∃ o, stepS x b = (o, .err) := by
  obtain ⟨h1, h2, h3⟩ := blank_other hb
  obtain ⟨out, st⟩ := x
  cases st with
  | minus => exact ⟨out, by rw [stepS, if_neg h2]⟩
  | err => exact ⟨out, rfl⟩
  | _ => cases hf

theorem gapS_note {out : List Tok} {c : Nat} (hc : c ≠ 35) : (gapS out c).2 ≠ .note := by
  unfold gapS
  rw [if_neg (show ¬ c = 35 from hc)]
  repeat' split
  all_goals simp

theorem step_note {x : List Tok × TS} {c : Nat} (hn : x.2 ≠ .note) (hc : c ≠ 35) : (stepS x c).2 ≠ .note := by
  obtain ⟨out, st⟩ := x
  cases st with
  | gap => exact gapS_note hc
  | note => exact absurd rfl hn
  | word w =>
    rw [stepS]
    split
    · simp
    · split
      · simp
      · exact gapS_note hc
  | minus => rw [stepS]; split <;> simp
  | num neg n =>
    rw [stepS]
    split
    · split <;> simp
    · exact gapS_note hc
  | err => simp [stepS]

theorem fold_note : ∀ (l : List Nat) (x : List Tok × TS), x.2 ≠ .note → 35 ∉ l → (foldS x l).2 ≠ .note
  | [], _, h, _ => h
  | c :: l, x, h, hl => by
    rw [foldS_cons]
    exact fold_note l _ (step_note h (fun e => hl (by simp [e]))) (fun e => hl (by simp [e]))

/-- two texts with a blank between. -/
theorem split_join (s t : List Nat) (b : Nat) (hb : isBlank b) (hs : 35 ∉ s) : splitN (s ++ b :: t) = (splitN s).bind fun a => (splitN t).map (a ++ ·) := by
  have hn : (foldS ([], .gap) s).2 ≠ .note := fold_note s _ (by simp) hs
  rw [splitN, foldS_append, foldS_cons]
  cases hf : splitN s with
  | some o => rw [step_blank hf hn hb, fold_from]; rfl
  | none =>
    obtain ⟨o, ho⟩ := step_blank_no hf hb
    rw [ho, fold_err]
    rfl

theorem fold_in_note (out : List Tok) : ∀ (l : List Nat), 10 ∉ l → foldS (out, .note) l = (out, .note)
  | [], _ => rfl
  | c :: l, h => by
    have hc : c ≠ 10 := fun e => h (by simp [e])
    rw [foldS_cons, show stepS (out, .note) c = (out, .note) by rw [stepS, if_neg hc]]
    exact fold_in_note out l (fun e => h (by simp [e]))

/-- a note between two texts. -/
theorem split_noted (s t note : List Nat) (hs : 35 ∉ s) (hn : 10 ∉ note) : splitN (s ++ 32 :: 35 :: (note ++ 10 :: t)) = (splitN s).bind fun a => (splitN t).map (a ++ ·) := by
  rw [split_join s _ 32 (.inl rfl) hs]
  have h : splitN (35 :: (note ++ 10 :: t)) = splitN t := by
    rw [splitN, foldS_cons, show stepS (([], .gap) : List Tok × TS) 35 = ([], .note) from rfl, foldS_append, fold_in_note _ _ hn, foldS_cons]
    rfl
  rw [h]

/-! ### kinds -/
def okTok (t : Tok) : Prop := (t.kind = 2 ∧ t.word = [] ∧ -1099511627776 ≤ t.n ∧ t.n ≤ 1099511627776) ∨ ((t.kind = 1 ∨ t.kind = 3) ∧ t.word ≠ [] ∧ (∀ c ∈ t.word, isLetter c) ∧ t.n = 0)

def okTS : TS → Prop
  | .word w => w ≠ [] ∧ ∀ c ∈ w, isLetter c
  | .num _ n => n ≤ 1099511627776
  | _ => True

def okS (x : List Tok × TS) : Prop := (∀ t ∈ x.1, okTok t) ∧ okTS x.2

theorem okTok_word {w : List Nat} (h : w ≠ [] ∧ ∀ c ∈ w, isLetter c) : okTok ⟨1, w, 0⟩ := .inr ⟨.inl rfl, h.1, h.2, rfl⟩
theorem okTok_label {w : List Nat} (h : w ≠ [] ∧ ∀ c ∈ w, isLetter c) : okTok ⟨3, w, 0⟩ := .inr ⟨.inr rfl, h.1, h.2, rfl⟩
theorem okTok_num {neg : Bool} {n : Nat} (h : n ≤ 1099511627776) : okTok ⟨2, [], signed neg n⟩ := by
  refine .inl ⟨rfl, rfl, ?_⟩
  unfold signed
  split <;> simp only <;> omega

theorem ok_snoc {out : List Tok} {t : Tok} (h : ∀ t ∈ out, okTok t) (ht : okTok t) : ∀ u ∈ out ++ [t], okTok u := by
  intro u hu
  rcases List.mem_append.1 hu with hu | hu
  · exact h u hu
  · rw [List.mem_singleton.1 hu]; exact ht

theorem ok_gapS {out : List Tok} (h : ∀ t ∈ out, okTok t) (c : Nat) : okS (gapS out c) := by
  unfold gapS
  split
  · exact ⟨h, trivial⟩
  · split
    · exact ⟨h, trivial⟩
    · split
      · rename_i hl
        exact ⟨h, by simp, by intro d hd; rw [List.mem_singleton.1 hd]; exact hl⟩
      · split
        · rename_i hd
          exact ⟨h, by unfold isDigit at hd; simp only [okTS]; omega⟩
        · split <;> exact ⟨h, trivial⟩

theorem ok_step {x : List Tok × TS} (h : okS x) (c : Nat) : okS (stepS x c) := by
  obtain ⟨out, st⟩ := x
  obtain ⟨h1, h2⟩ := h
  cases st with
  | gap => exact ok_gapS h1 c
  | note => rw [stepS]; split <;> exact ⟨h1, trivial⟩
  | word w =>
    rw [stepS]
    split
    · rename_i hl
      refine ⟨h1, by simp, ?_⟩
      intro d hd
      rcases List.mem_append.1 hd with hd | hd
      · exact h2.2 d hd
      · rw [List.mem_singleton.1 hd]; exact hl
    · split
      · exact ⟨ok_snoc h1 (okTok_label h2), trivial⟩
      · exact ok_gapS (ok_snoc h1 (okTok_word h2)) c
  | minus =>
    rw [stepS]
    split
    · rename_i hd
      exact ⟨h1, by unfold isDigit at hd; simp only [okTS]; omega⟩
    · exact ⟨h1, trivial⟩
  | num neg n =>
    rw [stepS]
    split
    · split
      · exact ⟨h1, trivial⟩
      · rename_i hle
        exact ⟨h1, by simp only [okTS]; omega⟩
    · exact ok_gapS (ok_snoc h1 (okTok_num h2)) c
  | err => exact ⟨h1, trivial⟩

theorem ok_fold : ∀ (l : List Nat) (x : List Tok × TS), okS x → okS (foldS x l)
  | [], _, h => h
  | c :: l, x, h => by rw [foldS_cons]; exact ok_fold l _ (ok_step h c)

theorem ok_fin {x : List Tok × TS} (h : okS x) {o : List Tok} (hf : finS x = some o) : ∀ t ∈ o, okTok t := by
  obtain ⟨out, st⟩ := x
  obtain ⟨h1, h2⟩ := h
  cases st with
  | gap => injection hf with hf; subst hf; exact h1
  | note => injection hf with hf; subst hf; exact h1
  | word w => injection hf with hf; subst hf; exact ok_snoc h1 (okTok_word h2)
  | minus => cases hf
  | num neg n => injection hf with hf; subst hf; exact ok_snoc h1 (okTok_num h2)
  | err => cases hf

theorem split_ok {l : List Nat} {o : List Tok} (h : splitN l = some o) : ∀ t ∈ o, okTok t :=
  ok_fin (ok_fold l ([], .gap) ⟨by simp, trivial⟩) h

end Go.Proofs.Ytldljohholgmoaa

/-
  A text's tokens, on plain bytes: tokens written one by one are split as they were; runes in the place of bytes come to the same. No conditions but those that stand there.
-/
namespace Go.Proofs.Ytldljohholgmoaa

/-- a number's digits. -/
def decN (n : Nat) : List Nat := if n < 10 then [48 + n] else decN (n / 10) ++ [48 + n % 10]
termination_by n
decreasing_by omega

theorem decN_small {n : Nat} (h : n < 10) : decN n = [48 + n] := by rw [decN, if_pos h]
theorem decN_large {n : Nat} (h : ¬ n < 10) : decN n = decN (n / 10) ++ [48 + n % 10] := by rw [decN, if_neg h]

theorem digit_of (n : Nat) : isDigit (48 + n % 10) := by unfold isDigit; omega

theorem gapS_digit (out : List Tok) {d : Nat} (h : d < 10) : gapS out (48 + d) = (out, .num false d) := by
  have h1 : ¬ isBlank (48 + d) := by unfold isBlank; omega
  have h2 : ¬ 48 + d = 35 := by omega
  have h3 : ¬ isLetter (48 + d) := by unfold isLetter; omega
  have h4 : isDigit (48 + d) := by unfold isDigit; omega
  rw [gapS, if_neg h1, if_neg h2, if_neg h3, if_pos h4, Nat.add_sub_cancel_left]

theorem step_digit (out : List Tok) (neg : Bool) (n : Nat) {d : Nat} (h : d < 10) (hn : 10 * n + d ≤ 1099511627776) : stepS (out, .num neg n) (48 + d) = (out, .num neg (10 * n + d)) := by
  have h4 : isDigit (48 + d) := by unfold isDigit; omega
  rw [stepS, if_pos h4, Nat.add_sub_cancel_left, if_neg (by omega)]

/-- the digits of a number, behind what makes one of its first. -/
theorem fold_decN (x : List Tok × TS) (out : List Tok) (neg : Bool) (hx : ∀ d, d < 10 → stepS x (48 + d) = (out, .num neg d)) (n : Nat) : n ≤ 1099511627776 → foldS x (decN n) = (out, .num neg n) := by
  induction n using Nat.strongRecOn with
  | ind n ih =>
    intro hn
    by_cases h : n < 10
    · rw [decN_small h, foldS_cons, hx n h]; rfl
    · rw [decN_large h, foldS_append, ih (n / 10) (by omega) (by omega), foldS_cons, step_digit out neg (n / 10) (by omega) (by omega), foldS_nil, show 10 * (n / 10) + n % 10 = n by omega]

/-- an int's digits. -/
def decZ (n : Int) : List Nat := if n < 0 then 45 :: decN n.natAbs else decN n.natAbs

def textOf (t : Tok) : List Nat := if t.kind = 2 then decZ t.n else if t.kind = 3 then t.word ++ [58] else t.word

theorem fold_letters (out : List Tok) : ∀ (l w : List Nat), (∀ c ∈ l, isLetter c) → foldS (out, .word w) l = (out, .word (w ++ l))
  | [], w, _ => by simp [foldS_nil]
  | c :: l, w, h => by
    rw [foldS_cons, show stepS (out, .word w) c = (out, .word (w ++ [c])) by rw [stepS, if_pos (h c (by simp))], fold_letters out l _ (fun d hd => h d (by simp [hd])), List.append_assoc]
    rfl

theorem gapS_letter (out : List Tok) {c : Nat} (h : isLetter c) : gapS out c = (out, .word [c]) := by
  have h1 : ¬ isBlank c := by unfold isLetter at h; unfold isBlank; omega
  have h2 : ¬ c = 35 := by unfold isLetter at h; omega
  rw [gapS, if_neg h1, if_neg h2, if_pos h]

theorem fold_word (out : List Tok) {w : List Nat} (h0 : w ≠ []) (h : ∀ c ∈ w, isLetter c) : foldS (out, .gap) w = (out, .word w) := by
  cases w with
  | nil => exact absurd rfl h0
  | cons c w => rw [foldS_cons, show stepS (out, .gap) c = (out, .word [c]) from gapS_letter out (h c (by simp)), fold_letters out w _ (fun d hd => h d (by simp [hd]))]; rfl

theorem fold_text (out : List Tok) {t : Tok} (ht : okTok t) {b : Nat} (hb : isBlank b) : foldS (out, .gap) (textOf t ++ [b]) = (out ++ [t], .gap) := by
  obtain ⟨k, w, n⟩ := t
  rw [foldS_append, foldS_cons, foldS_nil]
  rcases ht with ⟨hk, hw, h1, h2⟩ | ⟨hk, hw, hl, hn⟩
  · simp only at hk hw h1 h2
    subst hk
    subst hw
    have hx : foldS (out, .gap) (textOf ⟨2, [], n⟩) = (out, .num (decide (n < 0)) n.natAbs) := by
      show foldS (out, .gap) (if (2 : Nat) = 2 then decZ n else _) = _
      rw [if_pos rfl, decZ]
      by_cases hneg : n < 0
      · rw [if_pos hneg, foldS_cons, show stepS (out, .gap) 45 = (out, .minus) from rfl]
        rw [fold_decN (out, .minus) out true (fun d hd => by rw [stepS, if_pos (by unfold isDigit; omega), Nat.add_sub_cancel_left]) _ (by omega)]
        simp [hneg]
      · rw [if_neg hneg, fold_decN (out, .gap) out false (fun d hd => gapS_digit out hd) _ (by omega)]
        simp [hneg]
    rw [hx]
    refine step_blank ?_ (by simp) hb
    show some (out ++ [⟨2, [], signed (decide (n < 0)) n.natAbs⟩]) = _
    have : signed (decide (n < 0)) n.natAbs = n := by
      unfold signed
      by_cases hneg : n < 0
      · rw [if_pos (by simpa using hneg)]; omega
      · rw [if_neg (by simpa using hneg)]; omega
    rw [this]
  · simp only at hk hw hl hn
    subst hn
    rcases hk with rfl | rfl
    · rw [show textOf ⟨1, w, 0⟩ = w from rfl, fold_word out hw hl]
      exact step_blank rfl (by simp) hb
    · rw [show textOf ⟨3, w, 0⟩ = w ++ [58] from rfl, foldS_append, fold_word out hw hl, foldS_cons, foldS_nil, stepS, if_neg (by unfold isLetter; omega), if_pos rfl]
      exact gapS_blank _ hb

theorem fold_texts {b : Nat} (hb : isBlank b) : ∀ (l out : List Tok), (∀ t ∈ l, okTok t) → foldS (out, .gap) (l.flatMap fun t => textOf t ++ [b]) = (out ++ l, .gap)
  | [], out, _ => by simp [foldS_nil]
  | t :: l, out, h => by
    rw [List.flatMap_cons, foldS_append, fold_text out (h t (by simp)) hb, fold_texts hb l _ (fun u hu => h u (by simp [hu])), List.append_assoc]
    rfl

/-- tokens written one by one, with blanks between, are split as they were. -/
theorem split_again {b : Nat} (hb : isBlank b) {l : List Tok} (h : ∀ t ∈ l, okTok t) : splitN (l.flatMap fun t => textOf t ++ [b]) = some l := by
  rw [splitN, fold_texts hb l [] h]
  rfl

/-! ### runes -/
/-- what is no letter of ASCII is one thing. -/
theorem gapS_wide (out : List Tok) {c : Nat} (h : 128 ≤ c) : gapS out c = (out, .err) := by
  rw [gapS, if_neg (by unfold isBlank; omega), if_neg (by omega), if_neg (by unfold isLetter; omega), if_neg (by unfold isDigit; omega), if_neg (by omega)]

theorem stepS_wide (x : List Tok × TS) {c d : Nat} (hc : 128 ≤ c) (hd : 128 ≤ d) : stepS x c = stepS x d ∧ stepS (stepS x c) d = stepS x c := by
  obtain ⟨out, st⟩ := x
  have e : ∀ {c : Nat}, 128 ≤ c → ¬ isLetter c ∧ ¬ isDigit c ∧ ¬ c = 58 ∧ ¬ c = 10 := fun h => ⟨by unfold isLetter; omega, by unfold isDigit; omega, by omega, by omega⟩
  obtain ⟨c1, c2, c3, c4⟩ := e hc
  obtain ⟨d1, d2, d3, d4⟩ := e hd
  cases st with
  | gap => simp only [stepS, gapS_wide _ hc, gapS_wide _ hd, and_self]
  | note => simp only [stepS, if_neg c4, if_neg d4, and_self]
  | word w => simp only [stepS, if_neg c1, if_neg c3, if_neg d1, if_neg d3, gapS_wide _ hc, gapS_wide _ hd, and_self]
  | minus => simp only [stepS, if_neg c2, if_neg d2, and_self]
  | num neg n => simp only [stepS, if_neg c2, if_neg d2, gapS_wide _ hc, gapS_wide _ hd, and_self]
  | err => exact ⟨rfl, rfl⟩

theorem fold_wide (r : Nat) (hr : 128 ≤ r) : ∀ (g : List Nat) (x : List Tok × TS), g ≠ [] → (∀ c ∈ g, 128 ≤ c) → foldS x g = stepS x r
  | [], _, h, _ => absurd rfl h
  | [c], x, _, h => (stepS_wide x (h c (by simp)) hr).1
  | c :: d :: g, x, _, h => by
    rw [foldS_cons, fold_wide r hr (d :: g) _ (by simp) (fun e he => h e (by simp [he])), (stepS_wide x (h c (by simp)) hr).2]
    exact (stepS_wide x (h c (by simp)) hr).1

end Go.Proofs.Ytldljohholgmoaa

/-
  Instructions out of tokens, and as a text, on plain numbers: one token at a time. No conditions but those that stand there.
-/
namespace Go.Proofs.Ytldljohholgmoaa

structure Ins where
  op : Int
  a : Int
  b : Int

def insAt (l : List Ins) (i : Nat) : Ins := l[i]?.getD ⟨0, 0, 0⟩

def namesN : List (List Nat) := [[], [112, 117, 115, 104], [108, 111, 97, 100], [107, 101, 101, 112], [103, 101, 116], [112, 117, 116], [97, 114, 103], [97, 100, 100], [115, 117, 98], [109, 117, 108], [100, 105, 118], [108, 101, 115, 115], [115, 97, 109, 101], [115, 107, 105, 112], [103, 111], [101, 109, 105, 116], [115, 116, 111, 112], [101, 110, 100]]

def takesN (op : Int) : Nat := if op = 4 ∨ op = 5 then 2 else if op = 1 ∨ op = 2 ∨ op = 3 ∨ op = 6 ∨ op = 13 ∨ op = 14 then 1 else 0
def jumpsN (op : Int) : Prop := op = 13 ∨ op = 14
instance (op : Int) : Decidable (jumpsN op) := inferInstanceAs (Decidable (_ ∨ _))
def wordN (op : Int) : List Nat := if 1 ≤ op ∧ op ≤ 17 then namesN.getD op.toNat [] else []
/-- the kind of a word: 0, if there is none. -/
def ofN (w : List Nat) : Int := match (namesN.drop 1).findIdx? (fun x => decide (x = w)) with
  | some i => (i : Int) + 1
  | none => 0

theorem of_word_nat : ∀ i, i < 17 → ofN (namesN.getD (i + 1) []) = (i : Int) + 1 := by decide
theorem word_letters_nat : ∀ i, i < 17 → namesN.getD (i + 1) [] ≠ [] ∧ ∀ c ∈ namesN.getD (i + 1) [], isLetter c := by decide

theorem op_nat {op : Int} (h : 1 ≤ op ∧ op ≤ 17) : ∃ i : Nat, i < 17 ∧ op = (i : Int) + 1 ∧ wordN op = namesN.getD (i + 1) [] := by
  refine ⟨op.toNat - 1, by omega, by omega, ?_⟩
  rw [wordN, if_pos h, show op.toNat - 1 + 1 = op.toNat by omega]

theorem of_word {op : Int} (h : 1 ≤ op ∧ op ≤ 17) : ofN (wordN op) = op := by
  obtain ⟨i, hi, rfl, hw⟩ := op_nat h
  rw [hw, of_word_nat i hi]

theorem word_letters {op : Int} (h : 1 ≤ op ∧ op ≤ 17) : wordN op ≠ [] ∧ ∀ c ∈ wordN op, isLetter c := by
  obtain ⟨i, hi, _, hw⟩ := op_nat h
  rw [hw]
  exact word_letters_nat i hi

theorem of_some {w : List Nat} (h : ofN w ≠ 0) : 1 ≤ ofN w ∧ ofN w ≤ 17 ∧ wordN (ofN w) = w := by
  unfold ofN at h ⊢
  cases hf : (namesN.drop 1).findIdx? (fun x => decide (x = w)) with
  | none => rw [hf] at h; exact absurd rfl h
  | some i =>
    rw [List.findIdx?_eq_some_iff_getElem] at hf
    obtain ⟨hi, hp, _⟩ := hf
    have hi' : i < 17 := hi
    simp only
    refine ⟨by omega, by omega, ?_⟩
    rw [wordN, if_pos (by omega), show ((i : Int) + 1).toNat = i + 1 by omega]
    have he := of_decide_eq_true hp
    rw [List.getElem_drop] at he
    rw [List.getD_eq_getElem?_getD, List.getElem?_eq_getElem (by show i + 1 < 18; omega)]
    simp only [Option.getD_some]
    rw [← he]
    congr 1
    omega

theorem of_nil : ofN [] = 0 := by decide

/-! ### tokens, one by one -/
inductive BM where
  | ready
  | want (op : Int)
  | more (op : Int) (a : Int)
  | bad (e : Nat)

structure BS where
  out : List Ins
  goals : List (List Nat)
  labs : List (List Nat × Nat)
  mode : BM

def pushB (x : BS) (i : Ins) (g : List Nat) : BS := if 64 < x.out.length + 1 then { x with mode := .bad 4 } else ⟨x.out ++ [i], x.goals ++ [g], x.labs, .ready⟩

def stepB (x : BS) (t : Tok) : BS := match x.mode with
  | .ready =>
    if t.kind = 3 then (if t.word ∈ x.labs.map (·.1) then { x with mode := .bad 10 } else { x with labs := x.labs ++ [(t.word, x.out.length)] })
    else if t.kind ≠ 1 ∨ ofN t.word = 0 then { x with mode := .bad 5 }
    else if takesN (ofN t.word) = 0 then pushB x ⟨ofN t.word, 0, 0⟩ []
    else { x with mode := .want (ofN t.word) }
  | .want op =>
    if jumpsN op then (if t.kind = 1 then pushB x ⟨op, 0, 0⟩ t.word else { x with mode := .bad 5 })
    else if t.kind ≠ 2 then { x with mode := .bad 5 }
    else if takesN op = 1 then pushB x ⟨op, t.n, 0⟩ []
    else { x with mode := .more op t.n }
  | .more op a => if t.kind ≠ 2 then { x with mode := .bad 5 } else pushB x ⟨op, a, t.n⟩ []
  | .bad _ => x

def foldB (x : BS) (l : List Tok) : BS := l.foldl stepB x

theorem foldB_nil (x : BS) : foldB x [] = x := rfl
theorem foldB_cons (x : BS) (t : Tok) (l : List Tok) : foldB x (t :: l) = foldB (stepB x t) l := rfl
theorem foldB_append (x : BS) (l m : List Tok) : foldB x (l ++ m) = foldB (foldB x l) m := List.foldl_append

/-- where a label stands: the last of its name; -1, if there is none. -/
def whereN (labs : List (List Nat × Nat)) (g : List Nat) : Int := labs.foldl (fun at_ p => if p.1 = g then (p.2 : Int) else at_) (-1)

/-- does the jump at place i lead somewhere? -/
def leads (labs : List (List Nat × Nat)) (goals : List (List Nat)) (i : Nat) : Prop := (i : Int) < whereN labs (goals[i]?.getD [])
def aimed (labs : List (List Nat × Nat)) (goals : List (List Nat)) (i : Nat) (x : Ins) : Ins := if jumpsN x.op then ⟨x.op, whereN labs (goals[i]?.getD []) - i - 1, x.b⟩ else x

/-- the end: instructions, or an error. -/
def finB (x : BS) : Except Nat (List Ins) := match x.mode with
  | .ready => if ∀ i < x.out.length, jumpsN (insAt x.out i).op → (i : Int) < whereN x.labs (x.goals[i]?.getD []) then .ok ((List.range x.out.length).map fun i => aimed x.labs x.goals i (insAt x.out i)) else .error 10
  | .want _ => .error 5
  | .more _ _ => .error 5
  | .bad e => .error e

def emptyB : BS := ⟨[], [], [], .ready⟩
def buildT (l : List Tok) : Except Nat (List Ins) := finB (foldB emptyB l)
/-- a text's instructions, or an error. -/
def buildN (s : List Nat) : Except Nat (List Ins) := if 4000 < s.length then .error 4 else match splitN s with
  | none => .error 9
  | some l => buildT l

/-! ### as a text -/
def labelN (n : Nat) : List Nat := [120, 97 + n / 26, 97 + n % 26]
/-- does a jump ahead of place i lead there? -/
def aimAt (l : List Ins) (i : Nat) : Prop := ∃ k, k < i ∧ k < l.length ∧ jumpsN (insAt l k).op ∧ (k : Int) + 1 + (insAt l k).a = i
instance (l : List Ins) (i : Nat) : Decidable (aimAt l i) := decidable_of_iff (∃ k, k < i ∧ (k < l.length ∧ jumpsN (insAt l k).op ∧ (k : Int) + 1 + (insAt l k).a = i)) Iff.rfl

def markT (l : List Ins) (i : Nat) : List (Tok × Nat) := if aimAt l i then [(⟨3, labelN i, 0⟩, 10)] else []
/-- an instruction's line, as tokens and what stands behind each. -/
def lineT (i : Nat) (x : Ins) : List (Tok × Nat) :=
  if jumpsN x.op then [(⟨1, wordN x.op, 0⟩, 32), (⟨1, labelN ((i : Int) + 1 + x.a).toNat, 0⟩, 10)]
  else if takesN x.op = 2 then [(⟨1, wordN x.op, 0⟩, 32), (⟨2, [], x.a⟩, 32), (⟨2, [], x.b⟩, 10)]
  else if takesN x.op = 1 then [(⟨1, wordN x.op, 0⟩, 32), (⟨2, [], x.a⟩, 10)]
  else [(⟨1, wordN x.op, 0⟩, 10)]
def upToT (l : List Ins) (n : Nat) : List (Tok × Nat) := (List.range n).flatMap fun i => markT l i ++ lineT i (insAt l i)
def tellT (l : List Ins) : List (Tok × Nat) := upToT l l.length ++ markT l l.length
def textT (l : List (Tok × Nat)) : List Nat := l.flatMap fun p => textOf p.1 ++ [p.2]
def tellN (l : List Ins) : List Nat := textT (tellT l)

/-- a known kind, with numbers that a text may have. -/
structure goodIns (x : Ins) : Prop where
  op : 1 ≤ x.op ∧ x.op ≤ 17
  noA : takesN x.op < 1 → x.a = 0
  noB : takesN x.op < 2 → x.b = 0
  a : -1099511627776 ≤ x.a ∧ x.a ≤ 1099511627776
  b : -1099511627776 ≤ x.b ∧ x.b ≤ 1099511627776
/-- may they be told? -/
structure tellable (l : List Ins) : Prop where
  len : l.length ≤ 64
  good : ∀ i, i < l.length → goodIns (insAt l i)
  jump : ∀ i, i < l.length → jumpsN (insAt l i).op → 0 ≤ (insAt l i).a ∧ (insAt l i).a ≤ (l.length : Int) - i - 1

def inI (x : Ins) : Prop := (-9223372036854775808 ≤ x.a ∧ x.a ≤ 9223372036854775807) ∧ (-9223372036854775808 ≤ x.b ∧ x.b ≤ 9223372036854775807)

theorem insAt_mem {l : List Ins} {i : Nat} (h : i < l.length) : insAt l i ∈ l := by
  rw [insAt, List.getElem?_eq_getElem h]
  exact List.getElem_mem _

theorem insAt_left {l : List Ins} {i : Nat} (h : i < l.length) (m : List Ins) : insAt (l ++ m) i = insAt l i := by
  unfold insAt
  rw [List.getElem?_append_left h]

end Go.Proofs.Ytldljohholgmoaa

/-
  Numbers as bytes, and a reader, on plain numbers: what is read of bytes, step by step. No conditions.
-/
namespace Go.Proofs.Ytldljohholgmoaa

/-- a reader's place, and whether it went wrong. -/
structure Rd where
  at_ : Int
  bad : Bool

/-- is there a next byte? -/
def Rd.ok (s : ByteArray) (r : Rd) : Bool := !r.bad && decide (0 ≤ r.at_) && decide (r.at_ < s.size)

def byteV (s : ByteArray) (r : Rd) : Nat := if r.ok s = true then (bL s)[r.at_.toNat]?.getD 0 else 0
def byteR (s : ByteArray) (r : Rd) : Rd := if r.ok s = true then ⟨r.at_ + 1, false⟩ else ⟨r.at_, true⟩

theorem getD_bL_lt (s : ByteArray) (j : Nat) : (bL s)[j]?.getD 0 < 256 := by
  rcases Nat.lt_or_ge j s.size with hj | hj
  · rw [bL_get s j hj]; exact UInt8.toNat_lt _
  · rw [List.getElem?_eq_none (by rw [bL_length]; exact hj)]; decide

theorem byteV_lt (s : ByteArray) (r : Rd) : byteV s r < 256 := by
  unfold byteV
  split
  · exact getD_bL_lt s _
  · decide

/-- so many bytes: where it is then. -/
def itR (s : ByteArray) : Nat → Rd → Rd
  | 0, r => r
  | k + 1, r => byteR s (itR s k r)

/-- so many bytes: the number so far. -/
def itU (s : ByteArray) : Nat → Rd → Nat
  | 0, _ => 0
  | k + 1, r => itU s k r * 256 % 18446744073709551616 + byteV s (itR s k r)

/-- a number below 2^64 as an int. -/
def sgn (u : Nat) : Int := RowKit.wrap64 (u : Int)

def numR (s : ByteArray) (r : Rd) : Rd := itR s 8 r
def numV (s : ByteArray) (r : Rd) : Int := if (numR s r).bad = true then 0 else sgn (itU s 8 r)

/-- so many numbers. -/
def itN (s : ByteArray) : Nat → Rd → Rd
  | 0, r => r
  | k + 1, r => numR s (itN s k r)
def numsOf (s : ByteArray) (n : Nat) (r : Rd) : List Int := (List.range n).map fun i => numV s (itN s i r)

/-- behind a list's count. -/
def numsA (s : ByteArray) (most : Int) (r : Rd) : Rd := if (byteR s r).bad = true ∨ most < (byteV s r : Int) then ⟨(byteR s r).at_, true⟩ else byteR s r
def numsR (s : ByteArray) (most : Int) (r : Rd) : Rd := itN s (byteV s r) (numsA s most r)
def numsL (s : ByteArray) (most : Int) (r : Rd) : List Int := if (numsR s most r).bad = true then [] else numsOf s (byteV s r) (numsA s most r)

def doneV (s : ByteArray) (r : Rd) : Bool := !r.bad && decide (r.at_ = s.size)

theorem itU_lt (s : ByteArray) : ∀ (k : Nat) (r : Rd), itU s k r < 18446744073709551616
  | 0, _ => by simp [itU]
  | k + 1, r => by
    have h := byteV_lt s (itR s k r)
    rw [itU]
    omega

/-- once wrong, always. -/
theorem byteR_bad {s : ByteArray} {r : Rd} (h : r.bad = true) : byteR s r = r := by
  cases r with
  | mk a b => simp only at h; subst h; simp [byteR, Rd.ok]
theorem itR_bad {s : ByteArray} {r : Rd} (h : r.bad = true) : ∀ k, itR s k r = r
  | 0 => rfl
  | k + 1 => by rw [itR, itR_bad h k, byteR_bad h]
theorem itN_bad {s : ByteArray} {r : Rd} (h : r.bad = true) : ∀ k, itN s k r = r
  | 0 => rfl
  | k + 1 => by rw [itN, itN_bad h k, numR, itR_bad h]
theorem itN_add (s : ByteArray) (r : Rd) (j : Nat) : ∀ k, itN s (j + k) r = itN s k (itN s j r)
  | 0 => rfl
  | k + 1 => by rw [← Nat.add_assoc, itN, itN, itN_add s r j k]
theorem itN_stays {s : ByteArray} {r : Rd} {j n : Nat} (h : (itN s j r).bad = true) (hj : j ≤ n) : itN s n r = itN s j r := by
  obtain ⟨k, rfl⟩ := Nat.exists_eq_add_of_le hj
  rw [itN_add, itN_bad h]

theorem byteV_of {s : ByteArray} {i : Nat} (h : i < s.size) : byteV s ⟨(i : Int), false⟩ = (s[i]'h).toNat := by
  have h' : (i : Int) < (s.size : Int) := by omega
  simp [byteV, Rd.ok, h', bL_get s i h]
theorem byteR_of {s : ByteArray} {i : Nat} (h : i < s.size) : byteR s ⟨(i : Int), false⟩ = ⟨(i : Int) + 1, false⟩ := by
  have h' : (i : Int) < (s.size : Int) := by omega
  simp [byteR, Rd.ok, h']

theorem byteV_no {s : ByteArray} {r : Rd} (h : r.ok s = false) : byteV s r = 0 := by simp [byteV, h]
theorem byteR_no {s : ByteArray} {r : Rd} (h : r.ok s = false) : byteR s r = ⟨r.at_, true⟩ := by simp [byteR, h]
theorem ok_bad (s : ByteArray) (a : Int) : Rd.ok s ⟨a, true⟩ = false := by simp [Rd.ok]
theorem ok_neg (s : ByteArray) (a : Int) (h : ¬ 0 ≤ a) : Rd.ok s ⟨a, false⟩ = false := by simp [Rd.ok, h]
theorem ok_far (s : ByteArray) (a : Int) (h : ¬ a < (s.size : Int)) : Rd.ok s ⟨a, false⟩ = false := by simp [Rd.ok, h]

end Go.Proofs.Ytldljohholgmoaa

/-
  Bytes as a string, on plain numbers; rows the first of which are filled. No conditions but that bytes are below 256.
-/
namespace Go.Proofs.Ytldljohholgmoaa
open Go.RowKit

/-- the string of some bytes. -/
def strL (l : List Nat) : ByteArray := ⟨(l.map UInt8.ofNat).toArray⟩

theorem bL_strL (l : List Nat) (h : ∀ b ∈ l, b < 256) : bL (strL l) = l := by
  unfold bL strL
  simp only [List.map_map]
  conv => rhs; rw [← List.map_id l]
  apply List.map_congr_left
  intro b hb
  have := h b hb
  simp only [Function.comp_apply, id_eq]
  rw [UInt8.toNat_ofNat']
  omega

theorem strL_size (l : List Nat) : (strL l).size = l.length := by
  show ((l.map UInt8.ofNat).toArray).size = _
  simp

theorem fold_strL (l : List Nat) : (l.map fun n : Nat => (n : Int)).foldl (fun r n => r.push (UInt8.ofNat n.toNat)) ByteArray.empty = strL l := by
  have : ∀ (l : List Nat) (r : ByteArray), (l.map fun n : Nat => (n : Int)).foldl (fun r n => r.push (UInt8.ofNat n.toNat)) r = ⟨r.data ++ (l.map UInt8.ofNat).toArray⟩ := by
    intro l
    induction l with
    | nil => intro r; apply ByteArray.ext; simp
    | cons b l ih =>
      intro r
      rw [List.map_cons, List.foldl_cons, ih]
      apply ByteArray.ext
      simp
  rw [this]
  apply ByteArray.ext
  simp [strL]

/-- the first i as x has them, the others as y. -/
def mixF (N i : Nat) (x y : Nat → Nat) : List Nat := (List.range N).map fun j => if j < i then x j else y j

theorem mixF_length (N i : Nat) (x y : Nat → Nat) : (mixF N i x y).length = N := by simp [mixF]
theorem mixF_at (N i : Nat) (x y : Nat → Nat) (j : Nat) (h : j < N) : (mixF N i x y)[j]? = some (if j < i then x j else y j) := by simp [mixF, h]
theorem mixF_set (N i : Nat) (x y : Nat → Nat) (h : i < N) : (mixF N i x y).set i (x i) = mixF N (i + 1) x y := by
  apply List.ext_getElem?
  intro j
  by_cases hj : j < N
  · by_cases hij : i = j
    · subst hij
      rw [List.getElem?_set_self (by rw [mixF_length]; exact h), mixF_at _ _ _ _ _ h, if_pos (by omega)]
    · rw [List.getElem?_set_ne hij, mixF_at _ _ _ _ _ hj, mixF_at _ _ _ _ _ hj]
      by_cases hji : j < i
      · rw [if_pos hji, if_pos (by omega)]
      · rw [if_neg hji, if_neg (by omega)]
  · rw [List.getElem?_eq_none (by simp [mixF]; omega), List.getElem?_eq_none (by simp [mixF]; omega)]
theorem mixF_full (N : Nat) (x y : Nat → Nat) : mixF N N x y = (List.range N).map x := by
  unfold mixF
  apply List.map_congr_left
  intro j hj
  rw [if_pos (by simpa using hj)]

theorem mixF_nought (N : Nat) (x : Nat → Nat) : mixF N 0 x (fun _ => 0) = List.replicate N 0 := by
  apply List.ext_getElem?
  intro j
  by_cases hj : j < N
  · rw [mixF_at _ _ _ _ _ hj, if_neg (by omega), List.getElem?_replicate, if_pos hj]
  · rw [List.getElem?_eq_none (by simp [mixF]; omega), List.getElem?_eq_none (by simp; omega)]

end Go.Proofs.Ytldljohholgmoaa

/-
  Numbers as bytes, and lists of numbers, on plain numbers. No conditions but those that stand there.
-/
namespace Go.Proofs.Ytldljohholgmoaa
open Go.RowKit

theorem numsA_bad {s : ByteArray} {most : Int} {r : Rd} (h : (byteR s r).bad = true) : numsA s most r = byteR s r := by
  rw [numsA, if_pos (.inl h)]
  cases hb : byteR s r with
  | mk a b => rw [hb] at h; simp only at h; subst h; rfl

theorem numsA_much {s : ByteArray} {most : Int} {r : Rd} (h : most < (byteV s r : Int)) : numsA s most r = ⟨(byteR s r).at_, true⟩ := by
  rw [numsA, if_pos (.inr h)]

theorem numsA_fine {s : ByteArray} {most : Int} {r : Rd} (h : (byteR s r).bad = false) (h' : ¬ most < (byteV s r : Int)) : numsA s most r = byteR s r := by
  rw [numsA, if_neg (by rw [h]; simp [h'])]

theorem numsOf_length (s : ByteArray) (n : Nat) (r : Rd) : (numsOf s n r).length = n := by simp [numsOf]

def uOf (n : Int) : Nat := (n % 18446744073709551616).toNat

/-- the bytes of a number, the highest first. -/
def byteN (n : Int) (i : Nat) : Nat := uOf n / 2 ^ (8 * (7 - i)) % 256

def numB (n : Int) : List Nat := (List.range 8).map (byteN n)

theorem uOf_wrap (n : Int) : IntKind.u64.wrap n = ((uOf n : Nat) : Int) := by
  simp only [IntKind.wrap, IntKind.bits, IntKind.signed, uOf]
  simp
  omega

theorem byte_shift (n : Int) (i : Nat) : IntKind.u64.wrap n / 2 ^ (8 * (7 - i)) % 256 = ((byteN n i : Nat) : Int) := by
  rw [uOf_wrap, byteN]
  simp

theorem byteN_lt (n : Int) (i : Nat) : byteN n i < 256 := Nat.mod_lt _ (by decide)

theorem numB_length (n : Int) : (numB n).length = 8 := by simp [numB]

theorem numB_take (n : Int) (i : Nat) (h : i < 8) : (numB n).take (i + 1) = (numB n).take i ++ [byteN n i] := by
  rw [List.take_add_one]
  simp [numB, h]

/-- numbers' bytes, behind how many there are; of the first 255. -/
def numsB (l : List Int) : List Nat := min l.length 255 :: (l.take 255).flatMap numB

theorem flat_take (l : List Int) (i : Nat) (h : i < l.length) : (l.take (i + 1)).flatMap numB = (l.take i).flatMap numB ++ numB (l[i]?.getD 0) := by
  rw [List.take_add_one, List.flatMap_append, List.getElem?_eq_getElem h]
  simp

theorem byte_shift2 (n : Int) (i : Nat) (h : i < 8) : IntKind.u64.wrap n / 2 ^ (56 - 8 * i) % 256 = ((byteN n i : Nat) : Int) := by
  rw [← byte_shift, show 56 - 8 * i = 8 * (7 - i) by omega]

theorem strL_append (a b : List Nat) : strL a ++ strL b = strL (a ++ b) := by
  apply ByteArray.ext
  simp [strL]

theorem flat_length (l : List Int) : (l.flatMap numB).length = 8 * l.length := by
  induction l with
  | nil => rfl
  | cons x l ih => simp [numB_length] at ih ⊢; omega

end Go.Proofs.Ytldljohholgmoaa

/-
  There and back, on plain numbers: what is read of the bytes of numbers is those numbers; numbers from 0 on rise as their bytes do. No conditions but those that stand there.
-/
namespace Go.Proofs.Ytldljohholgmoaa
open Go.RowKit

theorem uOf_lt (n : Int) : uOf n < 18446744073709551616 := by unfold uOf; omega

theorem byteN_step (n : Int) (k : Nat) (h : k < 8) : uOf n / 2 ^ (8 * (8 - k)) * 256 + byteN n k = uOf n / 2 ^ (8 * (7 - k)) := by
  have e : 8 * (8 - k) = 8 * (7 - k) + 8 := by omega
  rw [byteN, e, Nat.pow_add, ← Nat.div_div_eq_div_mul]
  generalize uOf n / 2 ^ (8 * (7 - k)) = x
  omega

/-- the bytes of a number stand there. -/
def Stands (s : ByteArray) (p : Nat) (n : Int) : Prop := ∀ k, k < 8 → (bL s)[p + k]? = some (byteN n k)

theorem byte_there {s : ByteArray} {p b : Nat} (h : (bL s)[p]? = some b) : byteV s ⟨(p : Int), false⟩ = b ∧ byteR s ⟨(p : Int), false⟩ = ⟨((p + 1 : Nat) : Int), false⟩ := by
  have hp : p < s.size := by
    rcases Nat.lt_or_ge p s.size with h1 | h1
    · exact h1
    · rw [List.getElem?_eq_none (by rw [bL_length]; exact h1)] at h; cases h
  refine ⟨?_, by rw [byteR_of hp]; simp⟩
  rw [byteV_of hp]
  rw [bL_get s p hp] at h
  exact Option.some.inj h

theorem it_numB {s : ByteArray} {p : Nat} {n : Int} (h : Stands s p n) : ∀ k, k ≤ 8 → itR s k ⟨(p : Int), false⟩ = ⟨((p + k : Nat) : Int), false⟩ ∧ itU s k ⟨(p : Int), false⟩ = uOf n / 2 ^ (8 * (8 - k))
  | 0, _ => ⟨rfl, by
      have := uOf_lt n
      show 0 = uOf n / 2 ^ 64
      omega⟩
  | k + 1, hk => by
    obtain ⟨h1, h2⟩ := it_numB h k (by omega)
    obtain ⟨h3, h4⟩ := byte_there (h k (by omega))
    have hb := byteN_step n k (by omega)
    rw [itR, h1, h4, itU, h1, h2, h3]
    refine ⟨rfl, ?_⟩
    have hlt : uOf n / 2 ^ (8 * (8 - k)) < 72057594037927936 := by
      have := uOf_lt n
      have e : 2 ^ (8 * (8 - k)) = 2 ^ (8 * (7 - k)) * 256 := by rw [show 8 * (8 - k) = 8 * (7 - k) + 8 by omega, Nat.pow_add]
      have h1 : 1 ≤ 2 ^ (8 * (7 - k)) := Nat.one_le_two_pow
      rw [Nat.div_lt_iff_lt_mul (by omega)]
      omega
    rw [show 8 * (8 - (k + 1)) = 8 * (7 - k) by omega, ← hb]
    omega

theorem sgn_uOf (n : Int) (h : -9223372036854775808 ≤ n ∧ n ≤ 9223372036854775807) : sgn (uOf n) = n := by
  unfold sgn uOf wrap64
  omega

theorem num_back {s : ByteArray} {p : Nat} {n : Int} (h : Stands s p n) (hn : -9223372036854775808 ≤ n ∧ n ≤ 9223372036854775807) :
    numV s ⟨(p : Int), false⟩ = n ∧ numR s ⟨(p : Int), false⟩ = ⟨((p + 8 : Nat) : Int), false⟩ := by
  obtain ⟨h1, h2⟩ := it_numB h 8 (Nat.le_refl _)
  have hR : numR s ⟨(p : Int), false⟩ = ⟨((p + 8 : Nat) : Int), false⟩ := h1
  refine ⟨?_, hR⟩
  rw [numV, hR, if_neg (by simp), h2]
  have : uOf n / 2 ^ (8 * (8 - 8)) = uOf n := by simp
  rw [this, sgn_uOf n hn]

theorem itN_back {s : ByteArray} {p : Nat} {l : List Int} (h : ∀ i, i < l.length → Stands s (p + 8 * i) (l[i]?.getD 0)) (hn : ∀ x ∈ l, -9223372036854775808 ≤ x ∧ x ≤ 9223372036854775807) :
    ∀ i, i ≤ l.length → itN s i ⟨(p : Int), false⟩ = ⟨((p + 8 * i : Nat) : Int), false⟩
  | 0, _ => rfl
  | i + 1, hi => by
    have hx : l[i]?.getD 0 ∈ l := by
      rw [List.getElem?_eq_getElem (by omega)]
      exact List.getElem_mem _
    rw [itN, itN_back h hn i (by omega), (num_back (h i (by omega)) (hn _ hx)).2]
    rfl

theorem numsOf_back {s : ByteArray} {p : Nat} {l : List Int} (h : ∀ i, i < l.length → Stands s (p + 8 * i) (l[i]?.getD 0)) (hn : ∀ x ∈ l, -9223372036854775808 ≤ x ∧ x ≤ 9223372036854775807) :
    numsOf s l.length ⟨(p : Int), false⟩ = l := by
  apply List.ext_getElem?
  intro i
  by_cases hi : i < l.length
  · have hx : l[i]?.getD 0 ∈ l := by
      rw [List.getElem?_eq_getElem hi]
      exact List.getElem_mem _
    have := (num_back (h i hi) (hn _ hx)).1
    rw [numsOf, List.getElem?_map, List.getElem?_range hi]
    simp only [Option.map_some]
    rw [itN_back h hn i (by omega), this, List.getElem?_eq_getElem hi]
    rfl
  · rw [List.getElem?_eq_none (by rw [numsOf_length]; omega), List.getElem?_eq_none (by omega)]

/-- where a list of numbers stands, it is read. -/
theorem nums_back {s : ByteArray} {p : Nat} {l : List Int} {most : Int} (hc : (bL s)[p]? = some l.length) (h : ∀ i, i < l.length → Stands s (p + 1 + 8 * i) (l[i]?.getD 0)) (hn : ∀ x ∈ l, -9223372036854775808 ≤ x ∧ x ≤ 9223372036854775807)
    (hm : (l.length : Int) ≤ most) : numsL s most ⟨(p : Int), false⟩ = l ∧ numsR s most ⟨(p : Int), false⟩ = ⟨((p + 1 + 8 * l.length : Nat) : Int), false⟩ := by
  obtain ⟨h1, h2⟩ := byte_there hc
  have hA : numsA s most ⟨(p : Int), false⟩ = ⟨((p + 1 : Nat) : Int), false⟩ := by
    rw [numsA, h1, h2, if_neg (by simp; omega)]
  have hR : numsR s most ⟨(p : Int), false⟩ = ⟨((p + 1 + 8 * l.length : Nat) : Int), false⟩ := by
    rw [numsR, hA, h1, itN_back h hn _ (Nat.le_refl _)]
  refine ⟨?_, hR⟩
  rw [numsL, hR, if_neg (by simp), hA, h1, numsOf_back h hn]

/-- a list that is too long is none. -/
theorem nums_much {s : ByteArray} {p : Nat} {n : Nat} {most : Int} (hc : (bL s)[p]? = some n) (hm : most < (n : Int)) : numsL s most ⟨(p : Int), false⟩ = [] ∧ (numsR s most ⟨(p : Int), false⟩).bad = true := by
  obtain ⟨h1, h2⟩ := byte_there hc
  have hA : numsA s most ⟨(p : Int), false⟩ = ⟨((p + 1 : Nat) : Int), true⟩ := by rw [numsA_much (by rw [h1]; exact hm), h2]
  have hR : (numsR s most ⟨(p : Int), false⟩).bad = true := by rw [numsR, hA, itN_bad rfl]
  exact ⟨by rw [numsL, if_pos hR], hR⟩

theorem numB_at (n : Int) (k : Nat) (h : k < 8) : (numB n)[k]? = some (byteN n k) := by simp [numB, h]

theorem flat_at (l : List Int) (i k : Nat) (hi : i < l.length) (hk : k < 8) : (l.flatMap numB)[8 * i + k]? = some (byteN (l[i]?.getD 0) k) := by
  induction l generalizing i with
  | nil => simp at hi
  | cons x l ih =>
    cases i with
    | zero => rw [List.flatMap_cons, List.getElem?_append_left (by rw [numB_length]; omega)]; simpa using numB_at x k hk
    | succ i =>
      rw [List.flatMap_cons, List.getElem?_append_right (by rw [numB_length]; omega), numB_length, show 8 * (i + 1) + k - 8 = 8 * i + k by omega, ih i (by simpa using hi)]
      simp

theorem numsB_small {l : List Int} (h : l.length ≤ 255) : numsB l = l.length :: l.flatMap numB := by
  rw [numsB, List.take_of_length_le h, Nat.min_eq_left h]

theorem numB_lt (n : Int) : ∀ b ∈ numB n, b < 256 := by
  intro b hb
  obtain ⟨k, _, rfl⟩ := List.mem_map.1 hb
  exact byteN_lt n k
theorem flat_lt (l : List Int) : ∀ b ∈ l.flatMap numB, b < 256 := by
  intro b hb
  obtain ⟨x, _, hx⟩ := List.mem_flatMap.1 hb
  exact numB_lt x b hx
theorem numsB_lt (l : List Int) : ∀ b ∈ numsB l, b < 256 := by
  intro b hb
  rcases List.mem_cons.1 hb with rfl | hb
  · omega
  · exact flat_lt _ b hb

end Go.Proofs.Ytldljohholgmoaa

/-
  Instructions as bytes, on plain numbers: there and back. No conditions but those that stand there.
-/
namespace Go.Proofs.Ytldljohholgmoaa
open Go.RowKit

theorem takes_two (op : Int) : takesN op = 0 ∨ takesN op = 1 ∨ takesN op = 2 := by
  unfold takesN
  split
  · exact .inr (.inr rfl)
  · split
    · exact .inr (.inl rfl)
    · exact .inl rfl

/-! ### what was read stands there -/
theorem byte_fine {s : ByteArray} {p : Nat} (h : (byteR s ⟨(p : Int), false⟩).bad = false) : (bL s)[p]? = some (byteV s ⟨(p : Int), false⟩) ∧ byteR s ⟨(p : Int), false⟩ = ⟨((p + 1 : Nat) : Int), false⟩ := by
  have hp : p < s.size := by
    rcases Nat.lt_or_ge p s.size with h1 | h1
    · exact h1
    · rw [byteR_no (ok_far s (p : Int) (by omega))] at h
      cases h
  refine ⟨by rw [byteV_of hp, bL_get s p hp], by rw [byteR_of hp]; simp⟩

theorem it_fine {s : ByteArray} {p : Nat} : ∀ k, (itR s k ⟨(p : Int), false⟩).bad = false → itR s k ⟨(p : Int), false⟩ = ⟨((p + k : Nat) : Int), false⟩
  | 0, _ => rfl
  | k + 1, h => by
    have hk : (itR s k ⟨(p : Int), false⟩).bad = false := by
      cases hb : (itR s k ⟨(p : Int), false⟩).bad with
      | false => rfl
      | true => rw [itR, byteR_bad hb, hb] at h; cases h
    have ih := it_fine k hk
    rw [itR, ih] at h ⊢
    rw [(byte_fine h).2]
    rfl

theorem itR_bad_le {s : ByteArray} {r : Rd} {k : Nat} : ∀ m, k ≤ m → (itR s m r).bad = false → (itR s k r).bad = false := by
  intro m hm h
  cases hb : (itR s k r).bad with
  | false => rfl
  | true =>
    obtain ⟨d, rfl⟩ := Nat.exists_eq_add_of_le hm
    have key : ∀ d, (itR s (k + d) r).bad = true := by
      intro d
      induction d with
      | zero => exact hb
      | succ d ih => rw [← Nat.add_assoc, itR, byteR_bad ih]; exact ih
    rw [key d] at h
    cases h

theorem itU_pow (s : ByteArray) (r : Rd) : ∀ k, k ≤ 8 → itU s k r < 256 ^ k
  | 0, _ => by simp [itU]
  | k + 1, hk => by
    have ih := itU_pow s r k (by omega)
    have hb := byteV_lt s (itR s k r)
    have h1 : itU s k r * 256 % 18446744073709551616 ≤ itU s k r * 256 := Nat.mod_le _ _
    rw [itU, Nat.pow_succ]
    omega

theorem itU_step (s : ByteArray) (r : Rd) (k : Nat) (h : k < 8) : itU s (k + 1) r = itU s k r * 256 + byteV s (itR s k r) := by
  have h1 := itU_pow s r k (by omega)
  have h2 : 256 ^ k ≤ 256 ^ 7 := Nat.pow_le_pow_right (by omega) (by omega)
  rw [itU, Nat.mod_eq_of_lt]
  have h3 : (256 : Nat) ^ 7 = 72057594037927936 := by decide
  omega

theorem itU_div (s : ByteArray) (r : Rd) (k : Nat) : ∀ d, k + d ≤ 8 → itU s (k + d) r / 256 ^ d = itU s k r
  | 0, _ => by simp
  | d + 1, h => by
    have hb := byteV_lt s (itR s (k + d) r)
    rw [← Nat.add_assoc, itU_step s r (k + d) (by omega), Nat.pow_succ, Nat.mul_comm (256 ^ d), ← Nat.div_div_eq_div_mul, show (itU s (k + d) r * 256 + byteV s (itR s (k + d) r)) / 256 = itU s (k + d) r by omega, itU_div s r k d (by omega)]

theorem uOf_sgn (u : Nat) (h : u < 18446744073709551616) : uOf (sgn u) = u := by
  unfold uOf sgn wrap64
  omega

theorem sgn_in (u : Nat) : -9223372036854775808 ≤ sgn u ∧ sgn u ≤ 9223372036854775807 := by
  unfold sgn wrap64
  omega

/-- a number that was read stands there. -/
theorem num_fine {s : ByteArray} {p : Nat} (h : (numR s ⟨(p : Int), false⟩).bad = false) :
    numR s ⟨(p : Int), false⟩ = ⟨((p + 8 : Nat) : Int), false⟩ ∧ Stands s p (numV s ⟨(p : Int), false⟩) ∧ (-9223372036854775808 ≤ numV s ⟨(p : Int), false⟩ ∧ numV s ⟨(p : Int), false⟩ ≤ 9223372036854775807) := by
  have hV : numV s ⟨(p : Int), false⟩ = sgn (itU s 8 ⟨(p : Int), false⟩) := by rw [numV, if_neg (by rw [h]; decide)]
  refine ⟨it_fine 8 h, fun k hk => ?_, by rw [hV]; exact sgn_in _⟩
  have hk1 := it_fine k (itR_bad_le 8 (by omega) h)
  have hk2 : (byteR s ⟨((p + k : Nat) : Int), false⟩).bad = false := by
    have := itR_bad_le (k := k + 1) 8 (by omega) h
    rw [itR, hk1] at this
    exact this
  rw [(byte_fine hk2).1, hV, byteN, uOf_sgn _ (itU_lt s 8 _)]
  have h1 := itU_div s ⟨(p : Int), false⟩ (k + 1) (8 - (k + 1)) (by omega)
  rw [show k + 1 + (8 - (k + 1)) = 8 by omega, show 8 - (k + 1) = 7 - k by omega] at h1
  rw [Nat.pow_mul, show (2 : Nat) ^ 8 = 256 from rfl, h1, itU_step s _ k hk, hk1]
  have hb := byteV_lt s ⟨((p + k : Nat) : Int), false⟩
  congr 1
  omega

/-! ### instructions -/
def rightN (x : Ins) : Prop := (1 ≤ x.op ∧ x.op ≤ 17) ∧ (0 < takesN x.op ∨ x.a = 0) ∧ (1 < takesN x.op ∨ x.b = 0)
instance (x : Ins) : Decidable (rightN x) := inferInstanceAs (Decidable (_ ∧ _))

def insB (x : Ins) : List Nat := x.op.toNat :: ((if 0 < takesN x.op then numB x.a else []) ++ (if 1 < takesN x.op then numB x.b else []))
def printN (l : List Ins) : List Nat := l.flatMap insB

theorem insB_length (x : Ins) : (insB x).length = 1 + 8 * takesN x.op := by
  have h : takesN x.op ≤ 2 := by unfold takesN; split <;> (try split) <;> omega
  rw [insB, List.length_cons, List.length_append]
  split <;> split <;> simp [numB_length] <;> omega

theorem printN_length (l : List Ins) : (printN l).length = (l.map fun x => 1 + 8 * takesN x.op).sum := by
  induction l with
  | nil => rfl
  | cons x l ih => rw [printN, List.flatMap_cons, List.length_append, insB_length, List.map_cons, List.sum_cons, ← ih]; rfl

theorem insB_lt {x : Ins} (h : rightN x) : ∀ b ∈ insB x, b < 256 := by
  intro b hb
  obtain ⟨h1, -, -⟩ := h
  rcases List.mem_cons.1 hb with rfl | hb
  · omega
  · rcases List.mem_append.1 hb with hb | hb
    · split at hb
      · exact numB_lt _ b hb
      · cases hb
    · split at hb
      · exact numB_lt _ b hb
      · cases hb

theorem printN_lt {l : List Ins} (h : ∀ x ∈ l, rightN x) : ∀ b ∈ printN l, b < 256 := by
  intro b hb
  obtain ⟨x, hx, hb⟩ := List.mem_flatMap.1 hb
  exact insB_lt (h x hx) b hb

/-- the next instruction, as it stands there. -/
def insV (s : ByteArray) (r : Rd) : Ins := ⟨(byteV s r : Int), if 0 < takesN (byteV s r : Int) then numV s (byteR s r) else 0, if 1 < takesN (byteV s r : Int) then numV s (numR s (byteR s r)) else 0⟩
def insR (s : ByteArray) (r : Rd) : Rd := if 1 < takesN (byteV s r : Int) then numR s (numR s (byteR s r)) else if 0 < takesN (byteV s r : Int) then numR s (byteR s r) else byteR s r

/-- so many more, behind those that there are. -/
def rdI (s : ByteArray) : Nat → Rd → List Ins → Option (List Ins) × Rd
  | 0, r, out => (some out, r)
  | n + 1, r, out => if (insR s r).bad = true ∨ ¬ rightN (insV s r) then (none, ⟨(insR s r).at_, true⟩) else rdI s n (insR s r) (out ++ [insV s r])

theorem rdI_no {s : ByteArray} {n : Nat} {r : Rd} {out : List Ins} (h : (insR s r).bad = true ∨ ¬ rightN (insV s r)) : rdI s (n + 1) r out = (none, ⟨(insR s r).at_, true⟩) := by rw [rdI, if_pos h]
theorem rdI_yes {s : ByteArray} {n : Nat} {r : Rd} {out : List Ins} (h : (insR s r).bad = false) (h' : rightN (insV s r)) : rdI s (n + 1) r out = rdI s n (insR s r) (out ++ [insV s r]) := by
  rw [rdI, if_neg (by rw [h]; simp [h'])]

/-- the bytes stand there. -/
def StandsL (s : ByteArray) (p : Nat) (l : List Nat) : Prop := ∀ k, k < l.length → (bL s)[p + k]? = l[k]?

theorem StandsL.left {s : ByteArray} {p : Nat} {l m : List Nat} (h : StandsL s p (l ++ m)) : StandsL s p l := fun k hk => by
  rw [h k (by rw [List.length_append]; omega), List.getElem?_append_left hk]
theorem StandsL.right {s : ByteArray} {p : Nat} {l m : List Nat} (h : StandsL s p (l ++ m)) : StandsL s (p + l.length) m := fun k hk => by
  rw [Nat.add_assoc, h (l.length + k) (by rw [List.length_append]; omega), List.getElem?_append_right (by omega), Nat.add_sub_cancel_left]
theorem StandsL.append {s : ByteArray} {p : Nat} {l m : List Nat} (h : StandsL s p l) (h' : StandsL s (p + l.length) m) : StandsL s p (l ++ m) := fun k hk => by
  rw [List.length_append] at hk
  by_cases hl : k < l.length
  · rw [h k hl, List.getElem?_append_left hl]
  · have := h' (k - l.length) (by omega)
    rw [show p + l.length + (k - l.length) = p + k by omega] at this
    rw [this, List.getElem?_append_right (by omega)]
theorem StandsL.head {s : ByteArray} {p b : Nat} {l : List Nat} (h : StandsL s p (b :: l)) : (bL s)[p]? = some b := h 0 (by simp)
theorem StandsL.tail {s : ByteArray} {p b : Nat} {l : List Nat} (h : StandsL s p (b :: l)) : StandsL s (p + 1) l := fun k hk => by
  have := h (k + 1) (by simpa using hk)
  rw [show p + (k + 1) = p + 1 + k by omega] at this
  simpa using this
theorem StandsL.cons {s : ByteArray} {p b : Nat} {l : List Nat} (h : (bL s)[p]? = some b) (h' : StandsL s (p + 1) l) : StandsL s p (b :: l) := fun k hk => by
  cases k with
  | zero => exact h
  | succ k =>
    have := h' k (by simpa using hk)
    rw [show p + 1 + k = p + (k + 1) by omega] at this
    simpa using this
theorem stands_num {s : ByteArray} {p : Nat} {n : Int} (h : StandsL s p (numB n)) : Stands s p n := fun k hk => by
  rw [h k (by rw [numB_length]; exact hk), numB_at n k hk]
theorem num_stands {s : ByteArray} {p : Nat} {n : Int} (h : Stands s p n) : StandsL s p (numB n) := fun k hk => by
  rw [numB_length] at hk
  rw [h k hk, numB_at n k hk]

/-- an instruction that stands there is read. -/
theorem ins_back {s : ByteArray} {p : Nat} {x : Ins} (hx : rightN x) (hi : inI x) (h : StandsL s p (insB x)) : insV s ⟨(p : Int), false⟩ = x ∧ insR s ⟨(p : Int), false⟩ = ⟨((p + (insB x).length : Nat) : Int), false⟩ := by
  obtain ⟨⟨o1, o2⟩, ha, hb⟩ := hx
  obtain ⟨ia, ib⟩ := hi
  obtain ⟨op, a, b⟩ := x
  simp only at o1 o2 ha hb ia ib
  obtain ⟨h1, h2⟩ := byte_there h.head
  have hop : ((op.toNat : Nat) : Int) = op := by omega
  have ht := h.tail
  simp only at h1 ht
  have hlen := insB_length ⟨op, a, b⟩
  simp only at hlen
  have htl : takesN op ≤ 2 := by unfold takesN; split <;> (try split) <;> omega
  unfold insV insR
  rw [h1, h2, hop]
  by_cases t0 : 0 < takesN op
  · rw [if_pos t0] at ht
    obtain ⟨n1, n2⟩ := num_back (stands_num ht.left) ia
    by_cases t1 : 1 < takesN op
    · rw [if_pos t1] at ht
      have ht2 := ht.right
      rw [numB_length] at ht2
      obtain ⟨m1, m2⟩ := num_back (stands_num ht2) ib
      rw [if_pos t0, if_pos t1, if_pos t1, n1, n2, m1, m2]
      refine ⟨rfl, ?_⟩
      rw [hlen, show takesN op = 2 by omega]
    · have hb0 : b = 0 := by omega
      rw [if_pos t0, if_neg t1, if_neg t1, if_pos t0, n1, n2, hb0]
      refine ⟨rfl, ?_⟩
      subst hb0
      rw [hlen, show takesN op = 1 by omega]
  · have t1 : ¬ 1 < takesN op := by omega
    have ha0 : a = 0 := by omega
    have hb0 : b = 0 := by omega
    rw [if_neg t0, if_neg t1, if_neg t1, if_neg t0, ha0, hb0]
    refine ⟨rfl, ?_⟩
    subst ha0
    subst hb0
    rw [hlen, show takesN op = 0 by omega]

/-- there and back. -/
theorem rd_back {s : ByteArray} : ∀ (l : List Ins) (p : Nat) (out : List Ins), (∀ x ∈ l, rightN x ∧ inI x) → StandsL s p (printN l) → rdI s l.length ⟨(p : Int), false⟩ out = (some (out ++ l), ⟨((p + (printN l).length : Nat) : Int), false⟩)
  | [], p, out, _, _ => by simp [rdI, printN]
  | x :: l, p, out, h, hs => by
    obtain ⟨hx, hi⟩ := h x (by simp)
    rw [show printN (x :: l) = insB x ++ printN l from List.flatMap_cons] at hs ⊢
    obtain ⟨h1, h2⟩ := ins_back hx hi hs.left
    rw [List.length_cons, rdI_yes (by rw [h2]) (by rw [h1]; exact hx), h1, h2, rd_back l _ _ (fun y hy => h y (by simp [hy])) hs.right, List.append_assoc, List.length_append]
    simp only [List.singleton_append, Nat.add_assoc]

theorem byteR_keeps {s : ByteArray} {r : Rd} (h : (byteR s r).bad = false) : r.bad = false := by
  cases hb : r.bad with
  | false => rfl
  | true => rw [byteR_bad hb, hb] at h; cases h
theorem numR_keeps {s : ByteArray} {r : Rd} (h : (numR s r).bad = false) : r.bad = false := by
  cases hb : r.bad with
  | false => rfl
  | true => rw [numR, itR_bad hb, hb] at h; cases h

/-- what was read stands there. -/
theorem ins_fine {s : ByteArray} {p : Nat} (h : (insR s ⟨(p : Int), false⟩).bad = false) :
    insR s ⟨(p : Int), false⟩ = ⟨((p + (insB (insV s ⟨(p : Int), false⟩)).length : Nat) : Int), false⟩ ∧ StandsL s p (insB (insV s ⟨(p : Int), false⟩)) ∧ inI (insV s ⟨(p : Int), false⟩) := by
  have hlen := insB_length (insV s ⟨(p : Int), false⟩)
  rw [hlen]
  unfold insR at h ⊢
  have hop : (insV s ⟨(p : Int), false⟩).op = (byteV s ⟨(p : Int), false⟩ : Int) := rfl
  rw [hop]
  have htl : takesN (byteV s ⟨(p : Int), false⟩ : Int) ≤ 2 := by unfold takesN; split <;> (try split) <;> omega
  by_cases t1 : 1 < takesN (byteV s ⟨(p : Int), false⟩ : Int)
  · have t0 : 0 < takesN (byteV s ⟨(p : Int), false⟩ : Int) := by omega
    rw [if_pos t1] at h ⊢
    have hn := numR_keeps h
    obtain ⟨b1, b2⟩ := byte_fine (numR_keeps hn)
    rw [b2] at hn h ⊢
    obtain ⟨n1, n2, n3⟩ := num_fine hn
    rw [n1] at h ⊢
    obtain ⟨m1, m2, m3⟩ := num_fine h
    have hA : (insV s ⟨(p : Int), false⟩).a = numV s ⟨((p + 1 : Nat) : Int), false⟩ := by unfold insV; simp only; rw [if_pos t0, b2]
    have hB : (insV s ⟨(p : Int), false⟩).b = numV s ⟨((p + 1 + 8 : Nat) : Int), false⟩ := by unfold insV; simp only; rw [if_pos t1, b2, n1]
    refine ⟨by rw [m1, show takesN (byteV s ⟨(p : Int), false⟩ : Int) = 2 by omega], ?_, by rw [inI, hA, hB]; exact ⟨n3, m3⟩⟩
    unfold insB
    rw [hop, if_pos t0, if_pos t1, hA, hB]
    refine .cons (by simpa using b1) (.append (num_stands n2) ?_)
    rw [numB_length]
    exact num_stands m2
  · rw [if_neg t1] at h ⊢
    have hB : (insV s ⟨(p : Int), false⟩).b = 0 := by unfold insV; simp only; rw [if_neg t1]
    by_cases t0 : 0 < takesN (byteV s ⟨(p : Int), false⟩ : Int)
    · rw [if_pos t0] at h ⊢
      obtain ⟨b1, b2⟩ := byte_fine (numR_keeps h)
      rw [b2] at h ⊢
      obtain ⟨n1, n2, n3⟩ := num_fine h
      have hA : (insV s ⟨(p : Int), false⟩).a = numV s ⟨((p + 1 : Nat) : Int), false⟩ := by unfold insV; simp only; rw [if_pos t0, b2]
      refine ⟨by rw [n1, show takesN (byteV s ⟨(p : Int), false⟩ : Int) = 1 by omega], ?_, by rw [inI, hA, hB]; exact ⟨n3, by omega, by omega⟩⟩
      unfold insB
      rw [hop, if_pos t0, if_neg t1, hA, List.append_nil]
      exact .cons (by simpa using b1) (num_stands n2)
    · rw [if_neg t0] at h ⊢
      obtain ⟨b1, b2⟩ := byte_fine h
      have hA : (insV s ⟨(p : Int), false⟩).a = 0 := by unfold insV; simp only; rw [if_neg t0]
      refine ⟨by rw [b2, show takesN (byteV s ⟨(p : Int), false⟩ : Int) = 0 by omega], ?_, by rw [inI, hA, hB]; exact ⟨⟨by omega, by omega⟩, by omega, by omega⟩⟩
      unfold insB
      rw [hop, if_neg t0, if_neg t1]
      exact .cons (by simpa using b1) (fun k hk => by simp at hk)

theorem rd_fine {s : ByteArray} : ∀ (n p : Nat) (out m : List Ins) (r : Rd), rdI s n ⟨(p : Int), false⟩ out = (some m, r) →
    ∃ l, m = out ++ l ∧ l.length = n ∧ (∀ x ∈ l, rightN x ∧ inI x) ∧ StandsL s p (printN l) ∧ r = ⟨((p + (printN l).length : Nat) : Int), false⟩
  | 0, p, out, m, r, h => by
    simp only [rdI, Prod.mk.injEq, Option.some.injEq] at h
    obtain ⟨rfl, rfl⟩ := h
    exact ⟨[], by simp, rfl, by simp, fun k hk => by simp [printN] at hk, by simp [printN]⟩
  | n + 1, p, out, m, r, h => by
    by_cases hc : (insR s ⟨(p : Int), false⟩).bad = true ∨ ¬ rightN (insV s ⟨(p : Int), false⟩)
    · rw [rdI_no hc] at h
      cases h
    · have hb : (insR s ⟨(p : Int), false⟩).bad = false := by
        cases hb : (insR s ⟨(p : Int), false⟩).bad with
        | false => rfl
        | true => exact absurd (.inl hb) hc
      have hr : rightN (insV s ⟨(p : Int), false⟩) := Classical.byContradiction fun e => hc (.inr e)
      rw [rdI_yes hb hr] at h
      obtain ⟨h1, h2, h3⟩ := ins_fine hb
      rw [h1] at h
      obtain ⟨l, rfl, hl, hall, hst, rfl⟩ := rd_fine n _ _ _ _ h
      refine ⟨insV s ⟨(p : Int), false⟩ :: l, by simp, by simp [hl], ?_, ?_, ?_⟩
      · intro x hx
        rcases List.mem_cons.1 hx with rfl | hx
        · exact ⟨hr, h3⟩
        · exact hall x hx
      · exact .append h2 hst
      · rw [show printN (insV s ⟨(p : Int), false⟩ :: l) = insB (insV s ⟨(p : Int), false⟩) ++ printN l from List.flatMap_cons, List.length_append, Nat.add_assoc]

end Go.Proofs.Ytldljohholgmoaa

/-
  Which commands may be, on plain numbers: depths ahead of each instruction, in one walk; ways that lead forwards. No conditions but those that stand there.
-/
namespace Go.Proofs.Ytldljohholgmoaa

structure Cmd where
  reads : List Int
  writes : List Int
  args : List Int
  fuel : Int
  code : List Ins

def offN (op : Int) : Nat := if op = 3 ∨ op = 5 ∨ op = 13 ∨ op = 15 then 1 else if 7 ≤ op ∧ op ≤ 12 then 2 else 0
def onN (op : Int) : Nat := if op = 1 ∨ op = 2 ∨ op = 4 ∨ op = 6 then 1 else if 7 ≤ op ∧ op ≤ 12 then 1 else 0
def waysN (x : Ins) : List Int := if x.op = 16 ∨ x.op = 17 then [] else if x.op = 14 then [x.a] else if x.op = 13 then [0, x.a] else [0]

def dAt (d : List Int) (i : Nat) : Int := d[i]?.getD (-1)

theorem dAt_set_same {d : List Int} {i : Nat} {v : Int} (h : i < d.length) : dAt (d.set i v) i = v := by simp [dAt, h]
theorem dAt_set_ne {d : List Int} {i j : Nat} {v : Int} (h : i ≠ j) : dAt (d.set i v) j = dAt d j := by simp [dAt, List.getElem?_set_ne h]

/-- way by way. -/
def wayD (len i : Nat) (v : Int) : List Int → List Int → Except Nat (List Int)
  | [], d => .ok d
  | w :: ws, d => if w < 0 ∨ (len : Int) - i - 1 ≤ w then .error 6
    else if 0 ≤ dAt d (i + 1 + w.toNat) ∧ dAt d (i + 1 + w.toNat) ≠ v then .error 7
    else wayD len i v ws (d.set (i + 1 + w.toNat) v)

/-- one instruction. -/
def insD (l : List Ins) (i : Nat) (d : List Int) : Except Nat (List Int) :=
  if dAt d i < 0 then .ok d
  else if dAt d i < offN (insAt l i).op ∨ 8 < dAt d i - offN (insAt l i).op + onN (insAt l i).op then .error 7
  else wayD l.length i (dAt d i - offN (insAt l i).op + onN (insAt l i).op) (waysN (insAt l i)) d

/-- so many more, from place i on. -/
def goD (l : List Ins) : Nat → Nat → List Int → Except Nat (List Int)
  | 0, _, d => .ok d
  | n + 1, i, d => match insD l i d with
    | .error e => .error e
    | .ok d' => goD l n (i + 1) d'

def startD0 (n : Nat) : List Int := (List.range n).map fun i => if i = 0 then 0 else -1
def depthsN (l : List Ins) : Except Nat (List Int) := goD l l.length 0 (startD0 l.length)

theorem startD0_length (n : Nat) : (startD0 n).length = n := by simp [startD0]
theorem startD0_at {n i : Nat} (h : i < n) : dAt (startD0 n) i = if i = 0 then 0 else -1 := by simp [dAt, startD0, h]

/-! ### what holds behind it -/
/-- of the ways of an instruction all lead on, within, with this depth. -/
def wayOk (len i : Nat) (v : Int) (d : List Int) (w : Int) : Prop := 0 ≤ w ∧ w < (len : Int) - i - 1 ∧ dAt d (i + 1 + w.toNat) = v

/-- instruction i is fine. -/
def insOk (l : List Ins) (d : List Int) (i : Nat) : Prop := 0 ≤ dAt d i → (offN (insAt l i).op : Int) ≤ dAt d i ∧ dAt d i - offN (insAt l i).op + onN (insAt l i).op ≤ 8 ∧ ∀ w ∈ waysN (insAt l i), wayOk l.length i (dAt d i - offN (insAt l i).op + onN (insAt l i).op) d w

/-- d' is d, but that places behind i that had no depth may have one. -/
structure Grew (i : Nat) (d d' : List Int) : Prop where
  len : d'.length = d.length
  low : ∀ j, j ≤ i → dAt d' j = dAt d j
  kept : ∀ j, 0 ≤ dAt d j → dAt d' j = dAt d j

theorem Grew.refl (i : Nat) (d : List Int) : Grew i d d := ⟨rfl, fun _ _ => rfl, fun _ _ => rfl⟩
theorem Grew.trans {i : Nat} {a b c : List Int} (h : Grew i a b) (k : Grew i b c) : Grew i a c :=
  ⟨k.len.trans h.len, fun j hj => (k.low j hj).trans (h.low j hj), fun j hj => (k.kept j (by rw [h.kept j hj]; exact hj)).trans (h.kept j hj)⟩
theorem Grew.mono {i j : Nat} {a b : List Int} (h : Grew i a b) (hj : j ≤ i) : Grew j a b := ⟨h.len, fun k hk => h.low k (by omega), h.kept⟩

theorem way_grew {len i : Nat} {v : Int} (hv : 0 ≤ v) : ∀ (ws : List Int) (d d' : List Int), d.length = len → wayD len i v ws d = .ok d' → Grew i d d' ∧ ∀ w ∈ ws, wayOk len i v d' w
  | [], d, d', _, h => by
    simp only [wayD, Except.ok.injEq] at h
    subst h
    exact ⟨Grew.refl _ _, by simp⟩
  | w :: ws, d, d', hl, h => by
    rw [wayD] at h
    split at h
    · cases h
    · split at h
      · cases h
      · rename_i h1 h2
        have hw : 0 ≤ w ∧ w < (len : Int) - i - 1 := by omega
        have hlt : i + 1 + w.toNat < d.length := by omega
        have hg : Grew i d (d.set (i + 1 + w.toNat) v) := by
          refine ⟨by simp, fun j hj => dAt_set_ne (by omega), fun j hj => ?_⟩
          by_cases e : i + 1 + w.toNat = j
          · subst e
            rw [dAt_set_same hlt]
            exact Classical.byContradiction fun hne => h2 ⟨hj, fun e => hne e.symm⟩
          · exact dAt_set_ne e
        obtain ⟨g2, hall⟩ := way_grew hv ws _ d' (by simp [hl]) h
        refine ⟨hg.trans g2, fun w' hw' => ?_⟩
        rcases List.mem_cons.1 hw' with rfl | hw'
        · refine ⟨hw.1, hw.2, ?_⟩
          rw [g2.kept _ (by rw [dAt_set_same hlt]; exact hv), dAt_set_same hlt]
        · exact hall w' hw'

theorem on_off (op : Int) : offN op ≤ 2 ∧ onN op ≤ 1 := by
  unfold offN onN
  refine ⟨?_, ?_⟩
  · split
    · omega
    · split <;> omega
  · split
    · omega
    · split <;> omega

theorem ins_grew {l : List Ins} {i : Nat} {d d' : List Int} (hl : d.length = l.length) (h : insD l i d = .ok d') : Grew i d d' ∧ insOk l d' i := by
  rw [insD] at h
  split at h
  · rename_i hn
    simp only [Except.ok.injEq] at h
    subst h
    exact ⟨Grew.refl _ _, fun h0 => by omega⟩
  · split at h
    · cases h
    · rename_i h0 h1
      have hoff : (offN (insAt l i).op : Int) ≤ dAt d i := by omega
      obtain ⟨hg, hall⟩ := way_grew (by omega) _ _ _ hl h
      refine ⟨hg, fun _ => ?_⟩
      rw [hg.low i (Nat.le_refl _)]
      exact ⟨hoff, by omega, hall⟩

theorem insOk_grew {l : List Ins} {d d' : List Int} {i j : Nat} (h : insOk l d i) (hg : Grew j d d') (hi : i ≤ j) (hv : ∀ op : Int, offN op ≤ 2) : insOk l d' i := by
  intro h0
  have e := hg.low i hi
  rw [e] at h0 ⊢
  obtain ⟨h1, h2, h3⟩ := h h0
  refine ⟨h1, h2, fun w hw => ?_⟩
  obtain ⟨w1, w2, w3⟩ := h3 w hw
  have := hv (insAt l i).op
  exact ⟨w1, w2, by rw [hg.kept _ (by rw [w3]; omega), w3]⟩

theorem go_fine {l : List Ins} : ∀ (n i : Nat) (d d' : List Int), d.length = l.length → goD l n i d = .ok d' → (∀ j, j < i → insOk l d j) → d'.length = l.length ∧ (0 < i + n → dAt d' 0 = dAt d 0) ∧ ∀ j, j < i + n → insOk l d' j
  | 0, i, d, d', hl, h, hj => by
    simp only [goD, Except.ok.injEq] at h
    subst h
    exact ⟨hl, fun _ => rfl, hj⟩
  | n + 1, i, d, d', hl, h, hj => by
    rw [goD] at h
    cases hi : insD l i d with
    | error e => rw [hi] at h; cases h
    | ok d1 =>
      rw [hi] at h
      obtain ⟨hg, hok⟩ := ins_grew hl hi
      obtain ⟨r1, r2, r3⟩ := go_fine n (i + 1) d1 d' (hg.len.trans hl) h (fun j hji => by
        rcases Nat.lt_or_ge j i with h1 | h1
        · exact insOk_grew (hj j h1) hg (by omega) (fun op => (on_off op).1)
        · obtain rfl : j = i := by omega
          exact hok)
      exact ⟨r1, fun _ => (r2 (by omega)).trans (hg.low 0 (by omega)), fun j hj' => r3 j (by omega)⟩

/-- all that holds of depths that were found. -/
theorem depths_fine {l : List Ins} {d : List Int} (h : depthsN l = .ok d) : d.length = l.length ∧ (0 < l.length → dAt d 0 = 0) ∧ ∀ i, i < l.length → insOk l d i := by
  obtain ⟨h1, h2, h3⟩ := go_fine l.length 0 _ d (startD0_length _) h (fun j hj => absurd hj (by omega))
  refine ⟨h1, fun hl => ?_, fun i hi => h3 i (by omega)⟩
  rw [h2 (by omega), startD0_at hl]
  rfl

/-! ### a stop behind it -/
theorem dAt_left {d e : List Int} {i : Nat} (h : i < d.length) : dAt (d ++ e) i = dAt d i := by
  unfold dAt
  rw [List.getElem?_append_left h]

theorem way_tail {len i : Nat} {v : Int} : ∀ (ws : List Int) (d d' : List Int), d.length = len → wayD len i v ws d = .ok d' → wayD (len + 1) i v ws (d ++ [-1]) = .ok (d' ++ [-1])
  | [], d, d', _, h => by
    simp only [wayD, Except.ok.injEq] at h ⊢
    rw [h]
  | w :: ws, d, d', hl, h => by
    rw [wayD] at h
    split at h
    · cases h
    · split at h
      · cases h
      · rename_i h1 h2
        have hlt : i + 1 + w.toNat < d.length := by omega
        rw [wayD, if_neg (by omega), dAt_left hlt, if_neg h2, List.set_append_left _ _ hlt]
        exact way_tail ws _ d' (by simp [hl]) h

theorem ins_tail {l : List Ins} (s : Ins) {i : Nat} {d d' : List Int} (hl : d.length = l.length) (hi : i < l.length) (h : insD l i d = .ok d') : insD (l ++ [s]) i (d ++ [-1]) = .ok (d' ++ [-1]) := by
  rw [insD] at h ⊢
  rw [dAt_left (by omega), insAt_left hi]
  split at h
  · rename_i h0
    rw [if_pos h0]
    simp only [Except.ok.injEq] at h ⊢
    rw [h]
  · rename_i h0
    rw [if_neg h0]
    split at h
    · cases h
    · rename_i h1
      rw [if_neg h1, List.length_append, List.length_singleton]
      exact way_tail _ d d' hl h

theorem goD_succ_last (l : List Ins) : ∀ (n i : Nat) (d : List Int), goD l (n + 1) i d = match goD l n i d with | .error e => .error e | .ok d' => insD l (i + n) d'
  | 0, i, d => by
    show (match insD l i d with | .error e => .error e | .ok d' => .ok d') = insD l i d
    cases insD l i d <;> rfl
  | n + 1, i, d => by
    rw [goD]
    conv => rhs; rw [goD]
    cases h : insD l i d with
    | error e => rfl
    | ok d' =>
      simp only
      rw [goD_succ_last l n (i + 1) d', show i + 1 + n = i + (n + 1) by omega]

theorem go_tail {l : List Ins} (s : Ins) : ∀ (n i : Nat) (d d' : List Int), d.length = l.length → i + n ≤ l.length → goD l n i d = .ok d' → goD (l ++ [s]) n i (d ++ [-1]) = .ok (d' ++ [-1])
  | 0, i, d, d', _, _, h => by
    simp only [goD, Except.ok.injEq] at h ⊢
    rw [h]
  | n + 1, i, d, d', hl, hn, h => by
    rw [goD] at h ⊢
    cases hi : insD l i d with
    | error e => rw [hi] at h; cases h
    | ok d1 =>
      rw [hi] at h
      rw [ins_tail s hl (by omega) hi]
      exact go_tail s n (i + 1) d1 d' ((ins_grew hl hi).1.len.trans hl) (by omega) h

theorem start_tail {n : Nat} (h : 0 < n) : startD0 (n + 1) = startD0 n ++ [-1] := by
  unfold startD0
  rw [List.range_succ, List.map_append]
  simp
  omega

theorem depths_tail {l : List Ins} {d : List Int} (s : Ins) (hl : 0 < l.length) (h : depthsN l = .ok d) : depthsN (l ++ [s]) = .ok (d ++ [-1]) := by
  have hd := (depths_fine h).1
  rw [depthsN, List.length_append, List.length_singleton, goD_succ_last, start_tail hl, go_tail s _ _ _ _ (startD0_length _) (by omega) h]
  simp only
  rw [insD, if_pos]
  rw [Nat.zero_add, ← hd]
  simp [dAt]

/-- the way cut off at once. -/
theorem depths_cut {l : List Ins} {a b : Int} (hl : 0 < l.length) (h0 : insAt l 0 = ⟨14, a, b⟩) (ha : (l.length : Int) - 1 ≤ a) : depthsN l = .error 6 := by
  rw [depthsN]
  obtain ⟨n, hn⟩ : ∃ n, l.length = n + 1 := ⟨l.length - 1, by omega⟩
  rw [hn, goD]
  have hd : dAt (startD0 (n + 1)) 0 = 0 := by rw [startD0_at (by omega)]; rfl
  have e : insD l 0 (startD0 (n + 1)) = .error 6 := by
    rw [insD, hd, h0, if_neg (by omega), if_neg (by simp [offN, onN])]
    show wayD l.length 0 _ [a] _ = _
    rw [wayD, if_pos (by omega)]
  rw [e]

end Go.Proofs.Ytldljohholgmoaa

/-
  Which commands may be, on plain numbers: what changes nothing; straight programs; ways through a program that may be. No conditions but those that stand there.
-/
namespace Go.Proofs.Ytldljohholgmoaa

/-- rising from 0 on. -/
def risesN : List Int → Int → Prop
  | [], _ => True
  | x :: l, z => z ≤ x ∧ risesN l (x + 1)
instance risesDec : (l : List Int) → (z : Int) → Decidable (risesN l z)
  | [], _ => inferInstanceAs (Decidable True)
  | x :: l, _ => have := risesDec l (x + 1); inferInstanceAs (Decidable (_ ∧ _))

def boundsN (c : Cmd) (x : Ins) : Prop :=
  (x.op = 2 ∨ x.op = 3 → 0 ≤ x.a ∧ x.a < 4) ∧
  (x.op = 4 → 0 ≤ x.a ∧ x.a < (c.reads.length : Int) + c.writes.length ∧ 0 ≤ x.b ∧ x.b < 8) ∧
  (x.op = 5 → (c.reads.length : Int) ≤ x.a ∧ x.a < (c.reads.length : Int) + c.writes.length ∧ 0 ≤ x.b ∧ x.b < 8) ∧
  (x.op = 6 → 0 ≤ x.a ∧ x.a < (c.args.length : Int))
instance (c : Cmd) (x : Ins) : Decidable (boundsN c x) := inferInstanceAs (Decidable (_ ∧ _))

def emitsN (l : List Ins) : Nat := (l.filter fun x => decide (x.op = 15)).length

/-- few enough of everything. -/
def fewN (c : Cmd) : Prop := c.reads.length + c.writes.length ≤ 8 ∧ c.args.length ≤ 8 ∧ 1 ≤ c.code.length ∧ c.code.length ≤ 64 ∧ 1 ≤ c.fuel ∧ c.fuel ≤ 200
instance (c : Cmd) : Decidable (fewN c) := inferInstanceAs (Decidable (_ ∧ _))
def setsN (c : Cmd) : Prop := risesN c.reads 0 ∧ risesN c.writes 0 ∧ ∀ x ∈ c.reads, x ∉ c.writes
instance (c : Cmd) : Decidable (setsN c) := inferInstanceAs (Decidable (_ ∧ _))
def opsN (c : Cmd) : Prop := ∀ x ∈ c.code, rightN x ∧ boundsN c x
instance (c : Cmd) : Decidable (opsN c) := inferInstanceAs (Decidable (∀ x ∈ _, _))

/-- may it be? 0, or the error's number. -/
def checkN (c : Cmd) : Nat :=
  if ¬ fewN c then 4 else if ¬ setsN c then 8 else if ¬ opsN c then 5 else if 8 < emitsN c.code then 4
  else match depthsN c.code with
    | .ok _ => 0
    | .error e => e

structure MayBe (c : Cmd) : Prop where
  few : fewN c
  sets : setsN c
  ops : opsN c
  emits : emitsN c.code ≤ 8
  depths : ∃ d, depthsN c.code = .ok d

theorem wayD_err {len i : Nat} {v : Int} : ∀ (ws d : List Int) (e : Nat), wayD len i v ws d = .error e → e = 6 ∨ e = 7
  | [], _, _, h => by cases h
  | w :: ws, d, e, h => by
    rw [wayD] at h
    split at h
    · injection h with h; omega
    · split at h
      · injection h with h; omega
      · exact wayD_err ws _ e h
theorem insD_err {l : List Ins} {i : Nat} {d : List Int} {e : Nat} (h : insD l i d = .error e) : e = 6 ∨ e = 7 := by
  rw [insD] at h
  split at h
  · cases h
  · split at h
    · injection h with h; omega
    · exact wayD_err _ _ e h
theorem goD_err {l : List Ins} : ∀ (n i : Nat) (d : List Int) (e : Nat), goD l n i d = .error e → e = 6 ∨ e = 7
  | 0, _, _, _, h => by cases h
  | n + 1, i, d, e, h => by
    rw [goD] at h
    cases hi : insD l i d with
    | error e' => rw [hi] at h; injection h with h; subst h; exact insD_err hi
    | ok d' => rw [hi] at h; exact goD_err n _ _ e h

theorem check_zero (c : Cmd) : checkN c = 0 ↔ MayBe c := by
  constructor
  · intro h
    unfold checkN at h
    split at h
    · omega
    · split at h
      · omega
      · split at h
        · omega
        · split at h
          · omega
          · rename_i h1 h2 h3 h4
            cases hd : depthsN c.code with
            | error e =>
              rw [hd] at h
              have := goD_err _ _ _ e hd
              simp only at h
              omega
            | ok d => exact ⟨Classical.byContradiction h1, Classical.byContradiction h2, Classical.byContradiction h3, by omega, d, hd⟩
  · rintro ⟨h1, h2, h3, h4, d, hd⟩
    rw [checkN, if_neg (by simp [h1]), if_neg (by simp [h2]), if_neg (by simp [h3]), if_neg (by omega), hd]

/-! ### one more of something -/
theorem bounds_more {c c' : Cmd} {x : Ins} (h : boundsN c x) (hr : c'.reads = c.reads) (hw : c.writes.length ≤ c'.writes.length) (ha : c.args.length ≤ c'.args.length) : boundsN c' x := by
  obtain ⟨h1, h2, h3, h4⟩ := h
  rw [boundsN, hr]
  refine ⟨h1, fun e => ?_, fun e => ?_, fun e => ?_⟩
  · have := h2 e; omega
  · have := h3 e; omega
  · have := h4 e; omega

theorem more_args {c : Cmd} (h : MayBe c) (n : Int) : MayBe { c with args := c.args ++ [n] } ↔ c.args.length + 1 ≤ 8 := by
  obtain ⟨⟨f1, f2, f3, f4, f5, f6⟩, h2, h3, h4, h5⟩ := h
  constructor
  · intro k
    have := k.few.2.1
    simpa using this
  · intro hl
    exact ⟨⟨f1, by simpa using hl, f3, f4, f5, f6⟩, h2, fun x hx => ⟨(h3 x hx).1, bounds_more (h3 x hx).2 rfl (Nat.le_refl _) (by simp)⟩, h4, h5⟩

theorem more_fuel {c : Cmd} (h : MayBe c) : MayBe { c with fuel := c.fuel + 1 } ↔ c.fuel + 1 ≤ 200 := by
  obtain ⟨⟨f1, f2, f3, f4, f5, f6⟩, h2, h3, h4, h5⟩ := h
  constructor
  · intro k
    exact k.few.2.2.2.2.2
  · intro hl
    exact ⟨⟨f1, f2, f3, f4, by simp only; omega, hl⟩, h2, fun x hx => ⟨(h3 x hx).1, bounds_more (h3 x hx).2 rfl (Nat.le_refl _) (Nat.le_refl _)⟩, h4, h5⟩

/-- behind the last one. -/
def nextN (l : List Int) : Int := match l.getLast? with
  | some x => x + 1
  | none => 0

theorem rises_snoc : ∀ (l : List Int) (z x : Int), risesN l z → (match l.getLast? with | some y => y + 1 | none => z) ≤ x → risesN (l ++ [x]) z
  | [], z, x, _, h => ⟨h, trivial⟩
  | y :: l, z, x, h, hx => by
    refine ⟨h.1, rises_snoc l (y + 1) x h.2 ?_⟩
    cases hl : l.getLast? with
    | none =>
      have : l = [] := List.getLast?_eq_none_iff.1 hl
      subst this
      simpa using hx
    | some u =>
      have : (y :: l).getLast? = some u := by rw [List.getLast?_cons, hl]; rfl
      rw [this] at hx
      exact hx

theorem more_writes {c : Cmd} (h : MayBe c) (hf : ∀ x ∈ c.reads, x ≠ nextN c.writes) : MayBe { c with writes := c.writes ++ [nextN c.writes] } ↔ c.reads.length + (c.writes.length + 1) ≤ 8 := by
  obtain ⟨⟨f1, f2, f3, f4, f5, f6⟩, ⟨s1, s2, s3⟩, h3, h4, h5⟩ := h
  constructor
  · intro k
    have := k.few.1
    simpa using this
  · intro hl
    refine ⟨⟨by simpa using hl, f2, f3, f4, f5, f6⟩, ⟨s1, ?_, ?_⟩, fun x hx => ⟨(h3 x hx).1, bounds_more (h3 x hx).2 rfl (by simp) (Nat.le_refl _)⟩, h4, h5⟩
    · refine rises_snoc _ _ _ s2 ?_
      unfold nextN
      cases c.writes.getLast? <;> simp
    · intro x hx hm
      rcases List.mem_append.1 hm with hm | hm
      · exact s3 x hx hm
      · exact hf x hx (List.mem_singleton.1 hm)

/-! ### a tail, and a way cut off -/
theorem tail_may {c : Cmd} (h : MayBe c) : MayBe { c with code := c.code ++ [⟨16, 0, 0⟩] } ↔ c.code.length + 1 ≤ 64 := by
  obtain ⟨⟨f1, f2, f3, f4, f5, f6⟩, h2, h3, h4, d, hd⟩ := h
  constructor
  · intro k
    have := k.few.2.2.2.1
    simpa using this
  · intro hl
    refine ⟨⟨f1, f2, by simp, by simpa using hl, f5, f6⟩, h2, fun x hx => ?_, ?_, _, depths_tail ⟨16, 0, 0⟩ f3 hd⟩
    · rcases List.mem_append.1 hx with hx | hx
      · exact h3 x hx
      · rw [List.mem_singleton.1 hx]
        refine ⟨by simp [rightN], ?_⟩
        simp [boundsN]
    · simp only [emitsN, List.filter_append, List.length_append]
      simpa [emitsN] using h4

theorem cut_check {c : Cmd} (h : MayBe c) : checkN { c with code := c.code.set 0 ⟨14, (c.code.length : Int), 0⟩ } = 6 := by
  obtain ⟨⟨f1, f2, f3, f4, f5, f6⟩, h2, h3, h4, d, hd⟩ := h
  have hcode : ∀ x ∈ c.code.set 0 ⟨14, (c.code.length : Int), 0⟩, x = ⟨14, (c.code.length : Int), 0⟩ ∨ x ∈ c.code := fun x hx => (List.mem_or_eq_of_mem_set hx).symm
  rw [checkN, if_neg, if_neg, if_neg, if_neg]
  · rw [depths_cut (a := (c.code.length : Int)) (b := 0) (by rw [List.length_set]; omega) (by
      obtain ⟨y, l, hyl⟩ : ∃ y l, c.code = y :: l := by
        cases hc : c.code with
        | nil => rw [hc] at f3; simp at f3
        | cons y l => exact ⟨y, l, rfl⟩
      simp only [hyl, List.set_cons_zero]
      rfl) (by simp only [List.length_set]; omega)]
  · have : emitsN (c.code.set 0 ⟨14, (c.code.length : Int), 0⟩) ≤ emitsN c.code := by
      cases hc : c.code with
      | nil => simp
      | cons y l =>
        rw [List.set_cons_zero]
        unfold emitsN
        rw [List.filter_cons_of_neg (by simp)]
        exact List.Sublist.length_le (List.Sublist.filter _ (List.sublist_cons_self y l))
    simp only
    omega
  · intro hno
    apply hno
    intro x hx
    rcases hcode x hx with rfl | hx
    · exact ⟨by simp [rightN, takesN], by simp [boundsN]⟩
    · exact ⟨(h3 x hx).1, (h3 x hx).2⟩
  · intro hno
    exact hno h2
  · intro hno
    apply hno
    exact ⟨f1, f2, by simpa using f3, by simpa using f4, f5, f6⟩

/-! ### straight programs -/
def straightB : Int → List Ins → Bool
  | _, [] => true
  | v, x :: l => !(decide (v < offN x.op) || decide (8 < v - offN x.op + onN x.op)) && straightB (v - offN x.op + onN x.op) l

theorem go_straight (pre : List Ins) (e : Ins) (he : e.op = 17) : ∀ (xs done : List Ins) (ds : List Int) (v : Int), (∀ x ∈ xs, waysN x = [0]) → ds.length = done.length → pre = done ++ xs ++ [e] → 0 ≤ v → v ≤ 8 →
    (straightB v xs = true → ∃ d, goD pre (xs.length + 1) done.length (ds ++ [v] ++ List.replicate xs.length (-1)) = .ok d) ∧
    (straightB v xs = false → goD pre (xs.length + 1) done.length (ds ++ [v] ++ List.replicate xs.length (-1)) = .error 7)
  | [], done, ds, v, _, hl, hp, h0, h8 => by
    have hat : dAt (ds ++ [v] ++ List.replicate 0 (-1)) done.length = v := by simp [dAt, ← hl]
    have hi : insAt pre done.length = e := by rw [hp]; simp [insAt]
    have hins : insD pre done.length (ds ++ [v] ++ List.replicate 0 (-1)) = .ok (ds ++ [v] ++ List.replicate 0 (-1)) := by
      rw [insD, hat, hi, if_neg (by omega), if_neg (by simp [offN, onN, he]; omega), waysN, if_pos (.inr he)]
      rfl
    refine ⟨fun _ => ⟨ds ++ [v] ++ List.replicate 0 (-1), ?_⟩, fun h => by cases h⟩
    show (match insD pre done.length (ds ++ [v] ++ List.replicate 0 (-1)) with | .error e => Except.error e | .ok d' => Except.ok d') = _
    rw [hins]
  | x :: xs, done, ds, v, hw, hl, hp, h0, h8 => by
    have hlen : pre.length = done.length + xs.length + 2 := by rw [hp]; simp; omega
    have hat : dAt (ds ++ [v] ++ List.replicate (xs.length + 1) (-1)) done.length = v := by simp [dAt, ← hl]
    have hi : insAt pre done.length = x := by rw [hp]; simp [insAt]
    have hway := hw x (by simp)
    rw [List.length_cons, goD, insD, hat, hi, if_neg (by omega), straightB]
    by_cases hc : v < offN x.op ∨ 8 < v - offN x.op + onN x.op
    · rw [if_pos hc]
      refine ⟨fun h => ?_, fun _ => rfl⟩
      rcases hc with hc | hc <;> simp [hc] at h
    · have hoff : (offN x.op : Int) ≤ v := by omega
      have hon : v - offN x.op + onN x.op ≤ 8 := by omega
      have h1 : dAt (ds ++ [v] ++ List.replicate (xs.length + 1) (-1)) (done.length + 1 + (0 : Int).toNat) = -1 := by
        simp [dAt, ← hl]
      have hset : (ds ++ [v] ++ List.replicate (xs.length + 1) (-1)).set (done.length + 1 + (0 : Int).toNat) (v - offN x.op + onN x.op) = ds ++ [v] ++ [v - offN x.op + onN x.op] ++ List.replicate xs.length (-1) := by
        rw [List.replicate_succ, List.set_append_right _ _ (by simp [hl])]
        simp [hl]
      have hwd : wayD pre.length done.length (v - offN x.op + onN x.op) (waysN x) (ds ++ [v] ++ List.replicate (xs.length + 1) (-1)) = .ok (ds ++ [v] ++ [v - offN x.op + onN x.op] ++ List.replicate xs.length (-1)) := by
        rw [hway, wayD, if_neg (by omega), h1, if_neg (by omega), hset]
        rfl
      rw [if_neg hc, hwd]
      have ih := go_straight pre e he xs (done ++ [x]) (ds ++ [v]) (v - offN x.op + onN x.op) (fun y hy => hw y (by simp [hy])) (by simp [hl]) (by rw [hp]; simp) (by omega) hon
      rw [List.length_append, List.length_singleton] at ih
      have hb : (!(decide (v < (offN x.op : Int)) || decide (8 < v - (offN x.op : Int) + (onN x.op : Int)))) = true := by
        simp only [Bool.not_eq_true', Bool.or_eq_false_iff, decide_eq_false_iff_not]
        omega
      rw [hb, Bool.true_and]
      exact ih

theorem straight_depths {xs : List Ins} {e : Ins} (he : e.op = 17) (hw : ∀ x ∈ xs, waysN x = [0]) :
    (straightB 0 xs = true → ∃ d, depthsN (xs ++ [e]) = .ok d) ∧ (straightB 0 xs = false → depthsN (xs ++ [e]) = .error 7) := by
  have h := go_straight (xs ++ [e]) e he xs [] [] 0 hw rfl (by simp) (by omega) (by omega)
  have hs : startD0 (xs ++ [e]).length = [] ++ [0] ++ List.replicate xs.length (-1) := by
    rw [List.length_append, List.length_singleton]
    apply List.ext_getElem?
    intro i
    rw [startD0, List.getElem?_map]
    by_cases hi : i < xs.length + 1
    · rw [List.getElem?_range hi]
      cases i with
      | zero => rfl
      | succ i => simp [show i < xs.length by omega]
    · rw [List.getElem?_eq_none (by simp; omega), List.getElem?_eq_none (by simp; omega)]
      rfl
  rw [depthsN, hs]
  simpa using h

end Go.Proofs.Ytldljohholgmoaa

/-
  Blocks, on plain numbers: eight cells, their bytes, a cell that is got or put. No conditions but those that stand there.
-/
namespace Go.Proofs.Ytldljohholgmoaa
open Go.RowKit

def getC (b : List Int) (i : Int) : Int := if 0 ≤ i ∧ i < 8 then b[i.toNat]?.getD 0 else 0
def putC (b : List Int) (i n : Int) : List Int := if 0 ≤ i ∧ i < 8 then b.set i.toNat n else b

theorem putC_length (b : List Int) (i n : Int) : (putC b i n).length = b.length := by
  unfold putC
  split <;> simp

theorem getC_putC {b : List Int} (h : b.length = 8) (i j n : Int) : getC (putC b j n) i = if i = j ∧ 0 ≤ j ∧ j < 8 then n else getC b i := by
  unfold getC putC
  by_cases hj : 0 ≤ j ∧ j < 8
  · rw [if_pos hj]
    by_cases hi : 0 ≤ i ∧ i < 8
    · rw [if_pos hi, if_pos hi]
      by_cases e : i = j
      · rw [if_pos ⟨e, hj⟩, e]
        simp [show j.toNat < b.length by omega]
      · rw [if_neg (fun g => e g.1), List.getElem?_set_ne (by omega)]
    · rw [if_neg hi, if_neg hi, if_neg (by rintro ⟨g1, g2⟩; omega)]
  · rw [if_neg hj, if_neg (show ¬ (i = j ∧ 0 ≤ j ∧ j < 8) from fun g => hj g.2)]

/-- another cell first, or second: the same. -/
theorem putC_comm (b : List Int) {i j : Int} (h : i ≠ j) (m n : Int) : putC (putC b i m) j n = putC (putC b j n) i m := by
  unfold putC
  by_cases hi : 0 ≤ i ∧ i < 8
  · by_cases hj : 0 ≤ j ∧ j < 8
    · rw [if_pos hi, if_pos hj, if_pos hj, if_pos hi, List.set_comm _ _ (by omega)]
    · rw [if_neg hj, if_neg hj]
  · rw [if_neg hi, if_neg hi]
/-- the same cell keeps the last number. -/
theorem putC_twice (b : List Int) (i m n : Int) : putC (putC b i m) i n = putC b i n := by
  unfold putC
  by_cases hi : 0 ≤ i ∧ i < 8
  · rw [if_pos hi, if_pos hi, if_pos hi, List.set_set]
  · simp only [if_neg hi]

/-- a block's bytes. -/
def cellB (b : List Int) : List Nat := b.flatMap numB

def inB (b : List Int) : Prop := ∀ x ∈ b, -9223372036854775808 ≤ x ∧ x ≤ 9223372036854775807

theorem cellB_length (b : List Int) : (cellB b).length = 8 * b.length := flat_length b
theorem cellB_lt (b : List Int) : ∀ x ∈ cellB b, x < 256 := flat_lt b

theorem putC_in {b : List Int} (h : inB b) (i : Int) {n : Int} (hn : -9223372036854775808 ≤ n ∧ n ≤ 9223372036854775807) : inB (putC b i n) := by
  unfold putC
  split
  · intro x hx
    rcases List.mem_or_eq_of_mem_set hx with hx | rfl
    · exact h x hx
    · exact hn
  · exact h

theorem cells_stand (b : List Int) : ∀ i, i < b.length → Stands (strL (cellB b)) (0 + 8 * i) (b[i]?.getD 0) := fun i hi k hk => by
  rw [bL_strL _ (cellB_lt b), Nat.zero_add]
  exact flat_at b i k hi hk

/-- a block is read as it was, and no byte is left. -/
theorem cell_back {b : List Int} (h : inB b) : numsOf (strL (cellB b)) b.length ⟨0, false⟩ = b ∧ itN (strL (cellB b)) b.length ⟨0, false⟩ = ⟨((8 * b.length : Nat) : Int), false⟩ := by
  have h1 := numsOf_back (p := 0) (cells_stand b) h
  have h2 := itN_back (p := 0) (cells_stand b) h b.length (Nat.le_refl _)
  rw [Nat.zero_add] at h2
  exact ⟨h1, h2⟩
theorem cell_done {b : List Int} (h : inB b) : doneV (strL (cellB b)) (itN (strL (cellB b)) b.length ⟨0, false⟩) = true := by
  rw [(cell_back h).2]
  unfold doneV
  have : (strL (cellB b)).size = 8 * b.length := by rw [← bL_length, bL_strL _ (cellB_lt b), cellB_length]
  rw [this]
  simp

/-- unlike blocks have unlike bytes. -/
theorem cell_apart {a b : List Int} (hl : a.length = b.length) (ha : inB a) (hb : inB b) (h : cellB a = cellB b) : a = b := by
  rw [← (cell_back ha).1, h, hl, (cell_back hb).1]

end Go.Proofs.Ytldljohholgmoaa

/-
  A command at work, on plain numbers: one step; what holds of a machine of a command that may be. No conditions but those that stand there.
-/
namespace Go.Proofs.Ytldljohholgmoaa
open Go.RowKit

structure Mac where
  pc : Int
  fuel : Int
  stack : List Int
  regs : List Int
  out : List Int
  over : Bool
  told : Nat

/-- blocks: eight numbers each. -/
abbrev Blks := List (List Int)

def newM (c : Cmd) : Mac := ⟨0, c.fuel, [], [0, 0, 0, 0], [], false, 0⟩
def overM (m : Mac) (e : Nat) : Mac := { m with over := true, told := e, out := if e = 0 then m.out else [] }

/-- what an instruction makes of two numbers; none: a division by nought. -/
def twoN (op a b : Int) : Option Int :=
  if op = 7 then some (wrap64 (a + b)) else if op = 8 then some (wrap64 (a - b)) else if op = 9 then some (wrap64 (a * b))
  else if op = 10 then (if b = 0 then none else some (wrap64 (a.tdiv b)))
  else if op = 11 then some (if a < b then 1 else 0) else some (if a = b then 1 else 0)

/-- the last one, and the one ahead of it. -/
def topN (l : List Int) : Int := l[l.length - 1]?.getD 0
def nextTop (l : List Int) : Int := l[l.length - 2]?.getD 0
def popN (l : List Int) (k : Nat) : List Int := l.take (l.length - k)

theorem popN_length (l : List Int) (k : Nat) : (popN l k).length = l.length - k := by simp [popN]

/-- behind an instruction, the fuel and the place being reckoned. -/
def doM (c : Cmd) (x : Ins) (m : Mac) (own : Blks) : Mac × Blks :=
  if x.op = 1 then ({ m with stack := m.stack ++ [x.a] }, own)
  else if x.op = 2 then ({ m with stack := m.stack ++ [m.regs[x.a.toNat]?.getD 0] }, own)
  else if x.op = 4 then ({ m with stack := m.stack ++ [getC (own[x.a.toNat]?.getD []) x.b] }, own)
  else if x.op = 6 then ({ m with stack := m.stack ++ [c.args[x.a.toNat]?.getD 0] }, own)
  else if x.op = 14 then ({ m with pc := m.pc + x.a }, own)
  else if x.op = 16 then (overM m 13, own)
  else if x.op = 17 then (overM m 0, own)
  else if x.op = 3 then ({ m with stack := popN m.stack 1, regs := m.regs.set x.a.toNat (topN m.stack) }, own)
  else if x.op = 5 then ({ m with stack := popN m.stack 1 }, own.set x.a.toNat (putC (own[x.a.toNat]?.getD []) x.b (topN m.stack)))
  else if x.op = 13 then ({ m with stack := popN m.stack 1, pc := if topN m.stack = 0 then m.pc + x.a else m.pc }, own)
  else if x.op = 15 then ({ m with stack := popN m.stack 1, out := m.out ++ [topN m.stack] }, own)
  else match twoN x.op (nextTop m.stack) (topN m.stack) with
    | none => (overM m 12, own)
    | some n => ({ m with stack := popN m.stack 2 ++ [n] }, own)

def stepM (c : Cmd) (m : Mac) (own : Blks) : Mac × Blks :=
  if m.over = true then (m, own) else if m.fuel = 0 then (overM m 11, own)
  else doM c (insAt c.code m.pc.toNat) { m with fuel := m.fuel - 1, pc := m.pc + 1 } own

theorem step_over {c : Cmd} {m : Mac} {own : Blks} (h : m.over = true) : stepM c m own = (m, own) := by rw [stepM, if_pos h]
theorem step_empty {c : Cmd} {m : Mac} {own : Blks} (h : m.over = false) (hf : m.fuel = 0) : stepM c m own = (overM m 11, own) := by
  rw [stepM, if_neg (by rw [h]; decide), if_pos hf]
theorem step_goes {c : Cmd} {m : Mac} {own : Blks} (h : m.over = false) (hf : m.fuel ≠ 0) : stepM c m own = doM c (insAt c.code m.pc.toNat) { m with fuel := m.fuel - 1, pc := m.pc + 1 } own := by
  rw [stepM, if_neg (by rw [h]; decide), if_neg hf]

/-- how many emits stand from a place on. -/
def emitsFrom (l : List Ins) (i : Nat) : Nat := emitsN (l.drop i)

theorem emits_step {l : List Ins} {i : Nat} (h : i < l.length) : emitsFrom l i = (if (insAt l i).op = 15 then 1 else 0) + emitsFrom l (i + 1) := by
  unfold emitsFrom emitsN
  rw [List.drop_eq_getElem_cons h, show insAt l i = l[i] by simp [insAt, h]]
  by_cases e : (l[i]).op = 15
  · rw [List.filter_cons_of_pos (by simpa using e), if_pos e, List.length_cons]
    omega
  · rw [List.filter_cons_of_neg (by simpa using e), if_neg e]
    omega

theorem emits_mono {l : List Ins} {i j : Nat} (h : i ≤ j) : emitsFrom l j ≤ emitsFrom l i := by
  unfold emitsFrom emitsN
  obtain ⟨k, rfl⟩ := Nat.exists_eq_add_of_le h
  rw [← List.drop_drop]
  exact List.Sublist.length_le (List.Sublist.filter _ (List.drop_sublist _ _))

/-- a machine of a command that may be. -/
structure MOk (c : Cmd) (d : List Int) (m : Mac) (own : Blks) : Prop where
  at_ : m.over = false → 0 ≤ m.pc ∧ m.pc < c.code.length ∧ dAt d m.pc.toNat = m.stack.length ∧ m.out.length + emitsFrom c.code m.pc.toNat ≤ 8 ∧ m.told = 0
  fuel : 0 ≤ m.fuel
  deep : m.stack.length ≤ 8
  regs : m.regs.length = 4
  out : m.out.length ≤ 8
  told : m.told ≠ 0 → m.out = []
  cells : ∀ b ∈ own, b.length = 8
  many : own.length = c.reads.length + c.writes.length

end Go.Proofs.Ytldljohholgmoaa

/-
  Who waits for a block, on plain numbers: those who wait as pairs (their number, whether they write); who has it hangs on the pairs alone. No conditions but those that stand there.
-/
namespace Go.Proofs.Ytldljohholgmoaa

structure Wnt where
  seq : Int
  excl : Bool
  has : Bool
deriving DecidableEq

abbrev Keys := List (Int × Bool)

def keyAt (K : Keys) (i : Nat) : Int × Bool := K[i]?.getD (0, false)

/-- all of the first so many read. -/
def freeK (K : Keys) (i : Nat) : Bool := (K.take i).all fun x => !x.2
/-- has the i'th one the block? -/
def hasK (K : Keys) (i : Nat) : Bool := decide (i = 0) || freeK K (i + 1)

/-- those who wait, and who has it. -/
def grK (K : Keys) : List Wnt := (List.range K.length).map fun i => ⟨(keyAt K i).1, (keyAt K i).2, hasK K i⟩

def keysN (l : List Wnt) : Keys := l.map fun x => (x.seq, x.excl)

def askN (l : List Wnt) (s : Int) (e : Bool) : List Wnt := grK (keysN l ++ [(s, e)])
def giveN (l : List Wnt) (s : Int) : List Wnt := grK ((keysN l).filter fun x => decide (x.1 ≠ s))
def hasS (l : List Wnt) (s : Int) : Bool := l.any fun x => decide (x.seq = s) && x.has

theorem keyAt_lt {K : Keys} {i : Nat} (h : i < K.length) : keyAt K i = K[i] := by simp [keyAt, h]
theorem grK_length (K : Keys) : (grK K).length = K.length := by simp [grK]
theorem grK_at {K : Keys} {i : Nat} (h : i < K.length) : (grK K)[i]? = some ⟨(keyAt K i).1, (keyAt K i).2, hasK K i⟩ := by simp [grK, h]

theorem keys_gr (K : Keys) : keysN (grK K) = K := by
  apply List.ext_getElem?
  intro i
  unfold keysN
  rw [List.getElem?_map]
  by_cases h : i < K.length
  · rw [grK_at h, keyAt_lt h, List.getElem?_eq_getElem h]
    rfl
  · rw [List.getElem?_eq_none (by rw [grK_length]; omega), List.getElem?_eq_none (by omega)]
    rfl

theorem ask_gr (K : Keys) (s : Int) (e : Bool) : askN (grK K) s e = grK (K ++ [(s, e)]) := by rw [askN, keys_gr]
theorem give_gr (K : Keys) (s : Int) : giveN (grK K) s = grK (K.filter fun x => decide (x.1 ≠ s)) := by rw [giveN, keys_gr]
theorem gr_nil : grK [] = [] := rfl

theorem free_zero (K : Keys) : freeK K 0 = true := rfl
theorem free_succ {K : Keys} {i : Nat} (h : i < K.length) : freeK K (i + 1) = (freeK K i && !(keyAt K i).2) := by
  unfold freeK
  rw [List.take_succ_eq_append_getElem h, List.all_append, keyAt_lt h]
  simp
theorem has_zero (K : Keys) : hasK K 0 = true := by simp [hasK]
theorem has_one {K : Keys} {i : Nat} (h : i < K.length) : hasK K i = (decide (i = 0) || (freeK K i && !(keyAt K i).2)) := by rw [hasK, free_succ h]
/-- each other one: if the one ahead of it has it, and neither writes. -/
theorem has_succ {K : Keys} {i : Nat} (h : i + 1 < K.length) : hasK K (i + 1) = (!(keyAt K (i + 1)).2 && hasK K i && !(keyAt K i).2) := by
  rw [has_one h, free_succ (show i < K.length by omega), has_one (show i < K.length by omega)]
  cases i with
  | zero => simp [free_zero, Bool.and_comm]
  | succ i =>
    simp only [show decide (i + 1 + 1 = 0) = false by simp, show decide (i + 1 = 0) = false by simp, Bool.false_or]
    cases freeK K (i + 1) <;> cases (keyAt K (i + 1)).2 <;> cases (keyAt K (i + 1 + 1)).2 <;> rfl

theorem free_le {K : Keys} {i j : Nat} (hj : j ≤ i) (hi : i ≤ K.length) (h : freeK K i = true) : freeK K j = true := by
  induction i with
  | zero => obtain rfl : j = 0 := by omega
            exact h
  | succ i ih =>
    by_cases e : j = i + 1
    · exact e ▸ h
    · rw [free_succ (by omega)] at h
      exact ih (by omega) (by omega) (by cases hf : freeK K i <;> simp [hf] at h ⊢)

/-- who writes has it alone. -/
theorem excl_first {K : Keys} {i : Nat} (h : i < K.length) (hh : hasK K i = true) (he : (keyAt K i).2 = true) : i = 0 := by
  rw [has_one h, he] at hh
  simpa using hh
theorem excl_alone {K : Keys} {i : Nat} (h : i < K.length) (h0 : (keyAt K 0).2 = true) (hi : 0 < i) : hasK K i = false := by
  rw [has_one h]
  have h1 : freeK K 1 = false := by rw [free_succ (by omega), h0]; simp
  cases hf : freeK K i with
  | false => simp; omega
  | true =>
    rw [free_le (show 1 ≤ i by omega) (by omega) hf] at h1
    cases h1

/-- how many of the first so many have it; how many of those write. -/
def someK (K : Keys) (n : Nat) : Nat := ((List.range n).filter fun i => hasK K i).length
def exclK (K : Keys) (n : Nat) : Nat := ((List.range n).filter fun i => hasK K i && (keyAt K i).2).length

theorem some_succ (K : Keys) (n : Nat) : someK K (n + 1) = someK K n + if hasK K n = true then 1 else 0 := by
  unfold someK
  rw [List.range_succ, List.filter_append, List.length_append]
  by_cases h : hasK K n = true
  · simp [h]
  · simp [h]
theorem exclK_succ (K : Keys) (n : Nat) : exclK K (n + 1) = exclK K n + if (hasK K n && (keyAt K n).2) = true then 1 else 0 := by
  unfold exclK
  rw [List.range_succ, List.filter_append, List.length_append]
  by_cases h : (hasK K n && (keyAt K n).2) = true
  · simp [h]
  · simp [h]

theorem alone_K (K : Keys) : ∀ n, n ≤ K.length → (0 < n → 1 ≤ someK K n) ∧ exclK K n ≤ 1 ∧ (exclK K n = 1 → someK K n = 1)
  | 0, _ => by simp [someK, exclK]
  | n + 1, hn => by
    obtain ⟨h1, h2, h3⟩ := alone_K K n (by omega)
    rw [some_succ, exclK_succ]
    cases n with
    | zero =>
      have e1 : someK K 0 = 0 := rfl
      have e2 : exclK K 0 = 0 := rfl
      rw [e1, e2, has_zero]
      refine ⟨fun _ => by simp, ?_, fun _ => by simp⟩
      split <;> omega
    | succ n =>
      have hno : (hasK K (n + 1) && (keyAt K (n + 1)).2) = false := by
        cases hh : hasK K (n + 1) with
        | false => rfl
        | true =>
          cases he : (keyAt K (n + 1)).2 with
          | false => rfl
          | true => exact absurd (excl_first (by omega) hh he) (by omega)
      rw [hno]
      refine ⟨fun _ => by have := h1 (by omega); omega, by simpa using h2, fun he => ?_⟩
      have he' : exclK K (n + 1) = 1 := by simpa using he
      have hs := h3 he'
      have h0 : (keyAt K 0).2 = true := by
        cases h0 : (keyAt K 0).2 with
        | true => rfl
        | false =>
          exfalso
          have : ∀ m, m ≤ K.length → exclK K m = 0 := by
            intro m hm
            induction m with
            | zero => rfl
            | succ m ih =>
              rw [exclK_succ, ih (by omega)]
              cases hh : hasK K m with
              | false => rfl
              | true =>
                cases he : (keyAt K m).2 with
                | false => rfl
                | true =>
                  have := excl_first (show m < K.length by omega) hh he
                  rw [this, h0] at he
                  cases he
          rw [this (n + 1) (by omega)] at he'
          cases he'
      rw [excl_alone (by omega) h0 (by omega), hs]
      simp

/-- in order: who waits behind more asks; behind one who gives back. -/
theorem keys_ask (l : List Wnt) (s : Int) (e : Bool) : keysN (askN l s e) = keysN l ++ [(s, e)] := keys_gr _
theorem keys_give (l : List Wnt) (s : Int) : keysN (giveN l s) = (keysN l).filter fun x => decide (x.1 ≠ s) := keys_gr _

theorem hasS_gr (K : Keys) (s : Int) : hasS (grK K) s = true ↔ ∃ i, i < K.length ∧ (keyAt K i).1 = s ∧ hasK K i = true := by
  unfold hasS grK
  simp only [List.any_map, List.any_eq_true, List.mem_range, Function.comp_def, Bool.and_eq_true, decide_eq_true_eq]

/-! ### readers, a writer, readers -/
def readersK (a b : Nat) (base : Int) : Keys := (List.range (b - a)).map fun i => (base + (a + i : Nat), false)

theorem readers_length (a b : Nat) (base : Int) : (readersK a b base).length = b - a := by simp [readersK]
theorem readers_snoc {a b : Nat} (h : a ≤ b) (base : Int) : readersK a b base ++ [(base + (b : Int), false)] = readersK a (b + 1) base := by
  unfold readersK
  rw [show b + 1 - a = (b - a) + 1 by omega, List.range_succ, List.map_append]
  simp only [List.map_cons, List.map_nil]
  rw [show a + (b - a) = b by omega]
theorem readers_free (a b : Nat) (base : Int) (n : Nat) : freeK (readersK a b base) n = true := by
  unfold freeK
  rw [List.all_eq_true]
  intro x hx
  have hx := List.mem_of_mem_take hx
  unfold readersK at hx
  obtain ⟨i, -, rfl⟩ := List.mem_map.1 hx
  rfl

theorem readers_mem {a b : Nat} {base : Int} {x : Int × Bool} (h : x ∈ readersK a b base) : ∃ i : Nat, a ≤ i ∧ i < b ∧ x = (base + (i : Int), false) := by
  unfold readersK at h
  obtain ⟨i, hi, rfl⟩ := List.mem_map.1 h
  rw [List.mem_range] at hi
  exact ⟨a + i, by omega, by omega, rfl⟩

theorem readers_drop {a b : Nat} (h : a < b) (base : Int) : (readersK a b base).filter (fun x => decide (x.1 ≠ base + (a : Int))) = readersK (a + 1) b base := by
  have e : readersK a b base = (base + (a : Int), false) :: readersK (a + 1) b base := by
    unfold readersK
    rw [show b - a = (b - (a + 1)) + 1 by omega, List.range_succ_eq_map, List.map_cons, List.map_map]
    simp only [Nat.add_zero, List.cons.injEq, true_and]
    apply List.map_congr_left
    intro i _
    simp only [Function.comp_apply, Prod.mk.injEq, and_true]
    omega
  rw [e, List.filter_cons_of_neg (by simp)]
  rw [List.filter_eq_self]
  intro x hx
  obtain ⟨i, h1, h2, rfl⟩ := readers_mem hx
  simp only [ne_eq, decide_eq_true_eq]
  omega

theorem filter_apart {K : Keys} {s : Int} (h : ∀ x ∈ K, x.1 ≠ s) : K.filter (fun x => decide (x.1 ≠ s)) = K := by
  rw [List.filter_eq_self]
  intro x hx
  simpa using h x hx

end Go.Proofs.Ytldljohholgmoaa

/-
  A command at work, on plain numbers: a command that may be goes on, forwards, within its stack, and ends. No conditions but those that stand there.
-/
namespace Go.Proofs.Ytldljohholgmoaa
open Go.RowKit

/-- where it stands next, if it goes on. -/
structure Goes (c : Cmd) (d : List Int) (m : Mac) (p : Int) (n : Nat) (o : Nat) : Prop where
  le : m.pc + 1 ≤ p
  lt : p < c.code.length
  deep : dAt d p.toNat = n
  out : o + emitsFrom c.code p.toNat ≤ 8

section
variable {c : Cmd} {d : List Int} {m : Mac} {own : Blks}

/-- along a way of the instruction that stands there. -/
theorem goes_way (hd : depthsN c.code = .ok d) (hm : MOk c d m own) (ho : m.over = false) {w : Int} (hw : w ∈ waysN (insAt c.code m.pc.toNat)) {n : Nat} (hn : (n : Int) = (m.stack.length : Int) - offN (insAt c.code m.pc.toNat).op + onN (insAt c.code m.pc.toNat).op)
    {o : Nat} (hout : o ≤ m.out.length + if (insAt c.code m.pc.toNat).op = 15 then 1 else 0) : Goes c d m (m.pc + 1 + w) n o := by
  obtain ⟨h1, h2, h3, h4, _⟩ := hm.at_ ho
  obtain ⟨_, _, hok⟩ := depths_fine hd
  have hi : m.pc.toNat < c.code.length := by omega
  obtain ⟨_, _, hall⟩ := hok m.pc.toNat hi (by rw [h3]; omega)
  obtain ⟨w1, w2, w3⟩ := hall w hw
  have he : (m.pc + 1 + w).toNat = m.pc.toNat + 1 + w.toNat := by omega
  refine ⟨by omega, by omega, by rw [he, w3, h3, hn], ?_⟩
  have hs := emits_step (l := c.code) hi
  have hmono := emits_mono (l := c.code) (i := m.pc.toNat + 1) (j := (m.pc + 1 + w).toNat) (by omega)
  omega

/-- what the stack has, and has room for. -/
theorem stack_room (hd : depthsN c.code = .ok d) (hm : MOk c d m own) (ho : m.over = false) : offN (insAt c.code m.pc.toNat).op ≤ m.stack.length ∧ m.stack.length - offN (insAt c.code m.pc.toNat).op + onN (insAt c.code m.pc.toNat).op ≤ 8 := by
  obtain ⟨h1, h2, h3, h4, _⟩ := hm.at_ ho
  obtain ⟨_, _, hok⟩ := depths_fine hd
  obtain ⟨g1, g2, _⟩ := hok m.pc.toNat (by omega) (by rw [h3]; omega)
  rw [h3] at g1 g2
  omega

theorem over_ok (hm : MOk c d m own) {m' : Mac} (hf : 0 ≤ m'.fuel) (hs : m'.stack = m.stack) (hr : m'.regs = m.regs) (ho : m'.out = m.out) (e : Nat) : MOk c d (overM m' e) own := by
  refine ⟨(fun h => by cases h), hf, by rw [show (overM m' e).stack = m'.stack from rfl, hs]; exact hm.deep, by rw [show (overM m' e).regs = m'.regs from rfl, hr]; exact hm.regs, ?_, ?_, hm.cells, hm.many⟩
  · show (if e = 0 then m'.out else []).length ≤ 8
    split
    · rw [ho]; exact hm.out
    · simp
  · intro h
    show (if e = 0 then m'.out else []) = []
    exact if_neg h

theorem next_ok (hm : MOk c d m own) {m' : Mac} (hf : 0 ≤ m'.fuel) (hs : m'.stack.length ≤ 8) (hr : m'.regs.length = 4) (ht : m'.told = 0) (hg : Goes c d m m'.pc m'.stack.length m'.out.length) (h0 : 0 ≤ m.pc) : MOk c d m' own :=
  ⟨fun _ => ⟨by have := hg.le; omega, hg.lt, hg.deep, hg.out, ht⟩, hf, hs, hr, by have := hg.out; omega, fun h => absurd ht h, hm.cells, hm.many⟩

end

/-- what a step keeps. -/
structure Steps (c : Cmd) (d : List Int) (m : Mac) (own : Blks) (r : Mac × Blks) : Prop where
  ok : MOk c d r.1 r.2
  fuel : r.1.fuel = m.fuel - 1
  pc : m.pc ≤ r.1.pc
  reads : ∀ i, i < c.reads.length → r.2[i]? = own[i]?

theorem do_ok {c : Cmd} {d : List Int} {m : Mac} {own : Blks} (hc : MayBe c) (hd : depthsN c.code = .ok d) (hm : MOk c d m own) (ho : m.over = false) (hf : m.fuel ≠ 0) :
    Steps c d m own (doM c (insAt c.code m.pc.toNat) { m with fuel := m.fuel - 1, pc := m.pc + 1 } own) := by
  obtain ⟨p0, p1, p2, p3, p4⟩ := hm.at_ ho
  have hfu := hm.fuel
  have hi : m.pc.toNat < c.code.length := by omega
  obtain ⟨hright, hbounds⟩ := hc.ops _ (insAt_mem hi)
  obtain ⟨r1, r2⟩ := stack_room hd hm ho
  have hgo := fun (w : Int) (hw : w ∈ waysN (insAt c.code m.pc.toNat)) (n : Nat) hn (o : Nat) hout => goes_way (n := n) (o := o) hd hm ho hw hn hout
  generalize insAt c.code m.pc.toNat = x at *
  obtain ⟨op, a, b⟩ := x
  obtain ⟨⟨o1, o2⟩, -, -⟩ := hright
  simp only at o1 o2 r1 r2 hgo
  have key : ∀ m' : Mac, m'.fuel = m.fuel - 1 → m'.stack.length ≤ 8 → m'.regs.length = 4 → m'.told = m.told → Goes c d m m'.pc m'.stack.length m'.out.length → Steps c d m own (m', own) := fun m' h1 h2 h3 h4 h5 =>
    ⟨next_ok hm (show 0 ≤ m'.fuel by omega) h2 h3 (by rw [h4, p4]) h5 p0, h1, by have := h5.le; simp only; omega, fun _ _ => rfl⟩
  have keyO : ∀ e : Nat, Steps c d m own (overM { m with fuel := m.fuel - 1, pc := m.pc + 1 } e, own) := fun e =>
    ⟨over_ok (m' := { m with fuel := m.fuel - 1, pc := m.pc + 1 }) hm (show 0 ≤ m.fuel - 1 by omega) rfl rfl rfl e, rfl, by show m.pc ≤ m.pc + 1; omega, fun _ _ => rfl⟩
  have hgo0 := hgo 0
  rw [Int.add_zero] at hgo0
  rcases (show op = 1 ∨ op = 2 ∨ op = 3 ∨ op = 4 ∨ op = 5 ∨ op = 6 ∨ op = 13 ∨ op = 14 ∨ op = 15 ∨ op = 16 ∨ op = 17 ∨ (7 ≤ op ∧ op ≤ 12) by omega) with rfl | rfl | rfl | rfl | rfl | rfl | rfl | rfl | rfl | rfl | rfl | h2
  · exact key _ rfl (by simpa [offN, onN] using r2) hm.regs rfl (hgo0 (by simp [waysN]) _ (by simp [offN, onN]) _ (by simp))
  · exact key _ rfl (by simpa [offN, onN] using r2) hm.regs rfl (hgo0 (by simp [waysN]) _ (by simp [offN, onN]) _ (by simp))
  · have h1 : 1 ≤ m.stack.length := by simpa [offN] using r1
    exact key _ rfl (by simp only [popN_length]; have := hm.deep; omega) (by simpa using hm.regs) rfl (hgo0 (by simp [waysN]) _ (by simp only [popN_length]; simp [offN, onN]; omega) _ (by simp))
  · exact key _ rfl (by simpa [offN, onN] using r2) hm.regs rfl (hgo0 (by simp [waysN]) _ (by simp [offN, onN]) _ (by simp))
  · have h1 : 1 ≤ m.stack.length := by simpa [offN] using r1
    obtain ⟨-, -, hb, -⟩ := hbounds
    obtain ⟨b1, b2, b3, b4⟩ := hb rfl
    simp only at b1 b2 b3 b4
    have hmany := hm.many
    have hlt : a.toNat < own.length := by omega
    have hg := hgo0 (by simp [waysN]) (popN m.stack 1).length (by rw [popN_length]; simp [offN, onN]; omega) m.out.length (by simp)
    refine ⟨?_, rfl, by show m.pc ≤ m.pc + 1; omega, fun i hir => ?_⟩
    · refine ⟨fun _ => ⟨by show 0 ≤ m.pc + 1; omega, hg.lt, hg.deep, hg.out, p4⟩, by show 0 ≤ m.fuel - 1; omega, by show (popN m.stack 1).length ≤ 8; rw [popN_length]; have := hm.deep; omega, hm.regs, hm.out, fun h => absurd p4 h, ?_, ?_⟩
      · intro y hy
        rcases List.mem_or_eq_of_mem_set hy with hy | rfl
        · exact hm.cells y hy
        · rw [putC_length, List.getElem?_eq_getElem hlt]
          exact hm.cells _ (List.getElem_mem _)
      · show (own.set _ _).length = _
        rw [List.length_set]
        exact hmany
    · show (own.set a.toNat _)[i]? = _
      rw [List.getElem?_set_ne (by omega)]
  · exact key _ rfl (by simpa [offN, onN] using r2) hm.regs rfl (hgo0 (by simp [waysN]) _ (by simp [offN, onN]) _ (by simp))
  · have h1 : 1 ≤ m.stack.length := by simpa [offN] using r1
    have hlen : ((popN m.stack 1).length : Int) = (m.stack.length : Int) - offN 13 + onN 13 := by rw [popN_length]; simp [offN, onN]; omega
    refine key _ rfl (by simp only [popN_length]; have := hm.deep; omega) hm.regs rfl ?_
    show Goes c d m (if topN m.stack = 0 then m.pc + 1 + a else m.pc + 1) _ _
    split
    · exact hgo a (by simp [waysN]) _ hlen _ (by simp)
    · exact hgo0 (by simp [waysN]) _ hlen _ (by simp)
  · exact key _ rfl hm.deep hm.regs rfl (hgo a (by simp [waysN]) _ (by simp [offN, onN]) _ (by simp))
  · have h1 : 1 ≤ m.stack.length := by simpa [offN] using r1
    exact key _ rfl (by simp only [popN_length]; have := hm.deep; omega) hm.regs rfl (hgo0 (by simp [waysN]) _ (by simp only [popN_length]; simp [offN, onN]; omega) _ (by simp))
  · exact keyO 13
  · exact keyO 0
  · have e : doM c ⟨op, a, b⟩ { m with fuel := m.fuel - 1, pc := m.pc + 1 } own = match twoN op (nextTop m.stack) (topN m.stack) with
        | none => (overM { m with fuel := m.fuel - 1, pc := m.pc + 1 } 12, own)
        | some n => ({ m with fuel := m.fuel - 1, pc := m.pc + 1, stack := popN m.stack 2 ++ [n] }, own) := by
      unfold doM
      simp only
      rw [if_neg (by omega), if_neg (by omega), if_neg (by omega), if_neg (by omega), if_neg (by omega), if_neg (by omega), if_neg (by omega), if_neg (by omega), if_neg (by omega), if_neg (by omega), if_neg (by omega)] <;> rfl
    rw [e]
    have hoff : offN op = 2 := by unfold offN; rw [if_neg (by omega), if_pos h2]
    have hon : onN op = 1 := by unfold onN; rw [if_neg (by omega), if_pos h2]
    have hway : waysN ⟨op, a, b⟩ = [0] := by unfold waysN; simp only; rw [if_neg (by omega), if_neg (by omega), if_neg (by omega)]
    have h1 : 2 ≤ m.stack.length := by omega
    cases twoN op (nextTop m.stack) (topN m.stack) with
    | none => exact keyO 12
    | some n =>
      have hl : (popN m.stack 2 ++ [n]).length = m.stack.length - 1 := by rw [List.length_append, popN_length, List.length_singleton]; omega
      exact key _ rfl (by simp only [hl]; have := hm.deep; omega) hm.regs rfl (hgo0 (by rw [hway]; simp) _ (by simp only [hl]; omega) _ (by simp))

/-! ### step by step -/
def stepsM (c : Cmd) : Nat → Mac × Blks → Mac × Blks
  | 0, r => r
  | n + 1, r => stepsM c n (stepM c r.1 r.2)

theorem new_ok {c : Cmd} {d : List Int} {own : Blks} (hc : MayBe c) (hd : depthsN c.code = .ok d) (hn : own.length = c.reads.length + c.writes.length) (h8 : ∀ b ∈ own, b.length = 8) : MOk c d (newM c) own := by
  obtain ⟨f1, f2, f3, f4, f5, f6⟩ := hc.few
  obtain ⟨_, h0, _⟩ := depths_fine hd
  refine ⟨fun _ => ⟨by simp [newM], by simp only [newM]; omega, ?_, ?_, rfl⟩, by simp only [newM]; omega, by simp [newM], by simp [newM], by simp [newM], (fun h => absurd rfl h), h8, hn⟩
  · show dAt d 0 = ((0 : Nat) : Int)
    rw [h0 (by omega)]
    rfl
  · show 0 + emitsN (c.code.drop 0) ≤ 8
    rw [List.drop_zero]
    have := hc.emits
    omega

/-- one step, whatever: all stays as it must be. -/
theorem step_ok {c : Cmd} {d : List Int} {m : Mac} {own : Blks} (hc : MayBe c) (hd : depthsN c.code = .ok d) (hm : MOk c d m own) :
    MOk c d (stepM c m own).1 (stepM c m own).2 ∧ m.pc ≤ (stepM c m own).1.pc ∧ (∀ i, i < c.reads.length → (stepM c m own).2[i]? = own[i]?) ∧
      (m.over = false → (stepM c m own).1.fuel = m.fuel - 1 ∨ ((stepM c m own).1.told = 11 ∧ m.fuel = 0 ∧ (stepM c m own).1.over = true)) := by
  cases ho : m.over with
  | true =>
    rw [step_over ho]
    exact ⟨hm, Int.le_refl _, fun _ _ => rfl, fun h => by cases h⟩
  | false =>
    by_cases hf : m.fuel = 0
    · rw [step_empty ho hf]
      exact ⟨over_ok hm hm.fuel rfl rfl rfl 11, Int.le_refl _, fun _ _ => rfl, fun _ => .inr ⟨rfl, hf, rfl⟩⟩
    · rw [step_goes ho hf]
      obtain ⟨h1, h2, h3, h4⟩ := do_ok hc hd hm ho hf
      exact ⟨h1, h3, h4, fun _ => .inl h2⟩

/-- what a step does hangs on the fuel only in that there is some. -/
theorem do_fuel (c : Cmd) (x : Ins) (m : Mac) (own : Blks) (f : Int) : doM c x { m with fuel := f } own = ({ (doM c x m own).1 with fuel := f }, (doM c x m own).2) := by
  by_cases h1 : x.op = 1
  · simp [doM, h1]
  by_cases h2 : x.op = 2
  · simp [doM, h2]
  by_cases h4 : x.op = 4
  · simp [doM, h4]
  by_cases h6 : x.op = 6
  · simp [doM, h6]
  by_cases h14 : x.op = 14
  · simp [doM, h14]
  by_cases h16 : x.op = 16
  · simp [doM, overM, h16]
  by_cases h17 : x.op = 17
  · simp [doM, overM, h17]
  by_cases h3 : x.op = 3
  · simp [doM, h3]
  by_cases h5 : x.op = 5
  · simp [doM, h5]
  by_cases h13 : x.op = 13
  · simp [doM, h13]
  by_cases h15 : x.op = 15
  · simp [doM, h15]
  simp only [doM, if_neg h1, if_neg h2, if_neg h4, if_neg h6, if_neg h14, if_neg h16, if_neg h17, if_neg h3, if_neg h5, if_neg h13, if_neg h15]
  cases twoN x.op (nextTop m.stack) (topN m.stack) <;> rfl

end Go.Proofs.Ytldljohholgmoaa

/-
  A command at work, on plain numbers: many steps, their end, more fuel, blocks that are the same where they are read. No conditions but those that stand there.
-/
namespace Go.Proofs.Ytldljohholgmoaa
open Go.RowKit

theorem steps_add (c : Cmd) : ∀ (a b : Nat) (r : Mac × Blks), stepsM c (a + b) r = stepsM c b (stepsM c a r)
  | 0, b, r => by rw [Nat.zero_add]; rfl
  | a + 1, b, r => by
    rw [show a + 1 + b = (a + b) + 1 by omega]
    exact steps_add c a b _

theorem steps_succ (c : Cmd) (n : Nat) (r : Mac × Blks) : stepsM c (n + 1) r = stepM c (stepsM c n r).1 (stepsM c n r).2 := steps_add c n 1 r

theorem steps_over {c : Cmd} {r : Mac × Blks} (h : r.1.over = true) : ∀ n, stepsM c n r = r
  | 0 => rfl
  | n + 1 => by
    show stepsM c n (stepM c r.1 r.2) = r
    rw [step_over h]
    exact steps_over h n

theorem steps_ok {c : Cmd} {d : List Int} (hc : MayBe c) (hd : depthsN c.code = .ok d) {r : Mac × Blks} (h : MOk c d r.1 r.2) : ∀ n, MOk c d (stepsM c n r).1 (stepsM c n r).2
  | 0 => h
  | n + 1 => by
    rw [steps_succ]
    exact (step_ok hc hd (steps_ok hc hd h n)).1

/-- over here and over there: the same. -/
theorem over_same {c : Cmd} {r : Mac × Blks} {a b : Nat} (ha : (stepsM c a r).1.over = true) (hb : (stepsM c b r).1.over = true) : stepsM c a r = stepsM c b r := by
  rcases Nat.le_total a b with h | h
  · obtain ⟨k, rfl⟩ := Nat.exists_eq_add_of_le h
    rw [steps_add, steps_over ha]
  · obtain ⟨k, rfl⟩ := Nat.exists_eq_add_of_le h
    rw [steps_add, steps_over hb]

/-- so many steps, and not fewer, to its end. -/
structure Ends (c : Cmd) (r : Mac × Blks) (n : Nat) : Prop where
  over : (stepsM c n r).1.over = true
  first : ∀ k, k < n → (stepsM c k r).1.over = false

theorem Ends.one {c : Cmd} {r : Mac × Blks} {n m : Nat} (h : Ends c r n) (k : Ends c r m) : n = m := by
  rcases Nat.lt_trichotomy n m with g | g | g
  · have := k.first n g
    rw [h.over] at this
    cases this
  · exact g
  · have := h.first m g
    rw [k.over] at this
    cases this

theorem Ends.step {c : Cmd} {r : Mac × Blks} {n : Nat} (ho : r.1.over = false) (h : Ends c (stepM c r.1 r.2) n) : Ends c r (n + 1) := by
  refine ⟨h.over, fun k hk => ?_⟩
  cases k with
  | zero => exact ho
  | succ k => exact h.first k (by omega)

theorem ends {c : Cmd} {d : List Int} (hc : MayBe c) (hd : depthsN c.code = .ok d) : ∀ (f : Nat) (r : Mac × Blks), MOk c d r.1 r.2 → r.1.fuel = f → ∃ n, n ≤ f + 1 ∧ Ends c r n
  | f, r, h, hf => by
    cases ho : r.1.over with
    | true => exact ⟨0, by omega, ho, fun k hk => absurd hk (by omega)⟩
    | false =>
      obtain ⟨h1, -, -, h2⟩ := step_ok hc hd h
      cases ho' : (stepM c r.1 r.2).1.over with
      | true => exact ⟨1, by omega, Ends.step ho ⟨ho', fun k hk => absurd hk (by omega)⟩⟩
      | false =>
        rcases h2 ho with h2 | ⟨-, -, h2⟩
        · cases f with
          | zero => have := h1.fuel; omega
          | succ f =>
            obtain ⟨n, hn, he⟩ := ends hc hd f (stepM c r.1 r.2) h1 (by omega)
            exact ⟨n + 1, by omega, Ends.step ho he⟩
        · rw [ho'] at h2
          cases h2

/-- while it goes on each step takes one of its fuel. -/
theorem steps_fuel {c : Cmd} {d : List Int} (hc : MayBe c) (hd : depthsN c.code = .ok d) {r : Mac × Blks} (h : MOk c d r.1 r.2) : ∀ n, (∀ k, k ≤ n → (stepsM c k r).1.over = false) → (stepsM c n r).1.fuel = r.1.fuel - n
  | 0, _ => by simp [stepsM]
  | n + 1, hk => by
    have ih := steps_fuel hc hd h n (fun k hk' => hk k (by omega))
    have h1 := hk (n + 1) (by omega)
    rw [steps_succ] at h1 ⊢
    obtain ⟨-, -, -, h2⟩ := step_ok hc hd (steps_ok hc hd h n)
    rcases h2 (hk n (by omega)) with h2 | ⟨-, -, h2⟩
    · rw [h2, ih]
      omega
    · rw [h1] at h2
      cases h2

/-- what an instruction says when it ends the command. -/
theorem do_told {c : Cmd} {x : Ins} {m : Mac} {own : Blks} (ho : m.over = false) (h : (doM c x m own).1.over = true) : (doM c x m own).1.told = 0 ∨ (doM c x m own).1.told = 12 ∨ (doM c x m own).1.told = 13 := by
  by_cases h1 : x.op = 1
  · simp [doM, h1, ho] at h
  by_cases h2 : x.op = 2
  · simp [doM, h2, ho] at h
  by_cases h4 : x.op = 4
  · simp [doM, h4, ho] at h
  by_cases h6 : x.op = 6
  · simp [doM, h6, ho] at h
  by_cases h14 : x.op = 14
  · simp [doM, h14, ho] at h
  by_cases h16 : x.op = 16
  · simp [doM, overM, h16]
  by_cases h17 : x.op = 17
  · simp [doM, overM, h17]
  by_cases h3 : x.op = 3
  · simp [doM, h3, ho] at h
  by_cases h5 : x.op = 5
  · simp [doM, h5, ho] at h
  by_cases h13 : x.op = 13
  · simp [doM, h13, ho] at h
  by_cases h15 : x.op = 15
  · simp [doM, h15, ho] at h
  simp only [doM, if_neg h1, if_neg h2, if_neg h4, if_neg h6, if_neg h14, if_neg h16, if_neg h17, if_neg h3, if_neg h5, if_neg h13, if_neg h15] at h ⊢
  cases ht : twoN x.op (nextTop m.stack) (topN m.stack) with
  | none => exact .inr (.inl rfl)
  | some n =>
    rw [ht] at h
    simp [ho] at h

/-- its end: within its fuel and one step, well or with one of three errors; with the fuel's, just if it took them all. -/
theorem end_bound {c : Cmd} {d : List Int} (hc : MayBe c) (hd : depthsN c.code = .ok d) {r : Mac × Blks} (h : MOk c d r.1 r.2) (ho : r.1.over = false) {n : Nat} (he : Ends c r n) :
    1 ≤ n ∧ (n : Int) ≤ r.1.fuel + 1 ∧ ((stepsM c n r).1.told = 0 ∨ (stepsM c n r).1.told = 11 ∨ (stepsM c n r).1.told = 12 ∨ (stepsM c n r).1.told = 13) ∧ ((n : Int) = r.1.fuel + 1 ↔ (stepsM c n r).1.told = 11) := by
  cases n with
  | zero =>
    have := he.over
    rw [show stepsM c 0 r = r from rfl, ho] at this
    cases this
  | succ k =>
    have hk := he.first k (by omega)
    have hm := steps_ok hc hd h k
    have hf := steps_fuel hc hd h k (fun j hj => he.first j (by omega))
    have hov := he.over
    rw [steps_succ] at hov ⊢
    have h0 := hm.fuel
    by_cases hz : (stepsM c k r).1.fuel = 0
    · rw [step_empty hk hz]
      refine ⟨by omega, by omega, .inr (.inl rfl), ?_⟩
      show ((k + 1 : Nat) : Int) = _ ↔ (11 : Nat) = 11
      simp only [iff_true]
      omega
    · rw [step_goes hk hz] at hov ⊢
      have ht := do_told (by simpa using hk) hov
      refine ⟨by omega, by omega, by omega, ?_⟩
      omega

/-! ### more fuel -/
theorem do_args {c c' : Cmd} (h : c'.args = c.args) (x : Ins) (m : Mac) (own : Blks) : doM c' x m own = doM c x m own := by
  unfold doM
  rw [h]

theorem do_fuel_is (c : Cmd) (x : Ins) (m : Mac) (own : Blks) : (doM c x m own).1.fuel = m.fuel := by
  have h := do_fuel c x m own m.fuel
  rw [show { m with fuel := m.fuel } = m from rfl] at h
  rw [h]

/-- with more fuel it does what it does with less, as far as that goes. -/
theorem steps_more {c : Cmd} {d : List Int} (hc : MayBe c) (hd : depthsN c.code = .ok d) {own : Blks} (h : MOk c d (newM c) own) {e : Int} (h0 : 0 ≤ e) : ∀ n : Nat, (n : Int) ≤ c.fuel →
    stepsM { c with fuel := c.fuel + e } n (newM { c with fuel := c.fuel + e }, own) = ({ (stepsM c n (newM c, own)).1 with fuel := (stepsM c n (newM c, own)).1.fuel + e }, (stepsM c n (newM c, own)).2)
  | 0, _ => rfl
  | n + 1, hn => by
    rw [steps_succ, steps_succ, steps_more hc hd h h0 n (by omega)]
    have hm := steps_ok hc hd (r := (newM c, own)) h n
    have hfu : (stepsM c n (newM c, own)).1.over = false → (stepsM c n (newM c, own)).1.fuel = c.fuel - n := fun ho => by
      refine steps_fuel hc hd (r := (newM c, own)) h n (fun k hk => ?_)
      cases hko : (stepsM c k (newM c, own)).1.over with
      | false => rfl
      | true =>
        obtain ⟨j, rfl⟩ := Nat.exists_eq_add_of_le hk
        rw [steps_add, steps_over hko, hko] at ho
        cases ho
    generalize stepsM c n (newM c, own) = r at *
    obtain ⟨m, own'⟩ := r
    simp only at hm hfu ⊢
    by_cases ho : m.over = true
    · rw [step_over (m := { m with fuel := m.fuel + e }) ho, step_over ho]
    · have ho := Bool.eq_false_iff.2 ho
      have hf := hfu ho
      rw [step_goes (m := { m with fuel := m.fuel + e }) ho (show m.fuel + e ≠ 0 by omega), step_goes ho (by omega), do_args (c := c) (c' := { c with fuel := c.fuel + e }) rfl]
      have key := do_fuel c (insAt c.code m.pc.toNat) { m with fuel := m.fuel - 1, pc := m.pc + 1 } own' (m.fuel + e - 1)
      have hf' := do_fuel_is c (insAt c.code m.pc.toNat) { m with fuel := m.fuel - 1, pc := m.pc + 1 } own'
      simp only at key hf' ⊢
      rw [key, hf', show m.fuel - 1 + e = m.fuel + e - 1 by omega]

/-! ### blocks that are the same where they are read -/
structure Agree (c : Cmd) (a b : Blks) : Prop where
  len : a.length = b.length
  cellsA : ∀ x ∈ a, x.length = 8
  cellsB : ∀ x ∈ b, x.length = 8
  gets : ∀ x ∈ c.code, x.op = 4 → getC (a[x.a.toNat]?.getD []) x.b = getC (b[x.a.toNat]?.getD []) x.b

theorem Agree.put {c : Cmd} {a b : Blks} (h : Agree c a b) (i : Nat) (j n : Int) : Agree c (a.set i (putC (a[i]?.getD []) j n)) (b.set i (putC (b[i]?.getD []) j n)) := by
  have hl := h.len
  have key : ∀ (a : Blks), (∀ x ∈ a, x.length = 8) → ∀ x ∈ a.set i (putC (a[i]?.getD []) j n), x.length = 8 := fun a ha x hx => by
    by_cases hi : i < a.length
    · rcases List.mem_or_eq_of_mem_set hx with hx | rfl
      · exact ha x hx
      · rw [putC_length, List.getElem?_eq_getElem hi]
        exact ha _ (List.getElem_mem _)
    · rw [List.set_eq_of_length_le (by omega)] at hx
      exact ha x hx
  refine ⟨by rw [List.length_set, List.length_set, hl], key a h.cellsA, key b h.cellsB, fun x hx h4 => ?_⟩
  have hg := h.gets x hx h4
  by_cases e : x.a.toNat = i
  · by_cases hi : i < a.length
    · have hb : i < b.length := by omega
      rw [e] at hg ⊢
      rw [List.getElem?_set_self hi, List.getElem?_set_self hb]
      rw [List.getElem?_eq_getElem hi, List.getElem?_eq_getElem hb] at hg ⊢
      simp only [Option.getD_some] at hg ⊢
      rw [getC_putC (h.cellsA _ (List.getElem_mem _)), getC_putC (h.cellsB _ (List.getElem_mem _)), hg]
    · rw [List.set_eq_of_length_le (by omega), List.set_eq_of_length_le (by omega)]
      exact hg
  · rw [List.getElem?_set_ne (by omega), List.getElem?_set_ne (by omega)]
    exact hg

theorem do_reads {c : Cmd} {x : Ins} {m : Mac} {a b : Blks} (hx : x ∈ c.code) (h : Agree c a b) : (doM c x m a).1 = (doM c x m b).1 ∧ Agree c (doM c x m a).2 (doM c x m b).2 := by
  by_cases h1 : x.op = 1
  · simp [doM, h1, h]
  by_cases h2 : x.op = 2
  · simp [doM, h2, h]
  by_cases h4 : x.op = 4
  · have := h.gets x hx h4
    simp [doM, h4, h, this]
  by_cases h6 : x.op = 6
  · simp [doM, h6, h]
  by_cases h14 : x.op = 14
  · simp [doM, h14, h]
  by_cases h16 : x.op = 16
  · simp [doM, h16, h]
  by_cases h17 : x.op = 17
  · simp [doM, h17, h]
  by_cases h3 : x.op = 3
  · simp [doM, h3, h]
  by_cases h5 : x.op = 5
  · have hp := h.put x.a.toNat x.b (topN m.stack)
    simp [doM, h5, hp]
  by_cases h13 : x.op = 13
  · simp [doM, h13, h]
  by_cases h15 : x.op = 15
  · simp [doM, h15, h]
  simp only [doM, if_neg h1, if_neg h2, if_neg h4, if_neg h6, if_neg h14, if_neg h16, if_neg h17, if_neg h3, if_neg h5, if_neg h13, if_neg h15]
  cases twoN x.op (nextTop m.stack) (topN m.stack) <;> exact ⟨rfl, h⟩

theorem steps_reads {c : Cmd} {d : List Int} (hc : MayBe c) (hd : depthsN c.code = .ok d) {m : Mac} {a b : Blks} (hm : MOk c d m a) (h : Agree c a b) : ∀ n, (stepsM c n (m, a)).1 = (stepsM c n (m, b)).1 ∧ Agree c (stepsM c n (m, a)).2 (stepsM c n (m, b)).2
  | 0 => ⟨rfl, h⟩
  | n + 1 => by
    obtain ⟨h1, h2⟩ := steps_reads hc hd hm h n
    have hk := steps_ok hc hd (r := (m, a)) hm n
    rw [steps_succ, steps_succ]
    rw [← h1]
    generalize (stepsM c n (m, b)).2 = y at *
    generalize stepsM c n (m, a) = r at *
    obtain ⟨m', x⟩ := r
    simp only at hk h2 ⊢
    cases ho : m'.over with
    | true =>
      rw [step_over ho, step_over ho]
      exact ⟨rfl, h2⟩
    | false =>
      by_cases hf : m'.fuel = 0
      · rw [step_empty ho hf, step_empty ho hf]
        exact ⟨rfl, h2⟩
      · rw [step_goes ho hf, step_goes ho hf]
        obtain ⟨p1, p2, -⟩ := hk.at_ ho
        exact do_reads (insAt_mem (by omega)) h2

theorem Ends.reads {c : Cmd} {d : List Int} (hc : MayBe c) (hd : depthsN c.code = .ok d) {m : Mac} {a b : Blks} (hm : MOk c d m a) (h : Agree c a b) {n : Nat} (he : Ends c (m, a) n) : Ends c (m, b) n :=
  ⟨by rw [← (steps_reads hc hd hm h n).1]; exact he.over, fun k hk => by rw [← (steps_reads hc hd hm h k).1]; exact he.first k hk⟩

/-- so many steps and then as many as it takes: the same as from the beginning. -/
theorem Ends.goes {c : Cmd} {r : Mac × Blks} {n k j : Nat} (he : Ends c r n) (h : (stepsM c j (stepsM c k r)).1.over = true) : stepsM c j (stepsM c k r) = stepsM c n r := by
  rw [← steps_add] at h ⊢
  exact over_same h he.over

end Go.Proofs.Ytldljohholgmoaa

/-
  Blocks as they were, on plain numbers: a mark, a block kept ahead of its change, what is seen. No conditions but those that stand there.
-/
namespace Go.Proofs.Ytldljohholgmoaa

structure Ent where
  cells : List Int
  seq : Int
deriving DecidableEq

/-- a block of noughts. -/
def entZ : Ent := ⟨[0, 0, 0, 0, 0, 0, 0, 0], 0⟩

/-- a mark's own blocks: is it on, what they were, are they kept? -/
structure Mrk where
  on : Bool
  old : List Ent
  kept : List Bool

def beginS (n : Int) : Mrk := ⟨true, List.replicate n.toNat entZ, List.replicate n.toNat false⟩

/-- is it to be kept? -/
def keepsS (m : Mrk) (l : List Ent) (i : Int) : Prop := m.on = true ∧ 0 ≤ i ∧ i < l.length ∧ i < m.kept.length ∧ m.kept[i.toNat]? = some false
instance (m : Mrk) (l : List Ent) (i : Int) : Decidable (keepsS m l i) := by unfold keepsS; infer_instance

def keepS (m : Mrk) (l : List Ent) (i : Int) : Mrk := if keepsS m l i then ⟨m.on, m.old.set i.toNat (l[i.toNat]?.getD entZ), m.kept.set i.toNat true⟩ else m

def seeS (m : Mrk) (l : List Ent) (i : Int) : Ent :=
  if 0 ≤ i ∧ i < l.length then (if m.on = true ∧ m.kept[i.toNat]? = some true then m.old[i.toNat]?.getD entZ else l[i.toNat]?.getD entZ) else entZ

/-- a block's change. -/
def turnS (l : List Ent) (i : Int) (e : Ent) : List Ent := if 0 ≤ i ∧ i < l.length then l.set i.toNat e else l

theorem turnS_length (l : List Ent) (i : Int) (e : Ent) : (turnS l i e).length = l.length := by
  unfold turnS
  split <;> simp
theorem keepS_on (m : Mrk) (l : List Ent) (i : Int) : (keepS m l i).on = m.on := by
  unfold keepS
  split <;> rfl
theorem keepS_old (m : Mrk) (l : List Ent) (i : Int) : (keepS m l i).old.length = m.old.length := by
  unfold keepS
  split <;> simp
theorem keepS_kept (m : Mrk) (l : List Ent) (i : Int) : (keepS m l i).kept.length = m.kept.length := by
  unfold keepS
  split <;> simp

/-- all blocks are seen as they were. -/
structure Saw (m : Mrk) (x l : List Ent) : Prop where
  on : m.on = true
  len : x.length = l.length
  old : m.old.length = l.length
  kept : m.kept.length = l.length
  sees : ∀ k : Nat, k < l.length → seeS m x k = l[k]?.getD entZ

theorem saw_begin (l : List Ent) : Saw (beginS l.length) l l := by
  refine ⟨rfl, rfl, by simp [beginS], by simp [beginS], fun k hk => ?_⟩
  unfold seeS beginS
  rw [if_pos ⟨by omega, by omega⟩, if_neg]
  · rfl
  · rintro ⟨-, h⟩
    simp [List.getElem?_replicate] at h

theorem Saw.keep {m : Mrk} {x l : List Ent} (h : Saw m x l) (i : Int) (e : Ent) : Saw (keepS m x i) (turnS x i e) l := by
  have hl := h.len
  have ho := h.old
  have hk := h.kept
  refine ⟨by rw [keepS_on]; exact h.on, by rw [turnS_length]; exact hl, by rw [keepS_old]; exact ho, by rw [keepS_kept]; exact hk, fun k hkl => ?_⟩
  have hs := h.sees k hkl
  unfold seeS at hs ⊢
  rw [turnS_length, if_pos ⟨by omega, by omega⟩, keepS_on]
  rw [if_pos ⟨by omega, by omega⟩] at hs
  simp only [Int.toNat_natCast] at hs ⊢
  by_cases hi : 0 ≤ i ∧ i < x.length
  · by_cases hik : i.toNat = k
    · have hkk : k < m.kept.length := by omega
      have hko : k < m.old.length := by omega
      have hkx : k < x.length := by omega
      cases hb : m.kept[k]? with
      | none => rw [List.getElem?_eq_none_iff] at hb; omega
      | some b =>
        cases b with
        | true =>
          have hnk : ¬ keepsS m x i := fun g => by
            have := g.2.2.2.2
            rw [hik, hb] at this
            cases this
          rw [keepS, if_neg hnk, hb, if_pos ⟨h.on, rfl⟩]
          rw [hb, if_pos ⟨h.on, rfl⟩] at hs
          exact hs
        | false =>
          have hyk : keepsS m x i := ⟨h.on, hi.1, hi.2, by omega, by rw [hik]; exact hb⟩
          rw [keepS, if_pos hyk, hik]
          simp only
          rw [List.getElem?_set_self hkk, if_pos ⟨h.on, rfl⟩, List.getElem?_set_self hko]
          rw [hb, if_neg (by rintro ⟨-, g⟩; cases g)] at hs
          exact hs
    · have e1 : (keepS m x i).kept[k]? = m.kept[k]? := by
        unfold keepS
        split
        · rw [List.getElem?_set_ne hik]
        · rfl
      have e2 : (keepS m x i).old[k]? = m.old[k]? := by
        unfold keepS
        split
        · rw [List.getElem?_set_ne hik]
        · rfl
      rw [e1, e2, turnS, if_pos hi, List.getElem?_set_ne hik]
      exact hs
  · have hnk : ¬ keepsS m x i := fun g => hi ⟨g.2.1, g.2.2.1⟩
    rw [keepS, if_neg hnk, turnS, if_neg hi]
    exact hs

/-- without a mark nothing is kept, and a block is seen as it is. -/
theorem keep_off {m : Mrk} (h : m.on = false) (l : List Ent) (i : Int) : keepS m l i = m := by
  rw [keepS, if_neg]
  intro g
  have g := g.1
  rw [h] at g
  cases g
theorem see_off {m : Mrk} (h : m.on = false) (l : List Ent) (i : Int) : seeS m l i = if 0 ≤ i ∧ i < l.length then l[i.toNat]?.getD entZ else entZ := by
  unfold seeS
  split
  · rw [if_neg]
    rw [h]
    rintro ⟨g, -⟩
    cases g
  · rfl

/-- kept twice, a block is as it was the first time; others aren't kept. -/
theorem keep_twice (l n : List Ent) {k : Nat} (h : k < l.length) (hn : n.length = l.length) :
    keepS (keepS (beginS l.length) l k) n k = ⟨true, (List.replicate l.length entZ).set k (l[k]?.getD entZ), (List.replicate l.length false).set k true⟩ := by
  have h1 : keepS (beginS l.length) l k = ⟨true, (List.replicate l.length entZ).set k (l[k]?.getD entZ), (List.replicate l.length false).set k true⟩ := by
    rw [keepS, if_pos]
    · rfl
    · exact ⟨rfl, by omega, by omega, by simp [beginS, h], by simp [beginS, h]⟩
  rw [h1, keepS, if_neg]
  rintro ⟨-, -, -, -, g⟩
  simp [h] at g

end Go.Proofs.Ytldljohholgmoaa

/-
  Blocks and commands on them, on plain numbers: a command's own blocks, blocks behind it. No conditions but those that stand there.
-/
namespace Go.Proofs.Ytldljohholgmoaa

/-- a command's blocks: what it reads, then what it writes. -/
def blocksN (c : Cmd) : List Int := c.reads ++ c.writes

def loadT (l : List Ent) (c : Cmd) : Blks := (blocksN c).map fun i => (l[i.toNat]?.getD entZ).cells

/-- the i'th of those that it writes. -/
def wAt (c : Cmd) (i : Nat) : Nat := (c.writes[i]?.getD 0).toNat

/-- blocks behind a command's own ones, the first so many of those that it writes being stored. -/
def stT (l : List Ent) (c : Cmd) (own : Blks) (s : Int) : Nat → List Ent
  | 0 => l
  | i + 1 => (stT l c own s i).set (wAt c i) ⟨own[c.reads.length + i]?.getD [], s⟩

def storeT (l : List Ent) (c : Cmd) (own : Blks) (s : Int) : List Ent := stT l c own s c.writes.length

/-- each of its blocks is there. -/
def fitsT (c : Cmd) (n : Nat) : Prop := (∀ x ∈ c.reads, x < n) ∧ ∀ x ∈ c.writes, x < n

theorem risesT_ge : ∀ {l : List Int} {z : Int}, risesN l z → ∀ x ∈ l, z ≤ x
  | [], _, _, x, hx => by simp at hx
  | y :: l, z, h, x, hx => by
    rcases List.mem_cons.1 hx with rfl | hx
    · exact h.1
    · have := risesT_ge h.2 x hx
      have := h.1
      omega

theorem risesT_lt : ∀ {l : List Int} {z : Int}, risesN l z → ∀ {i j : Nat} (hij : i < j) (hj : j < l.length), l[i]'(by omega) < l[j]
  | [], _, _, i, j, _, hj => by simp at hj
  | y :: l, z, h, i, j, hij, hj => by
    obtain ⟨j, rfl⟩ : ∃ k, j = k + 1 := ⟨j - 1, by omega⟩
    cases i with
    | zero =>
      have := risesT_ge h.2 (l[j]'(by simpa using hj)) (List.getElem_mem _)
      simp only [List.getElem_cons_zero, List.getElem_cons_succ]
      omega
    | succ i =>
      simp only [List.getElem_cons_succ]
      exact risesT_lt h.2 (by omega) (by simpa using hj)

/-- unlike places, unlike blocks. -/
theorem wAt_ne {c : Cmd} (h : setsN c) {i j : Nat} (hi : i < c.writes.length) (hj : j < c.writes.length) (e : i ≠ j) : wAt c i ≠ wAt c j := by
  have key : ∀ {i j : Nat}, i < j → (hj : j < c.writes.length) → wAt c i ≠ wAt c j := fun {i j} hij hj => by
    have h1 := risesT_lt h.2.1 hij hj
    have h2 := risesT_ge h.2.1 (c.writes[i]'(by omega)) (List.getElem_mem _)
    unfold wAt
    rw [List.getElem?_eq_getElem (by omega), List.getElem?_eq_getElem hj]
    simp only [Option.getD_some]
    omega
  rcases Nat.lt_or_gt_of_ne e with g | g
  · exact key g hj
  · exact (key g hi).symm

theorem wAt_lt {c : Cmd} {n : Nat} (h : setsN c) (hf : fitsT c n) {i : Nat} (hi : i < c.writes.length) : wAt c i < n := by
  have h1 := risesT_ge h.2.1 c.writes[i] (List.getElem_mem _)
  have h2 := hf.2 c.writes[i] (List.getElem_mem _)
  unfold wAt
  rw [List.getElem?_eq_getElem hi]
  simp only [Option.getD_some]
  omega

theorem wAt_mem {c : Cmd} {j : Nat} (hj : (j : Int) ∈ c.writes) : ∃ i, i < c.writes.length ∧ wAt c i = j := by
  obtain ⟨i, hi, e⟩ := List.getElem_of_mem hj
  exact ⟨i, hi, by unfold wAt; rw [List.getElem?_eq_getElem hi, Option.getD_some, e]; rfl⟩

theorem wAt_cast {c : Cmd} (h : setsN c) {i : Nat} (hi : i < c.writes.length) : ((wAt c i : Nat) : Int) = c.writes[i] := by
  have h1 := risesT_ge h.2.1 c.writes[i] (List.getElem_mem _)
  unfold wAt
  rw [List.getElem?_eq_getElem hi]
  simp only [Option.getD_some]
  omega

section
variable {l : List Ent} {c : Cmd} {own : Blks} {s : Int}

theorem st_length : ∀ i, (stT l c own s i).length = l.length
  | 0 => rfl
  | i + 1 => by rw [stT, List.length_set, st_length i]

theorem st_other {j : Nat} : ∀ i, (∀ k, k < i → wAt c k ≠ j) → (stT l c own s i)[j]? = l[j]?
  | 0, _ => rfl
  | i + 1, h => by
    rw [stT, List.getElem?_set_ne (h i (by omega))]
    exact st_other i (fun k hk => h k (by omega))

theorem st_at (h : setsN c) {k : Nat} (hl : wAt c k < l.length) : ∀ i, k < i → i ≤ c.writes.length → (stT l c own s i)[wAt c k]? = some ⟨own[c.reads.length + k]?.getD [], s⟩
  | 0, hk, _ => by omega
  | i + 1, hk, hi => by
    rw [stT]
    by_cases e : k = i
    · rw [e] at hl ⊢
      rw [List.getElem?_set_self (by rw [st_length]; exact hl)]
    · rw [List.getElem?_set_ne (wAt_ne h (by omega) (by omega) (by omega))]
      exact st_at h hl i (by omega) (by omega)

/-- just the blocks that it writes are by its number; all others stay. -/
theorem store_length : (storeT l c own s).length = l.length := st_length _
theorem store_writes (h : setsN c) (hf : fitsT c l.length) {k : Nat} (hk : k < c.writes.length) : (storeT l c own s)[wAt c k]? = some ⟨own[c.reads.length + k]?.getD [], s⟩ := st_at h (wAt_lt h hf hk) _ hk (Nat.le_refl _)
theorem store_other (h : setsN c) {j : Nat} (hj : (j : Int) ∉ c.writes) : (storeT l c own s)[j]? = l[j]? := st_other _ fun k hk e => hj (by rw [← e, wAt_cast h hk]; exact List.getElem_mem _)

theorem load_length : (loadT l c).length = c.reads.length + c.writes.length := by simp [loadT, blocksN]
theorem load_reads {i : Nat} (hi : i < c.reads.length) : (loadT l c)[i]? = some (l[(c.reads[i]).toNat]?.getD entZ).cells := by
  unfold loadT blocksN
  rw [List.getElem?_map, List.getElem?_append_left hi, List.getElem?_eq_getElem hi]
  rfl
theorem load_writes {i : Nat} (hi : i < c.writes.length) : (loadT l c)[c.reads.length + i]? = some (l[wAt c i]?.getD entZ).cells := by
  unfold loadT blocksN wAt
  rw [List.getElem?_map, List.getElem?_append_right (by omega), Nat.add_sub_cancel_left, List.getElem?_eq_getElem hi]
  rfl

/-- what is stored of a command's own blocks is loaded again, what it writes; what it reads stays. -/
theorem load_store (h : setsN c) (hf : fitsT c l.length) (hn : own.length = c.reads.length + c.writes.length) {i : Nat} (hi : i < own.length) :
    (loadT (storeT l c own s) c)[i]? = if i < c.reads.length then (loadT l c)[i]? else own[i]? := by
  split
  next hr =>
    rw [load_reads hr, load_reads hr]
    have h0 := risesT_ge h.1 c.reads[i] (List.getElem_mem _)
    have hd := h.2.2 c.reads[i] (List.getElem_mem _)
    rw [store_other h (by rw [Int.toNat_of_nonneg h0]; exact hd)]
  next hr =>
    obtain ⟨k, rfl⟩ := Nat.exists_eq_add_of_le (Nat.le_of_not_lt hr)
    rw [load_writes (by omega), store_writes h hf (by omega), List.getElem?_eq_getElem hi]
    rfl

/-- blocks that are the same where a command has its own: the same own blocks. -/
theorem load_same {m : List Ent} (h : ∀ x ∈ blocksN c, l[x.toNat]? = m[x.toNat]?) : loadT l c = loadT m c := by
  unfold loadT
  apply List.map_congr_left
  intro x hx
  rw [h x hx]

end

/-- blocks, and a machine, behind a command. -/
def applyT (l : List Ent) (c : Cmd) (s : Int) (r : Mac × Blks) : List Ent := if r.1.told = 0 then storeT l c r.2 s else l

theorem apply_length (l : List Ent) (c : Cmd) (s : Int) (r : Mac × Blks) : (applyT l c s r).length = l.length := by
  unfold applyT
  split
  · exact store_length
  · rfl

end Go.Proofs.Ytldljohholgmoaa

/-
  Who waits for which block, on plain numbers: those who wait, in order, each with its number and its command. No conditions but those that stand there.
-/
namespace Go.Proofs.Ytldljohholgmoaa

/-- who has it, by what stands ahead. -/
theorem hasS_split (K : Keys) (s : Int) : hasS (grK K) s = true ↔ ∃ pre e post, K = pre ++ (s, e) :: post ∧ (pre = [] ∨ (e = false ∧ ∀ x ∈ pre, x.2 = false)) := by
  rw [hasS_gr]
  constructor
  · rintro ⟨i, hi, hs, hh⟩
    rw [has_one hi, Bool.or_eq_true, decide_eq_true_eq, Bool.and_eq_true] at hh
    refine ⟨K.take i, (keyAt K i).2, K.drop (i + 1), ?_, ?_⟩
    · rw [← hs, show ((keyAt K i).1, (keyAt K i).2) = K[i] by rw [keyAt_lt hi], ← List.drop_eq_getElem_cons hi, List.take_append_drop]
    · rcases hh with rfl | ⟨h1, h2⟩
      · exact .inl rfl
      · refine .inr ⟨by simpa using h2, fun x hx => ?_⟩
        unfold freeK at h1
        rw [List.all_eq_true] at h1
        simpa using h1 x hx
  · rintro ⟨pre, e, post, rfl, h⟩
    have hat : keyAt (pre ++ (s, e) :: post) pre.length = (s, e) := by
      unfold keyAt
      rw [List.getElem?_append_right (Nat.le_refl _), Nat.sub_self]
      rfl
    refine ⟨pre.length, by simp, by rw [hat], ?_⟩
    rw [has_one (by simp), hat]
    rcases h with rfl | ⟨rfl, h⟩
    · rfl
    · rw [Bool.or_eq_true]
      refine .inr ?_
      unfold freeK
      rw [List.take_left, Bool.not_false, Bool.and_true, List.all_eq_true]
      intro x hx
      simpa using h x hx

/-- one more at the end takes nothing from anybody. -/
theorem has_more (K : Keys) (s t : Int) (e : Bool) (h : t ≠ s) : hasS (grK (K ++ [(t, e)])) s = hasS (grK K) s := by
  rw [Bool.eq_iff_iff, hasS_gr, hasS_gr]
  have hat : ∀ {i}, i < K.length → keyAt (K ++ [(t, e)]) i = keyAt K i := fun {i} hi => by
    unfold keyAt
    rw [List.getElem?_append_left hi]
  have hhas : ∀ {i}, i < K.length → hasK (K ++ [(t, e)]) i = hasK K i := fun {i} hi => by
    unfold hasK freeK
    rw [List.take_append_of_le_length (by omega)]
  constructor
  · rintro ⟨i, hi, hs, hh⟩
    rw [List.length_append, List.length_singleton] at hi
    by_cases e' : i < K.length
    · rw [hat e'] at hs
      rw [hhas e'] at hh
      exact ⟨i, e', hs, hh⟩
    · obtain rfl : i = K.length := by omega
      have : keyAt (K ++ [(t, e)]) K.length = (t, e) := by
        unfold keyAt
        rw [List.getElem?_append_right (Nat.le_refl _), Nat.sub_self]
        rfl
      rw [this] at hs
      exact absurd hs h
  · rintro ⟨i, hi, hs, hh⟩
    exact ⟨i, by rw [List.length_append]; omega, by rw [hat hi]; exact hs, by rw [hhas hi]; exact hh⟩

/-- who gives back takes nothing from anybody else. -/
theorem has_less {K : Keys} {s t : Int} (h : s ≠ t) (hh : hasS (grK K) s = true) : hasS (grK (K.filter fun x => decide (x.1 ≠ t))) s = true := by
  rw [hasS_split] at hh ⊢
  obtain ⟨pre, e, post, rfl, hp⟩ := hh
  refine ⟨pre.filter fun x => decide (x.1 ≠ t), e, post.filter fun x => decide (x.1 ≠ t), ?_, ?_⟩
  · rw [List.filter_append, List.filter_cons_of_pos (by simpa using h)]
  · rcases hp with rfl | ⟨he, hp⟩
    · exact .inl rfl
    · exact .inr ⟨he, fun x hx => hp x (List.mem_filter.1 hx).1⟩

/-- who writes has it alone. -/
theorem has_alone {K : Keys} {s t : Int} (he : ∀ x ∈ K, x.1 = s → x.2 = true) (hst : s ≠ t) (hs : hasS (grK K) s = true) (ht : hasS (grK K) t = true) : False := by
  rw [hasS_gr] at hs ht
  obtain ⟨i, hi, h1, h2⟩ := hs
  obtain ⟨j, hj, g1, g2⟩ := ht
  have hm : keyAt K i ∈ K := by rw [keyAt_lt hi]; exact List.getElem_mem _
  have hx := he _ hm h1
  obtain rfl := excl_first hi h2 hx
  by_cases e : j = 0
  · rw [e, h1] at g1
    exact hst g1
  · rw [excl_alone hj hx (by omega)] at g2
    cases g2

/-- where all read, all have it. -/
theorem has_reads {K : Keys} {s : Int} (hr : ∀ x ∈ K, x.2 = false) (hs : ∃ x ∈ K, x.1 = s) : hasS (grK K) s = true := by
  rw [hasS_split]
  obtain ⟨⟨y, e⟩, hx, rfl⟩ := hs
  obtain ⟨pre, post, rfl⟩ := List.append_of_mem hx
  exact ⟨pre, e, post, rfl, .inr ⟨hr (y, e) hx, fun z hz => hr z (List.mem_append_left _ hz)⟩⟩

/-! ### which block -/
/-- does a command want a block: to write it? -/
def lockOf (c : Cmd) (b : Nat) : Option Bool := if (b : Int) ∈ c.reads then some false else if (b : Int) ∈ c.writes then some true else none

abbrev Who := List (Int × Cmd)

def wantOf (x : Int × Cmd) (b : Nat) : Keys := match lockOf x.2 b with
  | none => []
  | some e => [(x.1, e)]

/-- who waits for a block. -/
def lineOf (w : Who) (b : Nat) : Keys := w.flatMap fun x => wantOf x b

theorem line_more (w : Who) (x : Int × Cmd) (b : Nat) : lineOf (w ++ [x]) b = lineOf w b ++ wantOf x b := by
  simp [lineOf, List.flatMap_append]

theorem line_less (w : Who) (s : Int) (b : Nat) : lineOf (w.filter fun x => decide (x.1 ≠ s)) b = (lineOf w b).filter fun x => decide (x.1 ≠ s) := by
  unfold lineOf
  induction w with
  | nil => rfl
  | cons x w ih =>
    by_cases h : x.1 = s
    · rw [List.filter_cons_of_neg (by simpa using h), ih, List.flatMap_cons, List.filter_append]
      have : (wantOf x b).filter (fun x => decide (x.1 ≠ s)) = [] := by
        unfold wantOf
        split
        · rfl
        · rw [List.filter_cons_of_neg (by simpa using h)]
          rfl
      rw [this, List.nil_append]
    · rw [List.filter_cons_of_pos (by simpa using h), List.flatMap_cons, List.flatMap_cons, ih, List.filter_append]
      have : (wantOf x b).filter (fun x => decide (x.1 ≠ s)) = wantOf x b := by
        unfold wantOf
        split
        · rfl
        · rw [List.filter_cons_of_pos (by simpa using h)]
          rfl
      rw [this]

theorem line_mem {w : Who} {b : Nat} {k : Int × Bool} (h : k ∈ lineOf w b) : ∃ x ∈ w, x.1 = k.1 ∧ lockOf x.2 b = some k.2 := by
  obtain ⟨x, hx, hk⟩ := List.mem_flatMap.1 h
  unfold wantOf at hk
  split at hk
  · simp at hk
  · next e he =>
    rw [List.mem_singleton] at hk
    exact ⟨x, hx, by rw [hk], by rw [he, hk]⟩
theorem mem_line {w : Who} {b : Nat} {x : Int × Cmd} {e : Bool} (hx : x ∈ w) (h : lockOf x.2 b = some e) : (x.1, e) ∈ lineOf w b := by
  refine List.mem_flatMap.2 ⟨x, hx, ?_⟩
  unfold wantOf
  rw [h]
  exact List.mem_singleton.2 rfl

theorem lock_some {c : Cmd} {b : Nat} (h : (b : Int) ∈ blocksN c) : ∃ e, lockOf c b = some e := by
  unfold lockOf
  split
  · exact ⟨_, rfl⟩
  · next hr =>
    have : (b : Int) ∈ c.writes := (List.mem_append.1 h).resolve_left hr
    rw [if_pos this]
    exact ⟨_, rfl⟩
theorem lock_none {c : Cmd} {b : Nat} (h : (b : Int) ∉ blocksN c) : lockOf c b = none := by
  unfold lockOf
  rw [if_neg (fun g => h (List.mem_append_left _ g)), if_neg (fun g => h (List.mem_append_right _ g))]
theorem lock_write {c : Cmd} (hc : setsN c) {b : Nat} (h : (b : Int) ∈ c.writes) : lockOf c b = some true := by
  unfold lockOf
  rw [if_neg (fun g => hc.2.2 _ g h), if_pos h]

/-- has it all of its blocks? -/
def readyN (w : Who) (s : Int) (c : Cmd) : Prop := ∀ b : Nat, (b : Int) ∈ blocksN c → hasS (grK (lineOf w b)) s = true

/-- the first one is ready. -/
theorem ready_first (w : Who) (s : Int) (c : Cmd) : readyN ((s, c) :: w) s c := fun b hb => by
  obtain ⟨e, he⟩ := lock_some hb
  rw [hasS_split]
  refine ⟨[], e, lineOf w b, ?_, .inl rfl⟩
  unfold lineOf
  rw [List.flatMap_cons]
  have : wantOf (s, c) b = [(s, e)] := by unfold wantOf; rw [he]
  rw [this]
  rfl

/-- who asks later takes nothing. -/
theorem ready_more (w : Who) (t s : Int) (d c : Cmd) (h : t ≠ s) : readyN (w ++ [(t, d)]) s c ↔ readyN w s c := by
  unfold readyN
  refine forall_congr' fun b => forall_congr' fun _ => ?_
  rw [line_more]
  unfold wantOf
  simp only
  cases lockOf d b with
  | none => rw [List.append_nil]
  | some e => rw [has_more _ _ _ _ h]

/-- who gives back takes nothing. -/
theorem ready_less {w : Who} {t s : Int} {c : Cmd} (h : s ≠ t) (hr : readyN w s c) : readyN (w.filter fun x => decide (x.1 ≠ t)) s c := fun b hb => by
  rw [line_less]
  exact has_less h (hr b hb)

/-- no two have a block that one of them writes. -/
theorem ready_apart {w : Who} {s t : Int} {c : Cmd} (hc : setsN c) (hw : ∀ x ∈ w, x.1 = s → x.2 = c) (h : s ≠ t) {b : Nat} (hb : (b : Int) ∈ c.writes) (h1 : hasS (grK (lineOf w b)) s = true) (h2 : hasS (grK (lineOf w b)) t = true) : False := by
  refine has_alone (fun k hk hks => ?_) h h1 h2
  obtain ⟨x, hx, e1, e2⟩ := line_mem hk
  rw [hw x hx (by rw [e1, hks]), lock_write hc hb] at e2
  exact (Option.some.inj e2).symm

/-- where nobody writes all are ready. -/
theorem ready_reads {w : Who} (hw : ∀ x ∈ w, x.2.writes = []) {x : Int × Cmd} (hx : x ∈ w) : readyN w x.1 x.2 := fun b hb => by
  obtain ⟨e, he⟩ := lock_some hb
  refine has_reads (fun k hk => ?_) ⟨_, mem_line hx he, rfl⟩
  obtain ⟨y, hy, -, e2⟩ := line_mem hk
  unfold lockOf at e2
  rw [hw y hy] at e2
  split at e2
  · exact (Option.some.inj e2).symm
  · simp at e2

/-- a command's own lines alone turn when it gives back. -/
theorem line_other {w : Who} {s : Int} {c : Cmd} (hw : ∀ x ∈ w, x.1 = s → x.2 = c) {b : Nat} (hb : (b : Int) ∉ blocksN c) : lineOf (w.filter fun x => decide (x.1 ≠ s)) b = lineOf w b := by
  rw [line_less]
  refine filter_apart fun k hk e => ?_
  obtain ⟨x, hx, e1, e2⟩ := line_mem hk
  rw [hw x hx (by rw [e1, e]), lock_none hb] at e2
  cases e2

end Go.Proofs.Ytldljohholgmoaa

/-
  Commands that are pending, on plain numbers: added, found, taken out; those that are ready; and a command run whole, commands one by one. No conditions but those that stand there.
-/
namespace Go.Proofs.Ytldljohholgmoaa

structure Tsk where
  seq : Int
  cmd : Cmd
  m : Mac
  own : Blks
  worker : Int

def addP (l : List Tsk) (c : Cmd) (s : Int) : List Tsk := l ++ [⟨s, c, newM c, [], -1⟩]
def findP (l : List Tsk) (s : Int) : Option Nat := l.findIdx? fun t => decide (t.seq = s)
def ofP (l : List Tsk) (w : Int) : Option Nat := l.findIdx? fun t => decide (0 ≤ w ∧ t.worker = w)
def withoutP (l : List Tsk) (i : Nat) : List Tsk := l.take i ++ l.drop (i + 1)
/-- who waits. -/
def whoP (l : List Tsk) : Who := l.map fun t => (t.seq, t.cmd)
def readyB (w : Who) (s : Int) (c : Cmd) : Bool := (blocksN c).all fun b => hasS (grK (lineOf w b.toNat)) s
def readiesP (l : List Tsk) (w : Who) : List Int := (l.filter fun t => decide (t.worker < 0) && readyB w t.seq t.cmd).map (·.seq)
def fuelP (l : List Tsk) : Int := (l.map (·.m.fuel)).sum

theorem blocks_nonneg {c : Cmd} (h : setsN c) {x : Int} (hx : x ∈ blocksN c) : 0 ≤ x := by
  rcases List.mem_append.1 hx with hx | hx
  · exact risesT_ge h.1 x hx
  · exact risesT_ge h.2.1 x hx

theorem readyB_iff {w : Who} {s : Int} {c : Cmd} (h : setsN c) : readyB w s c = true ↔ readyN w s c := by
  unfold readyB readyN
  rw [List.all_eq_true]
  constructor
  · intro q b hb
    have := q _ hb
    rwa [Int.toNat_natCast] at this
  · intro q x hx
    obtain ⟨b, rfl⟩ := Int.eq_ofNat_of_zero_le (blocks_nonneg h hx)
    rw [Int.toNat_natCast]
    exact q b hx

theorem whoP_add (l : List Tsk) (c : Cmd) (s : Int) : whoP (addP l c s) = whoP l ++ [(s, c)] := by simp [whoP, addP]
theorem whoP_set {l : List Tsk} {i : Nat} {t u : Tsk} (h : l[i]? = some t) (h1 : u.seq = t.seq) (h2 : u.cmd = t.cmd) : whoP (l.set i u) = whoP l := by
  unfold whoP
  apply List.ext_getElem?
  intro j
  rw [List.getElem?_map, List.getElem?_map]
  by_cases e : i = j
  · subst e
    have hi : i < l.length := (List.getElem?_eq_some_iff.1 h).1
    rw [List.getElem?_set_self hi, h]
    simp [h1, h2]
  · rw [List.getElem?_set_ne e]

/-- numbers rise. -/
def risesW (w : Who) : Prop := w.Pairwise fun a b => a.1 < b.1

theorem rises_one {w : Who} (h : risesW w) {x y : Int × Cmd} (hx : x ∈ w) (hy : y ∈ w) (e : x.1 = y.1) : x = y := by
  unfold risesW at h
  induction w with
  | nil => simp at hx
  | cons z w ih =>
    rw [List.pairwise_cons] at h
    rcases List.mem_cons.1 hx with hx | hx <;> rcases List.mem_cons.1 hy with hy | hy
    · rw [hx, hy]
    · have := h.1 y hy
      rw [hx] at e
      omega
    · have := h.1 x hx
      rw [hy] at e
      omega
    · exact ih h.2 hx hy

/-- without one: all but its number. -/
theorem whoP_without {l : List Tsk} (h : risesW (whoP l)) {i : Nat} {t : Tsk} (ht : l[i]? = some t) : whoP (withoutP l i) = (whoP l).filter fun x => decide (x.1 ≠ t.seq) := by
  obtain ⟨hi, hit⟩ := List.getElem?_eq_some_iff.1 ht
  have hs : l = l.take i ++ t :: l.drop (i + 1) := by
    conv => lhs; rw [← List.take_append_drop i l, List.drop_eq_getElem_cons hi, hit]
  have hw : whoP l = whoP (l.take i) ++ (t.seq, t.cmd) :: whoP (l.drop (i + 1)) := by
    conv => lhs; rw [hs]
    simp [whoP]
  have hr := h
  unfold risesW at hr
  rw [hw, List.pairwise_append, List.pairwise_cons] at hr
  obtain ⟨-, ⟨h2, -⟩, h3⟩ := hr
  have f1 : (whoP (l.take i)).filter (fun x => decide (x.1 ≠ t.seq)) = whoP (l.take i) := by
    rw [List.filter_eq_self]
    intro x hx
    have := h3 x hx (t.seq, t.cmd) (List.mem_cons_self ..)
    simp only at this
    simp
    omega
  have f2 : (whoP (l.drop (i + 1))).filter (fun x => decide (x.1 ≠ t.seq)) = whoP (l.drop (i + 1)) := by
    rw [List.filter_eq_self]
    intro x hx
    have := h2 x hx
    simp only at this
    simp
    omega
  rw [hw, List.filter_append, List.filter_cons_of_neg (by simp), f1, f2]
  simp [whoP, withoutP]

theorem whoP_mem {l : List Tsk} {t : Tsk} (h : t ∈ l) : (t.seq, t.cmd) ∈ whoP l := List.mem_map.2 ⟨t, h, rfl⟩

/-! ### whole commands, one by one -/
def cmd0 : Cmd := ⟨[], [], [], 0, []⟩
def cmAt (cs : List Cmd) (k : Nat) : Cmd := cs[k]?.getD cmd0

theorem cmAt_lt {cs : List Cmd} {k : Nat} (h : k < cs.length) : cmAt cs k = cs[k] := by simp [cmAt, h]
theorem cmAt_mem {cs : List Cmd} {k : Nat} (h : k < cs.length) : cmAt cs k ∈ cs := by
  rw [cmAt_lt h]
  exact List.getElem_mem _

def wholeM (c : Cmd) (own : Blks) : Mac × Blks := stepsM c (c.fuel.toNat + 1) (newM c, own)

/-- blocks behind so many commands. -/
def serT (cs : List Cmd) (b0 : List Ent) : Nat → List Ent
  | 0 => b0
  | k + 1 => applyT (serT cs b0 k) (cmAt cs k) ((k : Int) + 1) (wholeM (cmAt cs k) (loadT (serT cs b0 k) (cmAt cs k)))

structure Rst where
  seq : Int
  told : Nat
  out : List Int

/-- what a command tells, one by one. -/
def resT (cs : List Cmd) (b0 : List Ent) (k : Nat) : Rst :=
  ⟨(k : Int) + 1, (wholeM (cmAt cs k) (loadT (serT cs b0 k) (cmAt cs k))).1.told, (wholeM (cmAt cs k) (loadT (serT cs b0 k) (cmAt cs k))).1.out⟩

theorem ser_length (cs : List Cmd) (b0 : List Ent) : ∀ k, (serT cs b0 k).length = b0.length
  | 0 => rfl
  | k + 1 => by rw [serT, apply_length, ser_length cs b0 k]

/-- blocks of eight numbers each. -/
def goodT (l : List Ent) : Prop := ∀ e ∈ l, e.cells.length = 8

theorem load_good {l : List Ent} {c : Cmd} (h : goodT l) (hs : setsN c) (hf : fitsT c l.length) : ∀ b ∈ loadT l c, b.length = 8 := by
  intro b hb
  obtain ⟨x, hx, rfl⟩ := List.mem_map.1 hb
  have h0 := blocks_nonneg hs hx
  have hl : x < l.length := by
    rcases List.mem_append.1 hx with hx | hx
    · exact hf.1 x hx
    · exact hf.2 x hx
  rw [List.getElem?_eq_getElem (show x.toNat < l.length by omega)]
  exact h _ (List.getElem_mem _)

theorem store_good {l : List Ent} {c : Cmd} {own : Blks} {s : Int} (h : goodT l) (h8 : ∀ b ∈ own, b.length = 8) (hn : own.length = c.reads.length + c.writes.length) : goodT (storeT l c own s) := by
  have key : ∀ i, i ≤ c.writes.length → goodT (stT l c own s i) := by
    intro i
    induction i with
    | zero => exact fun _ => h
    | succ i ih =>
      intro hi e he
      rw [stT] at he
      rcases List.mem_or_eq_of_mem_set he with he | rfl
      · exact ih (by omega) e he
      · show (own[c.reads.length + i]?.getD []).length = 8
        rw [List.getElem?_eq_getElem (by omega)]
        exact h8 _ (List.getElem_mem _)
  exact key _ (Nat.le_refl _)

/-- a whole command: over, with blocks as many as its own. -/
theorem whole_is {c : Cmd} {own : Blks} (hm : MayBe c) (hn : own.length = c.reads.length + c.writes.length) (h8 : ∀ b ∈ own, b.length = 8) :
    (wholeM c own).1.over = true ∧ (∀ b ∈ (wholeM c own).2, b.length = 8) ∧ (wholeM c own).2.length = c.reads.length + c.writes.length := by
  obtain ⟨d, hd⟩ := hm.depths
  obtain ⟨-, -, -, -, f5, f6⟩ := hm.few
  have h0 := new_ok hm hd hn h8
  obtain ⟨n, hn1, he⟩ := ends hm hd c.fuel.toNat (newM c, own) h0 (by show c.fuel = _; omega)
  have hk := steps_ok hm hd (r := (newM c, own)) h0 (c.fuel.toNat + 1)
  refine ⟨?_, hk.cells, hk.many⟩
  obtain ⟨j, hj⟩ := Nat.exists_eq_add_of_le hn1
  unfold wholeM
  rw [hj, steps_add, steps_over he.over]
  exact he.over

/-- over behind so many steps: as behind all. -/
theorem whole_over {c : Cmd} {own : Blks} (hm : MayBe c) (hn : own.length = c.reads.length + c.writes.length) (h8 : ∀ b ∈ own, b.length = 8) {k : Nat} (h : (stepsM c k (newM c, own)).1.over = true) : stepsM c k (newM c, own) = wholeM c own :=
  over_same h (whole_is hm hn h8).1

theorem ser_good {cs : List Cmd} {b0 : List Ent} (hcs : ∀ c ∈ cs, MayBe c ∧ fitsT c b0.length) (h : goodT b0) : ∀ k, k ≤ cs.length → goodT (serT cs b0 k)
  | 0, _ => h
  | k + 1, hk => by
    have ih := ser_good hcs h k (by omega)
    obtain ⟨hm, hf⟩ := hcs _ (cmAt_mem (show k < cs.length by omega))
    rw [← ser_length cs b0 k] at hf
    obtain ⟨-, w2, w3⟩ := whole_is hm (load_length (l := serT cs b0 k)) (load_good ih hm.sets hf)
    rw [serT, applyT]
    split
    · exact store_good ih w2 w3
    · exact ih

/-- a block that nobody of those between writes. -/
theorem ser_other {cs : List Cmd} {b0 : List Ent} (hcs : ∀ c ∈ cs, MayBe c ∧ fitsT c b0.length) {b i : Nat} : ∀ j, i ≤ j → j ≤ cs.length → (∀ k, i ≤ k → k < j → (b : Int) ∉ (cmAt cs k).writes) → (serT cs b0 j)[b]? = (serT cs b0 i)[b]?
  | j, hij, hj, h => by
    by_cases e : i = j
    · rw [e]
    · obtain ⟨k, rfl⟩ : ∃ k, j = k + 1 := ⟨j - 1, by omega⟩
      rw [serT, applyT]
      have ih := ser_other hcs (b := b) (i := i) k (by omega) (by omega) (fun q h1 h2 => h q h1 (by omega))
      split
      · rw [store_other (hcs _ (cmAt_mem (show k < cs.length by omega))).1.sets (h k (by omega) (by omega))]
        exact ih
      · exact ih

end Go.Proofs.Ytldljohholgmoaa

/-
  Who waits for a block, on plain numbers: the first at which something holds; how many have the block; who is gone. No conditions but those that stand there.
-/
namespace Go.Proofs.Ytldljohholgmoaa

/-- the first place at which it holds; -1 if there is none. -/
def idxP {α : Type} (p : α → Bool) (l : List α) : Int := if l.findIdx p < l.length then ((l.findIdx p : Nat) : Int) else -1

theorem findIdx_at {α : Type} (p : α → Bool) : ∀ (l : List α) (i : Nat), i ≤ l.length → (∀ j x, j < i → l[j]? = some x → p x = false) → (∀ x, l[i]? = some x → p x = true) → l.findIdx p = i
  | [], i, hi, _, _ => by simp at hi; simp [hi]
  | y :: l, 0, _, _, h => by
    have := h y rfl
    simp [List.findIdx_cons, this]
  | y :: l, i + 1, hi, h1, h2 => by
    have hy := h1 0 y (by omega) rfl
    have ih := findIdx_at p l i (by simpa using hi) (fun j x hj hx => h1 (j + 1) x (by omega) (by simpa using hx)) (fun x hx => h2 x (by simpa using hx))
    simp [List.findIdx_cons, hy, ih]

theorem idxP_at {α : Type} {p : α → Bool} {l : List α} {i : Nat} {x : α} (hx : l[i]? = some x) (hp : p x = true) (h : ∀ j y, j < i → l[j]? = some y → p y = false) : idxP p l = (i : Int) := by
  have hi : i < l.length := by
    rcases Nat.lt_or_ge i l.length with h | h
    · exact h
    · rw [List.getElem?_eq_none h] at hx; cases hx
  have := findIdx_at p l i (by omega) h (fun y hy => by rw [hx] at hy; injection hy with hy; rw [← hy]; exact hp)
  unfold idxP
  rw [this, if_pos hi]

theorem idxP_none {α : Type} {p : α → Bool} {l : List α} (h : ∀ j y, j < l.length → l[j]? = some y → p y = false) : idxP p l = -1 := by
  have := findIdx_at p l l.length (Nat.le_refl _) h (fun y hy => by rw [List.getElem?_eq_none (Nat.le_refl _)] at hy; cases hy)
  unfold idxP
  rw [this, if_neg (by omega)]

theorem idxP_is {α : Type} (p : α → Bool) (l : List α) : (idxP p l = -1 ∧ ∀ x ∈ l, p x = false) ∨ ∃ i x, idxP p l = ((i : Nat) : Int) ∧ i < l.length ∧ l[i]? = some x ∧ p x = true ∧ ∀ j y, j < i → l[j]? = some y → p y = false := by
  induction l with
  | nil => exact .inl ⟨rfl, by simp⟩
  | cons y l ih =>
    cases hy : p y with
    | true => exact .inr ⟨0, y, idxP_at (i := 0) rfl hy (by omega), by simp, rfl, hy, by omega⟩
    | false =>
      rcases ih with ⟨-, h⟩ | ⟨i, x, -, h2, h3, h4, h5⟩
      · have ha : ∀ x ∈ y :: l, p x = false := fun x hx => by
          rcases List.mem_cons.1 hx with rfl | hx
          · exact hy
          · exact h x hx
        exact .inl ⟨idxP_none fun j z _ hz => ha z (List.mem_of_getElem? hz), ha⟩
      · have h5' : ∀ j z, j < i + 1 → (y :: l)[j]? = some z → p z = false := fun j z hj hz => by
          cases j with
          | zero => simp at hz; rw [← hz]; exact hy
          | succ j => exact h5 j z (by omega) (by simpa using hz)
        exact .inr ⟨i + 1, x, idxP_at (i := i + 1) (by simpa using h3) h4 h5', by simpa using h2, by simpa using h3, h4, h5'⟩

theorem idxP_any {α : Type} (p : α → Bool) (l : List α) : decide (0 ≤ idxP p l) = l.any p := by
  rcases idxP_is p l with ⟨h1, h2⟩ | ⟨i, x, h1, -, h3, h4, -⟩
  · rw [h1, List.any_eq_false.2 (fun x hx => by rw [h2 x hx]; decide)]
    rfl
  · rw [h1, List.any_eq_true.2 ⟨x, List.mem_of_getElem? h3, h4⟩]
    exact decide_eq_true (by omega)

/-- how many have it. -/
def havW (l : List Wnt) : Nat := if idxP Wnt.excl l < 0 then l.length else max (idxP Wnt.excl l).toNat 1

theorem havW_le (l : List Wnt) : havW l ≤ l.length := by
  unfold havW
  rcases idxP_is Wnt.excl l with ⟨h1, h2⟩ | ⟨i, x, h1, h2, -⟩
  · rw [h1, if_pos (by omega)]
    exact Nat.le_refl _
  · rw [h1, if_neg (by omega), Int.toNat_natCast]
    omega

theorem keyAt_keys {l : List Wnt} {i : Nat} {x : Wnt} (h : l[i]? = some x) : keyAt (keysN l) i = (x.seq, x.excl) := by
  unfold keyAt keysN
  rw [List.getElem?_map, h]
  rfl
theorem keys_length (l : List Wnt) : (keysN l).length = l.length := by simp [keysN]

theorem free_of {l : List Wnt} : ∀ {i : Nat}, i ≤ l.length → (∀ j y, j < i → l[j]? = some y → y.excl = false) → freeK (keysN l) i = true
  | 0, _, _ => rfl
  | i + 1, hi, h => by
    have hx : l[i]? = some l[i] := List.getElem?_eq_getElem (by omega)
    rw [free_succ (by rw [keys_length]; omega), free_of (i := i) (by omega) (fun j y hj hy => h j y (by omega) hy), keyAt_keys hx, h i _ (by omega) hx]
    rfl

/-- who has it: the first so many. -/
theorem hav_has {l : List Wnt} {i : Nat} (hi : i < l.length) : hasK (keysN l) i = decide (i < havW l) := by
  unfold havW
  have hi' : i < (keysN l).length := by rw [keys_length]; exact hi
  rcases idxP_is Wnt.excl l with ⟨h1, h2⟩ | ⟨k, x, h1, h2, h3, h4, h5⟩
  · rw [h1, if_pos (by omega)]
    unfold hasK
    rw [free_of (by omega) fun j y _ hy => h2 y (List.mem_of_getElem? hy), Bool.or_true]
    exact (decide_eq_true hi).symm
  · rw [h1, if_neg (by omega), Int.toNat_natCast]
    by_cases hik : i < k
    · unfold hasK
      rw [free_of (by omega) fun j y hj hy => h5 j y (by omega) hy, Bool.or_true]
      exact (decide_eq_true (by omega)).symm
    · by_cases h0 : i = 0
      · rw [h0, has_zero]
        exact (decide_eq_true (by omega)).symm
      · rw [has_one hi', decide_eq_false h0, Bool.false_or]
        have hf : (freeK (keysN l) i && !(keyAt (keysN l) i).2) = false := by
          by_cases he : i = k
          · subst he
            rw [keyAt_keys h3, h4]
            simp
          · cases hf : freeK (keysN l) i with
            | false => rfl
            | true =>
              have := free_le (show k + 1 ≤ i by omega) (by omega) hf
              rw [free_succ (by rw [keys_length]; omega), keyAt_keys h3, h4] at this
              simp at this
        rw [hf]
        exact (decide_eq_false (by omega)).symm

theorem hav_one {l : List Wnt} (h : 0 < l.length) : 0 < havW l := by
  have h1 := hav_has h
  rw [has_zero] at h1
  exact of_decide_eq_true h1.symm

/-- the first so many with Has as it is now, the others as they are. -/
def toldW (l : List Wnt) (i : Nat) : List Wnt := (grK (keysN l)).take i ++ l.drop i

theorem gr_length (l : List Wnt) : (grK (keysN l)).length = l.length := by rw [grK_length, keys_length]
theorem gr_at {l : List Wnt} {i : Nat} {x : Wnt} (hx : l[i]? = some x) : (grK (keysN l))[i]? = some ⟨x.seq, x.excl, decide (i < havW l)⟩ := by
  have hi : i < l.length := by
    rcases Nat.lt_or_ge i l.length with h | h
    · exact h
    · rw [List.getElem?_eq_none h] at hx; cases hx
  rw [grK_at (by rw [keys_length]; exact hi), keyAt_keys hx, hav_has hi]
theorem toldW_zero (l : List Wnt) : toldW l 0 = l := by simp [toldW]
theorem toldW_all (l : List Wnt) : toldW l l.length = grK (keysN l) := by
  unfold toldW
  rw [List.drop_length, List.append_nil, List.take_of_length_le (by rw [gr_length]; exact Nat.le_refl _)]
theorem toldW_length (l : List Wnt) (i : Nat) : (toldW l i).length = l.length := by
  unfold toldW
  rw [List.length_append, List.length_take, gr_length, List.length_drop]
  omega
theorem toldW_at {l : List Wnt} {i : Nat} {x : Wnt} (hx : l[i]? = some x) : (toldW l i)[i]? = some x := by
  have hi : i < l.length := by
    rcases Nat.lt_or_ge i l.length with h | h
    · exact h
    · rw [List.getElem?_eq_none h] at hx; cases hx
  unfold toldW
  have hl : ((grK (keysN l)).take i).length = i := by rw [List.length_take, gr_length]; omega
  rw [List.getElem?_append_right (by omega), hl, Nat.sub_self, List.getElem?_drop, Nat.add_zero, hx]
theorem toldW_succ {l : List Wnt} {i : Nat} {x : Wnt} (hx : l[i]? = some x) : (toldW l i).set i ⟨x.seq, x.excl, decide (i < havW l)⟩ = toldW l (i + 1) := by
  have hi : i < l.length := by
    rcases Nat.lt_or_ge i l.length with h | h
    · exact h
    · rw [List.getElem?_eq_none h] at hx; cases hx
  have hl : ((grK (keysN l)).take i).length = i := by rw [List.length_take, gr_length]; omega
  have hg := gr_at hx
  have hd : l.drop i = x :: l.drop (i + 1) := by
    rw [List.getElem?_eq_getElem hi] at hx
    injection hx with hx
    rw [← hx]
    exact List.drop_eq_getElem_cons hi
  unfold toldW
  rw [hd, List.set_append_right _ _ (by omega), hl, Nat.sub_self, List.set_cons_zero, List.take_add_one, hg, List.append_assoc]
  rfl

/-- one of that number has it, by the order alone. -/
def hasO (l : List Wnt) (s : Int) : Bool := (l.take (havW l)).any fun x => decide (x.seq = s)

theorem hasO_eq (l : List Wnt) (s : Int) : hasO l s = hasS (grK (keysN l)) s := by
  rw [Bool.eq_iff_iff, hasS_gr]
  unfold hasO
  rw [List.any_eq_true]
  constructor
  · rintro ⟨x, hx, hs⟩
    obtain ⟨i, hi⟩ := List.getElem?_of_mem hx
    have hlt : i < havW l := by
      rcases Nat.lt_or_ge i (havW l) with h | h
      · exact h
      · rw [List.getElem?_eq_none (by rw [List.length_take]; omega)] at hi; cases hi
    have hl := havW_le l
    rw [List.getElem?_take, if_pos hlt] at hi
    refine ⟨i, by rw [keys_length]; omega, ?_, ?_⟩
    · rw [keyAt_keys hi]
      exact of_decide_eq_true hs
    · rw [hav_has (by omega)]
      exact decide_eq_true hlt
  · rintro ⟨i, hi, hs, hh⟩
    rw [keys_length] at hi
    have hx : l[i]? = some l[i] := List.getElem?_eq_getElem hi
    rw [hav_has hi] at hh
    have hlt := of_decide_eq_true hh
    rw [keyAt_keys hx] at hs
    refine ⟨l[i], ?_, decide_eq_true hs⟩
    refine List.mem_of_getElem? (i := i) ?_
    rw [List.getElem?_take, if_pos hlt, hx]

theorem hasO_gr (K : Keys) (s : Int) : hasO (grK K) s = hasS (grK K) s := by rw [hasO_eq, keys_gr]

/-- without all of that number, before who has it is told. -/
def goneW (l : List Wnt) (s : Int) : List Wnt := l.filter fun x => decide (x.seq ≠ s)
theorem give_gone (l : List Wnt) (s : Int) : grK (keysN (goneW l s)) = giveN l s := by
  unfold giveN goneW keysN
  rw [List.filter_map]
  rfl
theorem ask_more (l : List Wnt) (s : Int) (e h : Bool) : grK (keysN (l ++ [⟨s, e, h⟩])) = askN l s e := by
  unfold askN keysN
  rw [List.map_append]
  rfl
theorem askN_length (l : List Wnt) (s : Int) (e : Bool) : (askN l s e).length = l.length + 1 := by unfold askN; rw [grK_length]; simp [keysN]
theorem giveN_length (l : List Wnt) (s : Int) : (giveN l s).length ≤ l.length := by
  unfold giveN
  rw [grK_length]
  exact Nat.le_trans (List.length_filter_le _ _) (by simp [keysN])

theorem askN_told (l : List Wnt) (s : Int) (e : Bool) : grK (keysN (l ++ [⟨s, e, false⟩])) = askN l s e := ask_more l s e false

end Go.Proofs.Ytldljohholgmoaa

/-
  Who waits for which block, as lists of lists: one asks for its blocks one by one, gives them back one by one; that this is what the order of asking says. No conditions but those that stand there.
-/
namespace Go.Proofs.Ytldljohholgmoaa

abbrev Lks := List (List Wnt)
def lkAt (L : Lks) (b : Nat) : List Wnt := L[b]?.getD []
/-- one turn at one block. -/
def turnL (f : List Wnt → List Wnt) (L : Lks) (b : Int) : Lks := L.set b.toNat (f (lkAt L b.toNat))
/-- the first so many of these blocks. -/
def turnsL (f : List Wnt → List Wnt) (bs : List Int) (L : Lks) : Nat → Lks
  | 0 => L
  | k + 1 => turnL f (turnsL f bs L k) (bs[k]?.getD 0)

theorem turns_length (f : List Wnt → List Wnt) (bs : List Int) (L : Lks) : ∀ k, (turnsL f bs L k).length = L.length
  | 0 => rfl
  | k + 1 => by rw [turnsL, turnL, List.length_set, turns_length f bs L k]

theorem rises_lt_get {bs : List Int} {z : Int} (h : risesN bs z) {i j : Nat} (hij : i < j) (hj : j < bs.length) : bs[i]?.getD 0 < bs[j]?.getD 0 := by
  have := risesT_lt h hij hj
  rw [List.getElem?_eq_getElem (by omega), List.getElem?_eq_getElem hj]
  exact this

/-- each of them once, in order: as if at once. -/
theorem turns_at (f : List Wnt → List Wnt) {bs : List Int} (L : Lks) {z : Int} (hr : risesN bs z) (hz : 0 ≤ z) : ∀ k, k ≤ bs.length → ∀ b : Nat, b < L.length → lkAt (turnsL f bs L k) b = if (b : Int) ∈ bs.take k then f (lkAt L b) else lkAt L b
  | 0, _, b, _ => by simp [turnsL]
  | k + 1, hk, b, hb => by
    have ih := turns_at f L hr hz k (by omega) 
    have hx : bs[k]? = some bs[k] := List.getElem?_eq_getElem (by omega)
    have h0 := risesT_ge hr bs[k] (List.getElem_mem _)
    rw [turnsL, turnL, hx, Option.getD_some]
    have hin : (b : Int) ∈ bs.take (k + 1) ↔ (b : Int) ∈ bs.take k ∨ (b : Int) = bs[k] := by
      rw [List.take_add_one, hx, List.mem_append]
      simp
    by_cases e : bs[k].toNat = b
    · have hb' : (b : Int) = bs[k] := by omega
      have hno : (b : Int) ∉ bs.take k := by
        intro hm
        obtain ⟨i, hi, he⟩ := List.getElem_of_mem hm
        rw [List.length_take] at hi
        rw [List.getElem_take] at he
        have := risesT_lt hr (show i < k by omega) (by omega)
        omega
      have h1 := ih b hb
      rw [if_neg hno] at h1
      rw [if_pos (hin.2 (.inr hb')), e]
      unfold lkAt at h1 ⊢
      rw [List.getElem?_set_self (by rw [turns_length]; exact hb), Option.getD_some, h1]
    · have hiff : ((b : Int) ∈ bs.take (k + 1)) = ((b : Int) ∈ bs.take k) := by
        rw [hin]
        apply propext
        constructor
        · rintro (h | h)
          · exact h
          · omega
        · exact Or.inl
      simp only [hiff]
      rw [← ih b hb]
      unfold lkAt
      rw [List.getElem?_set_ne e]

def asksL (L : Lks) (c : Cmd) (s : Int) : Lks := turnsL (fun l => askN l s true) c.writes (turnsL (fun l => askN l s false) c.reads L c.reads.length) c.writes.length
def givesL (L : Lks) (c : Cmd) (s : Int) : Lks := turnsL (fun l => giveN l s) c.writes (turnsL (fun l => giveN l s) c.reads L c.reads.length) c.writes.length
def readyL (L : Lks) (c : Cmd) (s : Int) : Bool := (blocksN c).all fun b => hasS (lkAt L b.toNat) s

theorem asks_length (L : Lks) (c : Cmd) (s : Int) : (asksL L c s).length = L.length := by unfold asksL; rw [turns_length, turns_length]
theorem gives_length (L : Lks) (c : Cmd) (s : Int) : (givesL L c s).length = L.length := by unfold givesL; rw [turns_length, turns_length]

theorem asks_at (L : Lks) {c : Cmd} (hc : setsN c) (s : Int) {b : Nat} (hb : b < L.length) : lkAt (asksL L c s) b = match lockOf c b with
    | none => lkAt L b
    | some e => askN (lkAt L b) s e := by
  unfold asksL
  rw [turns_at _ _ hc.2.1 (by omega) _ (Nat.le_refl _) b (by rw [turns_length]; exact hb), turns_at _ _ hc.1 (by omega) _ (Nat.le_refl _) b hb, List.take_length, List.take_length]
  unfold lockOf
  by_cases h1 : (b : Int) ∈ c.reads
  · have h2 := hc.2.2 _ h1
    simp [h1, h2]
  · by_cases h2 : (b : Int) ∈ c.writes <;> simp [h1, h2]

theorem gives_at (L : Lks) {c : Cmd} (hc : setsN c) (s : Int) {b : Nat} (hb : b < L.length) : lkAt (givesL L c s) b = match lockOf c b with
    | none => lkAt L b
    | some _ => giveN (lkAt L b) s := by
  unfold givesL
  rw [turns_at _ _ hc.2.1 (by omega) _ (Nat.le_refl _) b (by rw [turns_length]; exact hb), turns_at _ _ hc.1 (by omega) _ (Nat.le_refl _) b hb, List.take_length, List.take_length]
  unfold lockOf
  by_cases h1 : (b : Int) ∈ c.reads
  · have h2 := hc.2.2 _ h1
    simp [h1, h2]
  · by_cases h2 : (b : Int) ∈ c.writes <;> simp [h1, h2]

/-- who waits, as lists. -/
def lksW (w : Who) (n : Nat) : Lks := (List.range n).map fun b => grK (lineOf w b)
theorem lksW_length (w : Who) (n : Nat) : (lksW w n).length = n := by simp [lksW]
theorem lksW_at (w : Who) {n b : Nat} (h : b < n) : lkAt (lksW w n) b = grK (lineOf w b) := by simp [lkAt, lksW, h]
theorem lks_ext {L M : Lks} (hl : L.length = M.length) (h : ∀ b, b < L.length → lkAt L b = lkAt M b) : L = M := by
  apply List.ext_getElem hl
  intro b h1 h2
  have := h b h1
  unfold lkAt at this
  rwa [List.getElem?_eq_getElem h1, List.getElem?_eq_getElem h2, Option.getD_some, Option.getD_some] at this

theorem lks_nil (n : Nat) : lksW [] n = List.replicate n [] := by
  apply List.ext_getElem?
  intro i
  by_cases h : i < n
  · simp [lksW, h, lineOf, gr_nil]
  · simp [lksW, h]

theorem asks_W (w : Who) (n : Nat) {c : Cmd} (hc : setsN c) (s : Int) : asksL (lksW w n) c s = lksW (w ++ [(s, c)]) n := by
  refine lks_ext (by rw [asks_length, lksW_length, lksW_length]) fun b hb => ?_
  rw [asks_length, lksW_length] at hb
  rw [asks_at _ hc s (by rw [lksW_length]; exact hb), lksW_at _ hb, lksW_at _ hb, line_more]
  unfold wantOf
  simp only
  cases lockOf c b with
  | none => rw [List.append_nil]
  | some e =>
    simp only
    rw [ask_gr]

theorem gives_W {w : Who} (n : Nat) {c : Cmd} (hc : setsN c) {s : Int} (hw : ∀ x ∈ w, x.1 = s → x.2 = c) : givesL (lksW w n) c s = lksW (w.filter fun x => decide (x.1 ≠ s)) n := by
  refine lks_ext (by rw [gives_length, lksW_length, lksW_length]) fun b hb => ?_
  rw [gives_length, lksW_length] at hb
  rw [gives_at _ hc s (by rw [lksW_length]; exact hb), lksW_at _ hb, lksW_at _ hb]
  by_cases hm : (b : Int) ∈ blocksN c
  · obtain ⟨e, he⟩ := lock_some hm
    rw [he]
    simp only
    rw [give_gr, line_less]
  · rw [lock_none hm]
    simp only
    rw [line_other hw hm]

theorem nonneg_of {c : Cmd} (h : setsN c) {x : Int} (hx : x ∈ blocksN c) : 0 ≤ x := by
  rcases List.mem_append.1 hx with hx | hx
  · exact risesT_ge h.1 x hx
  · exact risesT_ge h.2.1 x hx

theorem ready_W (w : Who) {n : Nat} {c : Cmd} (hc : setsN c) (hf : fitsT c n) (s : Int) : readyL (lksW w n) c s = true ↔ readyN w s c := by
  unfold readyL readyN
  rw [List.all_eq_true]
  have hlt : ∀ x ∈ blocksN c, x < n := fun x hx => by
    rcases List.mem_append.1 hx with hx | hx
    · exact hf.1 x hx
    · exact hf.2 x hx
  constructor
  · intro q b hb
    have := q _ hb
    have hn := hlt _ hb
    rwa [Int.toNat_natCast, lksW_at _ (by omega)] at this
  · intro q x hx
    obtain ⟨b, rfl⟩ := Int.eq_ofNat_of_zero_le (nonneg_of hc hx)
    have hn := hlt _ hx
    rw [Int.toNat_natCast, lksW_at _ (by omega)]
    exact q b hx

/-- who asks and gives back at once: all as it was. -/
theorem give_asked {w : Who} (n : Nat) {c : Cmd} (hc : setsN c) {s : Int} (hs : ∀ x ∈ w, x.1 ≠ s) : givesL (asksL (lksW w n) c s) c s = lksW w n := by
  rw [asks_W w n hc s, gives_W n hc (fun x hx e => by
    rcases List.mem_append.1 hx with hx | hx
    · exact absurd e (hs x hx)
    · rw [List.mem_singleton.1 hx])]
  congr 1
  rw [List.filter_append, List.filter_cons_of_neg (by simp), List.filter_nil, List.append_nil, List.filter_eq_self]
  intro x hx
  simpa using hs x hx

end Go.Proofs.Ytldljohholgmoaa

/-
  Small plain lemmas of layer 7: kinds by cases, lists from a place on, emits one by one. No conditions but those that stand there.
-/
namespace Go.Proofs.Ytldljohholgmoaa

theorem op_cases (op : Int) : op < 1 ∨ 17 < op ∨ op = 1 ∨ op = 2 ∨ op = 3 ∨ op = 4 ∨ op = 5 ∨ op = 6 ∨ op = 7 ∨ op = 8 ∨ op = 9 ∨ op = 10 ∨ op = 11 ∨ op = 12 ∨ op = 13 ∨ op = 14 ∨ op = 15 ∨ op = 16 ∨ op = 17 := by omega

theorem offN_low {op : Int} (h : op < 1) : offN op = 0 := by unfold offN; rw [if_neg (by omega), if_neg (by omega)]
theorem offN_high {op : Int} (h : 17 < op) : offN op = 0 := by unfold offN; rw [if_neg (by omega), if_neg (by omega)]
theorem onN_low {op : Int} (h : op < 1) : onN op = 0 := by unfold onN; rw [if_neg (by omega), if_neg (by omega)]
theorem onN_high {op : Int} (h : 17 < op) : onN op = 0 := by unfold onN; rw [if_neg (by omega), if_neg (by omega)]

theorem drop_cons {l : List Int} {k : Nat} (h : k < l.length) : l.drop k = (l[k]?.getD 0) :: l.drop (k + 1) := by
  rw [List.drop_eq_getElem_cons h]
  simp [h]

theorem drop_consI {l : List Int} {k : Nat} (h : k < l.length) : l.drop k = (l[k]?.getD 0) :: l.drop (k + 1) := by
  rw [List.drop_eq_getElem_cons h]
  simp [h]

theorem emitsN_step (l : List Ins) (i : Nat) (h : i < l.length) : emitsN (l.take (i + 1)) = emitsN (l.take i) + if (insAt l i).op = 15 then 1 else 0 := by
  rw [List.take_add_one, List.getElem?_eq_getElem h]
  simp only [Option.toList_some, emitsN, List.filter_append, List.length_append, insAt, List.getElem?_eq_getElem h, Option.getD_some]
  by_cases e : (l[i]'h).op = 15 <;> simp [e]
theorem emitsN_take_le (l : List Ins) (i : Nat) : emitsN (l.take i) ≤ l.length :=
  Nat.le_trans (List.length_filter_le _ _) (by rw [List.length_take]; omega)

theorem ways_end (x : Ins) (h : x.op = 16 ∨ x.op = 17) : waysN x = [] := by rw [waysN, if_pos h]
theorem ways_go (x : Ins) (h : x.op = 14) : waysN x = [x.a] := by rw [waysN, if_neg (by omega), if_pos h]
theorem ways_skip (x : Ins) (h : x.op = 13) : waysN x = [0, x.a] := by rw [waysN, if_neg (by omega), if_neg (by omega), if_pos h]
theorem ways_else (x : Ins) (h : x.op ≠ 13 ∧ x.op ≠ 14 ∧ x.op ≠ 16 ∧ x.op ≠ 17) : waysN x = [0] := by rw [waysN, if_neg (by omega), if_neg (by omega), if_neg (by omega)]

theorem wayCases (op : Int) : op = 16 ∨ op = 17 ∨ op = 14 ∨ op = 13 ∨ (op ≠ 13 ∧ op ≠ 14 ∧ op ≠ 16 ∧ op ≠ 17) := by omega

def boundsL (nr nw na : Nat) (x : Ins) : Prop :=
  (x.op = 2 ∨ x.op = 3 → 0 ≤ x.a ∧ x.a < 4) ∧
  (x.op = 4 → 0 ≤ x.a ∧ x.a < (nr : Int) + nw ∧ 0 ≤ x.b ∧ x.b < 8) ∧
  (x.op = 5 → (nr : Int) ≤ x.a ∧ x.a < (nr : Int) + nw ∧ 0 ≤ x.b ∧ x.b < 8) ∧
  (x.op = 6 → 0 ≤ x.a ∧ x.a < (na : Int))
instance (nr nw na : Nat) (x : Ins) : Decidable (boundsL nr nw na x) := inferInstanceAs (Decidable (_ ∧ _))

end Go.Proofs.Ytldljohholgmoaa
