/-
  A text's tokens, on plain bytes: one byte at a time. No conditions but those that stand there.
-/
import Derived.Test.YtgoamkneenmbgaaStr
namespace Go.Proofs.Ytgoamkneenmbgaa

structure Tok where
  kind : Nat
  word : List Nat
  n : Int

/-- between tokens, in a note, in a word, behind a minus, in a number, gone wrong. -/
inductive TS where
  | gap
  | note
  | word (w : List Nat)
  | minus
  | num (neg : Bool) (n : Nat)
  | err

def signed (neg : Bool) (n : Nat) : Int := if neg = true then -(n : Int) else (n : Int)
def isLetter (c : Nat) : Prop := 97 ≤ c ∧ c ≤ 122
def isDigit (c : Nat) : Prop := 48 ≤ c ∧ c ≤ 57
def isBlank (c : Nat) : Prop := c = 32 ∨ c = 10 ∨ c = 9
instance (c : Nat) : Decidable (isLetter c) := inferInstanceAs (Decidable (_ ∧ _))
instance (c : Nat) : Decidable (isDigit c) := inferInstanceAs (Decidable (_ ∧ _))
instance (c : Nat) : Decidable (isBlank c) := inferInstanceAs (Decidable (_ ∨ _))

def gapS (out : List Tok) (c : Nat) : List Tok × TS :=
  if isBlank c then (out, .gap)
  else if c = 35 then (out, .note)
  else if isLetter c then (out, .word [c])
  else if isDigit c then (out, .num false (c - 48))
  else if c = 45 then (out, .minus)
  else (out, .err)

def stepS : List Tok × TS → Nat → List Tok × TS
  | (out, .gap), c => gapS out c
  | (out, .note), c => if c = 10 then (out, .gap) else (out, .note)
  | (out, .word w), c => if isLetter c then (out, .word (w ++ [c])) else if c = 58 then (out ++ [⟨3, w, 0⟩], .gap) else gapS (out ++ [⟨1, w, 0⟩]) c
  | (out, .minus), c => if isDigit c then (out, .num true (c - 48)) else (out, .err)
  | (out, .num neg n), c => if isDigit c then (if 1099511627776 < 10 * n + (c - 48) then (out, .err) else (out, .num neg (10 * n + (c - 48)))) else gapS (out ++ [⟨2, [], signed neg n⟩]) c
  | (out, .err), _ => (out, .err)

def finS : List Tok × TS → Option (List Tok)
  | (out, .gap) => some out
  | (out, .note) => some out
  | (out, .word w) => some (out ++ [⟨1, w, 0⟩])
  | (_, .minus) => none
  | (out, .num neg n) => some (out ++ [⟨2, [], signed neg n⟩])
  | (_, .err) => none

def foldS (x : List Tok × TS) (l : List Nat) : List Tok × TS := l.foldl stepS x
def splitN (l : List Nat) : Option (List Tok) := finS (foldS ([], .gap) l)

theorem foldS_nil (x : List Tok × TS) : foldS x [] = x := rfl
theorem foldS_cons (x : List Tok × TS) (c : Nat) (l : List Nat) : foldS x (c :: l) = foldS (stepS x c) l := rfl
theorem foldS_append (x : List Tok × TS) (l m : List Nat) : foldS x (l ++ m) = foldS (foldS x l) m := List.foldl_append

/-! ### what is out stays out -/
def preS (p : List Tok) (x : List Tok × TS) : List Tok × TS := (p ++ x.1, x.2)

theorem gapS_pre (p out : List Tok) (c : Nat) : gapS (p ++ out) c = preS p (gapS out c) := by
  unfold gapS preS
  repeat' split
  all_goals rfl

theorem stepS_pre (p : List Tok) (x : List Tok × TS) (c : Nat) : stepS (preS p x) c = preS p (stepS x c) := by
  obtain ⟨out, st⟩ := x
  cases st with
  | gap => exact gapS_pre p out c
  | note => show (if c = 10 then _ else _) = preS p (if c = 10 then _ else _); split <;> rfl
  | word w =>
    show (if isLetter c then _ else if c = 58 then _ else gapS (p ++ out ++ [⟨1, w, 0⟩]) c) = preS p (if isLetter c then _ else if c = 58 then _ else gapS (out ++ [⟨1, w, 0⟩]) c)
    have e := gapS_pre p (out ++ [(⟨1, w, 0⟩ : Tok)]) c
    rw [← List.append_assoc] at e
    rw [e]
    repeat' split
    all_goals simp [preS]
  | minus => show (if isDigit c then _ else _) = preS p (if isDigit c then _ else _); split <;> rfl
  | num neg n =>
    show (if isDigit c then (if _ then _ else _) else gapS (p ++ out ++ [⟨2, [], signed neg n⟩]) c) = preS p (if isDigit c then (if _ then _ else _) else gapS (out ++ [⟨2, [], signed neg n⟩]) c)
    have e := gapS_pre p (out ++ [(⟨2, [], signed neg n⟩ : Tok)]) c
    rw [← List.append_assoc] at e
    rw [e]
    repeat' split
    all_goals simp [preS]
  | err => rfl

theorem foldS_pre (p : List Tok) : ∀ (l : List Nat) (x : List Tok × TS), foldS (preS p x) l = preS p (foldS x l)
  | [], _ => rfl
  | c :: l, x => by rw [foldS_cons, foldS_cons, stepS_pre, foldS_pre p l]

theorem finS_pre (p : List Tok) (x : List Tok × TS) : finS (preS p x) = (finS x).map (p ++ ·) := by
  obtain ⟨out, st⟩ := x
  cases st <;> simp [finS, preS]

theorem fold_from (out : List Tok) (l : List Nat) : finS (foldS (out, .gap) l) = (splitN l).map (out ++ ·) := by
  have h := foldS_pre out l ([], .gap)
  rw [show preS out ([], TS.gap) = (out, .gap) by simp [preS]] at h
  rw [h, finS_pre]
  rfl

theorem fold_err : ∀ (l : List Nat) (out : List Tok), foldS (out, .err) l = (out, .err)
  | [], _ => rfl
  | _ :: l, out => by rw [foldS_cons]; exact fold_err l out

/-! ### blanks and notes -/
theorem gapS_blank (out : List Tok) {b : Nat} (hb : isBlank b) : gapS out b = (out, .gap) := by rw [gapS, if_pos hb]

theorem blank_other {b : Nat} (hb : isBlank b) : ¬ isLetter b ∧ ¬ isDigit b ∧ b ≠ 58 := by
  unfold isBlank at hb
  unfold isLetter isDigit
  omega

theorem step_blank {x : List Tok × TS} {o : List Tok} {b : Nat} (hf : finS x = some o) (hn : x.2 ≠ .note) (hb : isBlank b) : stepS x b = (o, .gap) := by
  obtain ⟨h1, h2, h3⟩ := blank_other hb
  obtain ⟨out, st⟩ := x
  cases st with
  | gap => injection hf with hf; subst hf; exact gapS_blank _ hb
  | note => exact absurd rfl hn
  | word w => injection hf with hf; subst hf; rw [stepS, if_neg h1, if_neg h3, gapS_blank _ hb]
  | minus => cases hf
  | num neg n => injection hf with hf; subst hf; rw [stepS, if_neg h2, gapS_blank _ hb]
  | err => cases hf

theorem step_blank_no {x : List Tok × TS} {b : Nat} (hf : finS x = none) (hb : isBlank b) : ∃ o, stepS x b = (o, .err) := by
  obtain ⟨h1, h2, h3⟩ := blank_other hb
  obtain ⟨out, st⟩ := x
  cases st with
  | minus => exact ⟨out, by rw [stepS, if_neg h2]⟩
  | err => exact ⟨out, rfl⟩
  | _ => cases hf

theorem gapS_note {out : List Tok} {c : Nat} (hc : c ≠ 35) : (gapS out c).2 ≠ .note := by
  unfold gapS
  rw [if_neg (show ¬ c = 35 from hc)]
  repeat' split
  all_goals simp

theorem step_note {x : List Tok × TS} {c : Nat} (hn : x.2 ≠ .note) (hc : c ≠ 35) : (stepS x c).2 ≠ .note := by
  obtain ⟨out, st⟩ := x
  cases st with
  | gap => exact gapS_note hc
  | note => exact absurd rfl hn
  | word w =>
    rw [stepS]
    split
    · simp
    · split
      · simp
      · exact gapS_note hc
  | minus => rw [stepS]; split <;> simp
  | num neg n =>
    rw [stepS]
    split
    · split <;> simp
    · exact gapS_note hc
  | err => simp [stepS]

theorem fold_note : ∀ (l : List Nat) (x : List Tok × TS), x.2 ≠ .note → 35 ∉ l → (foldS x l).2 ≠ .note
  | [], _, h, _ => h
  | c :: l, x, h, hl => by
    rw [foldS_cons]
    exact fold_note l _ (step_note h (fun e => hl (by simp [e]))) (fun e => hl (by simp [e]))

/-- two texts with a blank between. -/
theorem split_join (s t : List Nat) (b : Nat) (hb : isBlank b) (hs : 35 ∉ s) : splitN (s ++ b :: t) = (splitN s).bind fun a => (splitN t).map (a ++ ·) := by
  have hn : (foldS ([], .gap) s).2 ≠ .note := fold_note s _ (by simp) hs
  rw [splitN, foldS_append, foldS_cons]
  cases hf : splitN s with
  | some o => rw [step_blank hf hn hb, fold_from]; rfl
  | none =>
    obtain ⟨o, ho⟩ := step_blank_no hf hb
    rw [ho, fold_err]
    rfl

theorem fold_in_note (out : List Tok) : ∀ (l : List Nat), 10 ∉ l → foldS (out, .note) l = (out, .note)
  | [], _ => rfl
  | c :: l, h => by
    have hc : c ≠ 10 := fun e => h (by simp [e])
    rw [foldS_cons, show stepS (out, .note) c = (out, .note) by rw [stepS, if_neg hc]]
    exact fold_in_note out l (fun e => h (by simp [e]))

/-- a note between two texts. -/
theorem split_noted (s t note : List Nat) (hs : 35 ∉ s) (hn : 10 ∉ note) : splitN (s ++ 32 :: 35 :: (note ++ 10 :: t)) = (splitN s).bind fun a => (splitN t).map (a ++ ·) := by
  rw [split_join s _ 32 (.inl rfl) hs]
  have h : splitN (35 :: (note ++ 10 :: t)) = splitN t := by
    rw [splitN, foldS_cons, show stepS (([], .gap) : List Tok × TS) 35 = ([], .note) from rfl, foldS_append, fold_in_note _ _ hn, foldS_cons]
    rfl
  rw [h]

/-! ### kinds -/
def okTok (t : Tok) : Prop := (t.kind = 2 ∧ t.word = [] ∧ -1099511627776 ≤ t.n ∧ t.n ≤ 1099511627776) ∨ ((t.kind = 1 ∨ t.kind = 3) ∧ t.word ≠ [] ∧ (∀ c ∈ t.word, isLetter c) ∧ t.n = 0)

def okTS : TS → Prop
  | .word w => w ≠ [] ∧ ∀ c ∈ w, isLetter c
  | .num _ n => n ≤ 1099511627776
  | _ => True

def okS (x : List Tok × TS) : Prop := (∀ t ∈ x.1, okTok t) ∧ okTS x.2

theorem okTok_word {w : List Nat} (h : w ≠ [] ∧ ∀ c ∈ w, isLetter c) : okTok ⟨1, w, 0⟩ := .inr ⟨.inl rfl, h.1, h.2, rfl⟩
theorem okTok_label {w : List Nat} (h : w ≠ [] ∧ ∀ c ∈ w, isLetter c) : okTok ⟨3, w, 0⟩ := .inr ⟨.inr rfl, h.1, h.2, rfl⟩
theorem okTok_num {neg : Bool} {n : Nat} (h : n ≤ 1099511627776) : okTok ⟨2, [], signed neg n⟩ := by
  refine .inl ⟨rfl, rfl, ?_⟩
  unfold signed
  split <;> simp only <;> omega

theorem ok_snoc {out : List Tok} {t : Tok} (h : ∀ t ∈ out, okTok t) (ht : okTok t) : ∀ u ∈ out ++ [t], okTok u := by
  intro u hu
  rcases List.mem_append.1 hu with hu | hu
  · exact h u hu
  · rw [List.mem_singleton.1 hu]; exact ht

theorem ok_gapS {out : List Tok} (h : ∀ t ∈ out, okTok t) (c : Nat) : okS (gapS out c) := by
  unfold gapS
  split
  · exact ⟨h, trivial⟩
  · split
    · exact ⟨h, trivial⟩
    · split
      · rename_i hl
        exact ⟨h, by simp, by intro d hd; rw [List.mem_singleton.1 hd]; exact hl⟩
      · split
        · rename_i hd
          exact ⟨h, by unfold isDigit at hd; simp only [okTS]; omega⟩
        · split <;> exact ⟨h, trivial⟩

theorem ok_step {x : List Tok × TS} (h : okS x) (c : Nat) : okS (stepS x c) := by
  obtain ⟨out, st⟩ := x
  obtain ⟨h1, h2⟩ := h
  cases st with
  | gap => exact ok_gapS h1 c
  | note => rw [stepS]; split <;> exact ⟨h1, trivial⟩
  | word w =>
    rw [stepS]
    split
    · rename_i hl
      refine ⟨h1, by simp, ?_⟩
      intro d hd
      rcases List.mem_append.1 hd with hd | hd
      · exact h2.2 d hd
      · rw [List.mem_singleton.1 hd]; exact hl
    · split
      · exact ⟨ok_snoc h1 (okTok_label h2), trivial⟩
      · exact ok_gapS (ok_snoc h1 (okTok_word h2)) c
  | minus =>
    rw [stepS]
    split
    · rename_i hd
      exact ⟨h1, by unfold isDigit at hd; simp only [okTS]; omega⟩
    · exact ⟨h1, trivial⟩
  | num neg n =>
    rw [stepS]
    split
    · split
      · exact ⟨h1, trivial⟩
      · rename_i hle
        exact ⟨h1, by simp only [okTS]; omega⟩
    · exact ok_gapS (ok_snoc h1 (okTok_num h2)) c
  | err => exact ⟨h1, trivial⟩

theorem ok_fold : ∀ (l : List Nat) (x : List Tok × TS), okS x → okS (foldS x l)
  | [], _, h => h
  | c :: l, x, h => by rw [foldS_cons]; exact ok_fold l _ (ok_step h c)

theorem ok_fin {x : List Tok × TS} (h : okS x) {o : List Tok} (hf : finS x = some o) : ∀ t ∈ o, okTok t := by
  obtain ⟨out, st⟩ := x
  obtain ⟨h1, h2⟩ := h
  cases st with
  | gap => injection hf with hf; subst hf; exact h1
  | note => injection hf with hf; subst hf; exact h1
  | word w => injection hf with hf; subst hf; exact ok_snoc h1 (okTok_word h2)
  | minus => cases hf
  | num neg n => injection hf with hf; subst hf; exact ok_snoc h1 (okTok_num h2)
  | err => cases hf

theorem split_ok {l : List Nat} {o : List Tok} (h : splitN l = some o) : ∀ t ∈ o, okTok t :=
  ok_fin (ok_fold l ([], .gap) ⟨by simp, trivial⟩) h

end Go.Proofs.Ytgoamkneenmbgaa
