/-
  Instructions as a text, on plain numbers: how long a text is; what a text builds may be told; notes change nothing. No conditions but those that stand there.
-/
import Derived.Test.YtjbhhlhaikmecaaDoorAsmQ
namespace Go.Proofs.YtjbhhlhaikmecaaDoor

/-! ### how long -/
theorem decN_lenA : ∀ (k n : Nat), n < 10 ^ (k + 1) → (decN n).length ≤ k + 1
  | 0, n, h => by rw [decN_small (by simpa using h)]; simp
  | k + 1, n, h => by
    by_cases hn : n < 10
    · rw [decN_small hn]; simp
    · rw [decN_large hn, List.length_append, List.length_singleton]
      have := decN_lenA k (n / 10) (by rw [Nat.div_lt_iff_lt_mul (by omega), ← Nat.pow_succ]; exact h)
      omega

theorem decZ_lenA {n : Int} (h : -1099511627776 ≤ n ∧ n ≤ 1099511627776) : (decZ n).length ≤ 14 := by
  have := decN_lenA 12 n.natAbs (by omega)
  rw [decZ]
  split
  · rw [List.length_cons]; omega
  · omega

theorem word_len : ∀ i, i < 17 → (namesN.getD (i + 1) []).length ≤ 4 := by decide
theorem wordN_len {op : Int} (h : 1 ≤ op ∧ op ≤ 17) : (wordN op).length ≤ 4 := by
  obtain ⟨i, hi, _, hw⟩ := op_nat h
  rw [hw]
  exact word_len i hi

theorem textT_append (l m : List (Tok × Nat)) : textT (l ++ m) = textT l ++ textT m := List.flatMap_append
theorem mark_len (l : List Ins) (i : Nat) : (textT (markT l i)).length ≤ 5 := by
  rw [markT]
  split
  · simp [textT, textOf, labelN]
  · simp [textT]

theorem line_len {l : List Ins} (h : tellable l) {i : Nat} (hi : i < l.length) : (textT (lineT i (insAt l i))).length ≤ 35 := by
  obtain ⟨hop, _, _, ha, hb⟩ := h.good i hi
  have hw := wordN_len hop
  have h1 := decZ_lenA ha
  have h2 := decZ_lenA hb
  rw [lineT]
  split
  · simp [textT, textOf, labelN]; omega
  · split
    · simp [textT, textOf]; omega
    · split
      · simp [textT, textOf]; omega
      · simp [textT, textOf]; omega

theorem upTo_len {l : List Ins} (h : tellable l) : ∀ n, n ≤ l.length → (textT (upToT l n)).length ≤ 40 * n
  | 0, _ => by simp [upToT, textT]
  | n + 1, hn => by
    have ih := upTo_len h n (by omega)
    have h1 := mark_len l n
    have h2 := line_len h (show n < l.length by omega)
    rw [upToT_succ, textT_append, textT_append, List.length_append, List.length_append]
    omega

theorem tell_len {l : List Ins} (h : tellable l) : (tellN l).length ≤ 2565 := by
  have h1 := upTo_len h l.length (Nat.le_refl _)
  have h2 := mark_len l l.length
  have := h.len
  rw [tellN, tellT, textT_append, List.length_append]
  omega

/-- what is told is built again. -/
theorem build_tell {l : List Ins} (h : tellable l) : buildN (tellN l) = .ok l := by
  rw [buildN, if_neg (by have := tell_len h; omega), split_tell h]
  exact built_again h

/-! ### what is built may be told -/
def okBM : BM → Prop
  | .ready => True
  | .want op => (1 ≤ op ∧ op ≤ 17) ∧ takesN op ≠ 0
  | .more op a => (1 ≤ op ∧ op ≤ 17) ∧ takesN op = 2 ∧ -1099511627776 ≤ a ∧ a ≤ 1099511627776
  | .bad _ => True

structure okB (x : BS) : Prop where
  good : ∀ y ∈ x.out, goodIns y
  labs : ∀ p ∈ x.labs, p.2 ≤ x.out.length
  len : x.out.length ≤ 64
  mode : okBM x.mode

theorem goodIns_zero {op : Int} (h : 1 ≤ op ∧ op ≤ 17) : goodIns ⟨op, 0, 0⟩ := ⟨h, fun _ => rfl, fun _ => rfl, ⟨by simp, by simp⟩, ⟨by simp, by simp⟩⟩

theorem ok_push {x : BS} (h : okB x) {i : Ins} (hi : goodIns i) (g : List Nat) : okB (pushB x i g) := by
  rw [pushB]
  split
  · exact ⟨h.good, h.labs, h.len, trivial⟩
  · refine ⟨fun y hy => ?_, fun p hp => ?_, by simp; omega, trivial⟩
    · rcases List.mem_append.1 hy with hy | hy
      · exact h.good y hy
      · rw [List.mem_singleton.1 hy]; exact hi
    · have := h.labs p hp
      simp
      omega

theorem okB_bad {x : BS} (h : okB x) (e : Nat) : okB { x with mode := .bad e } := ⟨h.good, h.labs, h.len, trivial⟩

theorem num_of_tok {t : Tok} (ht : okTok t) (_hk : t.kind = 2) : -1099511627776 ≤ t.n ∧ t.n ≤ 1099511627776 := by
  rcases ht with ⟨_, _, h⟩ | ⟨h, _⟩
  · exact h
  · omega

theorem ok_stepB {x : BS} (h : okB x) {t : Tok} (ht : okTok t) : okB (stepB x t) := by
  unfold stepB
  cases hm : x.mode with
  | ready =>
    simp only
    split
    · split
      · exact okB_bad h 10
      · refine ⟨h.good, fun p hp => ?_, h.len, trivial⟩
        rcases List.mem_append.1 hp with hp | hp
        · exact h.labs p hp
        · rw [List.mem_singleton.1 hp]; exact Nat.le_refl _
    · split
      · exact okB_bad h 5
      · rename_i hk
        have hof : ofN t.word ≠ 0 := fun e => hk (.inr e)
        obtain ⟨o1, o2, _⟩ := of_some hof
        split
        · exact ok_push h (goodIns_zero ⟨o1, o2⟩) []
        · rename_i htk
          exact ⟨h.good, h.labs, h.len, ⟨o1, o2⟩, htk⟩
  | want op =>
    have hmd := h.mode
    rw [hm] at hmd
    obtain ⟨hop, htk⟩ := hmd
    simp only
    split
    · split
      · exact ok_push h (goodIns_zero hop) _
      · exact okB_bad h 5
    · split
      · exact okB_bad h 5
      · rename_i hk
        have hn := num_of_tok ht (by omega)
        split
        · rename_i h1
          exact ok_push h ⟨hop, fun h0 => by simp only at h0; omega, fun _ => rfl, hn, ⟨by simp, by simp⟩⟩ []
        · rename_i h1
          have := takes_le op
          exact ⟨h.good, h.labs, h.len, hop, by omega, hn⟩
  | more op a =>
    have hmd := h.mode
    rw [hm] at hmd
    obtain ⟨hop, htk, ha⟩ := hmd
    simp only
    split
    · exact okB_bad h 5
    · rename_i hk
      exact ok_push h ⟨hop, fun h0 => by simp only at h0; omega, fun h0 => by simp only at h0; omega, ha, num_of_tok ht (by omega)⟩ []
  | bad e => exact h

theorem ok_foldB : ∀ (l : List Tok) (x : BS), okB x → (∀ t ∈ l, okTok t) → okB (foldB x l)
  | [], _, h, _ => h
  | t :: l, x, h, ht => by rw [foldB_cons]; exact ok_foldB l _ (ok_stepB h (ht t (by simp))) (fun u hu => ht u (by simp [hu]))

theorem where_le {labs : List (List Nat × Nat)} {n : Nat} (h : ∀ p ∈ labs, p.2 ≤ n) (g : List Nat) : whereN labs g ≤ n := by
  have key : ∀ (l : List (List Nat × Nat)) (z : Int), (∀ p ∈ l, p.2 ≤ n) → z ≤ n → l.foldl (fun at_ p => if p.1 = g then (p.2 : Int) else at_) z ≤ n := by
    intro l
    induction l with
    | nil => intro z _ hz; exact hz
    | cons p l ih =>
      intro z hl hz
      rw [List.foldl_cons]
      refine ih _ (fun q hq => hl q (by simp [hq])) ?_
      split
      · have := hl p (by simp); omega
      · exact hz
  exact key labs (-1) h (by omega)

theorem built_tellable {t : List Tok} (ht : ∀ x ∈ t, okTok x) {l : List Ins} (h : buildT t = .ok l) : tellable l := by
  have hok := ok_foldB t emptyB ⟨by simp [emptyB], by simp [emptyB], by simp [emptyB], trivial⟩ ht
  rw [buildT] at h
  generalize foldB emptyB t = x at *
  unfold finB at h
  cases hm : x.mode with
  | want op => rw [hm] at h; cases h
  | more op a => rw [hm] at h; cases h
  | bad e => rw [hm] at h; cases h
  | ready =>
    rw [hm] at h
    simp only at h
    split at h
    · rename_i hlead
      injection h with h
      have hlen : l.length = x.out.length := by rw [← h]; simp
      have hat : ∀ i, i < l.length → insAt l i = aimed x.labs x.goals i (insAt x.out i) := by
        intro i hi
        rw [← h, insAt, List.getElem?_map, List.getElem?_range (by omega)]
        rfl
      have hgood : ∀ i, i < l.length → goodIns (insAt x.out i) := by
        intro i hi
        refine hok.good _ ?_
        rw [insAt, List.getElem?_eq_getElem (by omega)]
        exact List.getElem_mem _
      have hop : ∀ i, i < l.length → (insAt l i).op = (insAt x.out i).op := by
        intro i hi
        rw [hat i hi, aimed]
        split <;> rfl
      have hj : ∀ i, i < l.length → jumpsN (insAt x.out i).op → 0 ≤ (insAt l i).a ∧ (insAt l i).a ≤ (l.length : Int) - i - 1 := by
        intro i hi hj
        have h1 := hlead i (by omega) hj
        have h2 := where_le hok.labs (x.goals[i]?.getD [])
        rw [hat i hi, aimed, if_pos hj]
        simp only
        omega
      refine ⟨by rw [hlen]; exact hok.len, fun i hi => ?_, fun i hi hji => hj i hi (by rw [← hop i hi]; exact hji)⟩
      obtain ⟨g1, g2, g3, g4, g5⟩ := hgood i hi
      by_cases hji : jumpsN (insAt x.out i).op
      · have hb := hj i hi hji
        have h64 := hok.len
        rw [hat i hi, aimed, if_pos hji] at hb ⊢
        refine ⟨g1, fun h0 => ?_, g3, ?_, g5⟩
        · simp only at h0
          rw [takes_jump hji] at h0
          omega
        · simp only at hb ⊢
          omega
      · rw [hat i hi, aimed, if_neg hji]
        exact ⟨g1, g2, g3, g4, g5⟩
    · cases h

theorem build_tellable {s : List Nat} {l : List Ins} (h : buildN s = .ok l) : tellable l := by
  unfold buildN at h
  split at h
  · cases h
  · cases hs : splitN s with
    | none => rw [hs] at h; cases h
    | some t => rw [hs] at h; exact built_tellable (split_ok hs) h

/-! ### notes -/
/-- behind a new line all is between tokens, or wrong. -/
theorem step_newline (x : List Tok × TS) : (∃ o, stepS x 10 = (o, .gap)) ∨ ∃ o, stepS x 10 = (o, .err) := by
  cases hf : finS x with
  | none => exact .inr (step_blank_no hf (.inr (.inl rfl)))
  | some o =>
    by_cases hn : x.2 = .note
    · obtain ⟨out, st⟩ := x
      simp only at hn
      subst hn
      exact .inl ⟨out, rfl⟩
    · exact .inl ⟨o, step_blank hf hn (.inr (.inl rfl))⟩

def moreN : List Nat := [32, 35, 32, 109, 111, 114, 101, 10]
/-- each new line with a note behind it. -/
def notedN (s : List Nat) : List Nat := s.flatMap fun c => if c = 10 then c :: moreN else [c]

theorem fold_more (o : List Tok) : foldS (o, .gap) moreN = (o, .gap) := rfl

theorem fold_noted : ∀ (s : List Nat) (x : List Tok × TS), foldS x (notedN s) = foldS x s
  | [], _ => rfl
  | c :: s, x => by
    rw [show notedN (c :: s) = (if c = 10 then c :: moreN else [c]) ++ notedN s from List.flatMap_cons, foldS_append, fold_noted s, foldS_cons]
    congr 1
    by_cases hc : c = 10
    · subst hc
      rw [if_pos rfl, foldS_cons]
      rcases step_newline x with ⟨o, ho⟩ | ⟨o, ho⟩
      · rw [ho, fold_more]
      · rw [ho, fold_err]
    · rw [if_neg hc, foldS_cons, foldS_nil]

/-- is a note open behind these bytes, as one counts by # and new lines alone? -/
def openN (s : List Nat) : Bool := s.foldl (fun b c => (b || decide (c = 35)) && !decide (c = 10)) false

theorem openN_snoc (s : List Nat) (c : Nat) : openN (s ++ [c]) = ((openN s || decide (c = 35)) && !decide (c = 10)) := by
  simp [openN]

theorem gapS_is_note {out : List Tok} {c : Nat} (h : (gapS out c).2 = .note) : c = 35 := by
  apply Classical.byContradiction
  intro hc
  exact gapS_note hc h

theorem step_is_note {x : List Tok × TS} {c : Nat} (h : (stepS x c).2 = .note) : (x.2 = .note ∨ c = 35) ∧ c ≠ 10 := by
  refine ⟨?_, ?_⟩
  · by_cases hn : x.2 = .note
    · exact .inl hn
    · right
      apply Classical.byContradiction
      intro hc
      exact step_note hn hc h
  · rintro rfl
    rcases step_newline x with ⟨o, ho⟩ | ⟨o, ho⟩ <;> (rw [ho] at h; cases h)

theorem open_from : ∀ (l : List Nat) (x : List Tok × TS) (b : Bool), (x.2 = .note → b = true) → (foldS x l).2 = .note → l.foldl (fun b c => (b || decide (c = 35)) && !decide (c = 10)) b = true
  | [], _, _, h, hn => h hn
  | c :: l, x, b, h, hn => by
    rw [foldS_cons] at hn
    rw [List.foldl_cons]
    refine open_from l _ _ (fun hx => ?_) hn
    obtain ⟨h1, h2⟩ := step_is_note hx
    rcases h1 with h1 | h1
    · simp [h h1, h2]
    · simp [h1]

/-- where no note is open, none is. -/
theorem open_note (s : List Nat) : (foldS ([], .gap) s).2 = .note → openN s = true := open_from s _ _ (fun h => by cases h)

def lastN : List Nat := [10, 35, 32, 109, 111, 114, 101]

theorem split_more (s : List Nat) : splitN (notedN s ++ if openN s = true then [] else lastN) = splitN s := by
  rw [splitN, splitN, foldS_append, fold_noted]
  cases ho : openN s with
  | true => rfl
  | false =>
    rw [if_neg (by simp)]
    have hn : (foldS ([], .gap) s).2 ≠ .note := fun h => by rw [open_note s h] at ho; cases ho
    generalize foldS (([], .gap) : List Tok × TS) s = x at *
    rw [show lastN = 10 :: [35, 32, 109, 111, 114, 101] from rfl, foldS_cons]
    cases hf : finS x with
    | some o => rw [step_blank hf hn (.inr (.inl rfl))]; rfl
    | none =>
      obtain ⟨o, he⟩ := step_blank_no hf (.inr (.inl rfl))
      rw [he, fold_err]
      rfl

end Go.Proofs.YtjbhhlhaikmecaaDoor
