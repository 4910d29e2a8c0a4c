/-
  A text's parts, one by one, on plain numbers: what the builder does with the next tokens is what its tokens come to, one by one. No conditions but those that stand there.
-/
import Derived.Test.YtjbhhlhaikmecaaDoorAsmG
namespace Go.Proofs.YtjbhhlhaikmecaaDoor
open Go.RowKit

/-- the jumps, with the words that they lead to. -/
def jsOf (out : List Ins) (goals : List (List Nat)) : List (Nat × List Nat) := (List.range out.length).filterMap fun i => if jumpsN (insAt out i).op then some (i, goals[i]?.getD []) else none

theorem insAt_left {l : List Ins} {i : Nat} (h : i < l.length) (m : List Ins) : insAt (l ++ m) i = insAt l i := by
  unfold insAt
  rw [List.getElem?_append_left h]
theorem insAt_snoc (l : List Ins) (x : Ins) : insAt (l ++ [x]) l.length = x := by
  unfold insAt
  rw [List.getElem?_append_right (Nat.le_refl _), Nat.sub_self]
  rfl

theorem filterMap_same {α β : Type} {f g : α → Option β} : ∀ {l : List α}, (∀ a ∈ l, f a = g a) → l.filterMap f = l.filterMap g
  | [], _ => rfl
  | a :: l, h => by
    rw [List.filterMap_cons, List.filterMap_cons, h a List.mem_cons_self, filterMap_same (fun b hb => h b (List.mem_cons_of_mem _ hb))]

theorem jsOf_snoc {out : List Ins} {goals : List (List Nat)} (h : goals.length = out.length) (x : Ins) (g : List Nat) : jsOf (out ++ [x]) (goals ++ [g]) = jsOf out goals ++ if jumpsN x.op then [(out.length, g)] else [] := by
  unfold jsOf
  rw [List.length_append, List.length_singleton, List.range_succ, List.filterMap_append]
  congr 1
  · apply filterMap_same
    intro i hi
    have hi' : i < out.length := by simpa using hi
    rw [insAt_left hi', List.getElem?_append_left (by omega)]
  · rw [List.filterMap_cons, List.filterMap_nil, insAt_snoc, List.getElem?_append_right (by omega), h, Nat.sub_self]
    by_cases hj : jumpsN x.op
    · rw [if_pos hj, if_pos hj]
      rfl
    · rw [if_neg hj, if_neg hj]

theorem jsOf_length (out : List Ins) (goals : List (List Nat)) : (jsOf out goals).length ≤ out.length := by
  have := List.length_filterMap_le (fun i => if jumpsN (insAt out i).op then some (i, goals[i]?.getD []) else none) (List.range out.length)
  rw [List.length_range] at this
  exact this

theorem fold_bad : ∀ (l : List Tok) (x : BS) (e : Nat), x.mode = .bad e → foldB x l = x
  | [], _, _, _ => rfl
  | t :: l, x, e, h => by
    rw [foldB_cons]
    have hs : stepB x t = x := by unfold stepB; rw [h]
    rw [hs]
    exact fold_bad l x e h

theorem fin_bad {x : BS} {e : Nat} (l : List Tok) (h : x.mode = .bad e) : finB (foldB x l) = .error e := by
  rw [fold_bad l x e h]
  unfold finB
  rw [h]

/-- one instruction more, or one too many. -/
def pushed (x : BS) (i : Ins) (g : List Nat) (l : List Tok) : Except Nat (BS × List Tok) := if 64 < x.out.length + 1 then .error 4 else .ok (⟨x.out ++ [i], x.goals ++ [g], x.labs, .ready⟩, l)

def instrB (x : BS) (wd : List Nat) (l : List Tok) : Except Nat (BS × List Tok) :=
  if ofN wd = 0 then .error 5
  else if jumpsN (ofN wd) then match l with
    | [] => .error 5
    | t :: l' => if t.kind = 1 then pushed x ⟨ofN wd, 0, 0⟩ t.word l' else .error 5
  else match numsT (takesN (ofN wd)) l with
    | none => .error 5
    | some (ns, l') => pushed x ⟨ofN wd, ns.getD 0 0, ns.getD 1 0⟩ [] l'

def partP (x : BS) : List Tok → Except Nat (BS × List Tok)
  | [] => .error 5
  | t :: l => if t.kind = 3 then (if t.word ∈ x.labs.map (·.1) then .error 10 else .ok ({ x with labs := x.labs ++ [(t.word, x.out.length)] }, l))
    else if t.kind = 1 then instrB x t.word l else .error 5

theorem instrP_eq {x : BS} (h : x.goals.length = x.out.length) (wd : List Nat) (l : List Tok) : instrP wd x.out (jsOf x.out x.goals) l = (instrB x wd l).map fun p => (p.1.out, jsOf p.1.out p.1.goals, p.2) := by
  unfold instrP instrB restP
  by_cases h0 : ofN wd = 0
  · rw [if_pos h0, if_pos h0]; rfl
  · rw [if_neg h0, if_neg h0]
    by_cases hj : jumpsN (ofN wd)
    · simp only [if_pos hj]
      cases l with
      | nil => rfl
      | cons t l =>
        simp only
        by_cases hk : t.kind = 1
        · rw [if_pos hk, if_pos hk]
          unfold pushed
          by_cases hm : 64 < x.out.length + 1
          · simp only [if_pos hm]; rfl
          · simp only [if_neg hm, Except.map, jsOf_snoc h, if_pos hj]
        · rw [if_neg hk, if_neg hk]; rfl
    · simp only [if_neg hj]
      cases numsT (takesN (ofN wd)) l with
      | none => rfl
      | some p =>
        obtain ⟨ns, l'⟩ := p
        simp only [Option.map_some]
        unfold pushed
        by_cases hm : 64 < x.out.length + 1
        · simp only [if_pos hm]; rfl
        · simp only [if_neg hm, Except.map, jsOf_snoc h, if_neg hj, List.append_nil]

/-- what is left is an end of what was. -/
theorem nums_left : ∀ (n : Nat) (l : List Tok) (ns : List Int) (r : List Tok), numsT n l = some (ns, r) → r <:+ l
  | 0, l, ns, r, h => by
    rw [nums_zero] at h
    injection h with h
    injection h with _ h
    subst h
    exact List.suffix_refl _
  | _ + 1, [], _, _, h => by cases h
  | n + 1, t :: l, ns, r, h => by
    rw [numsT] at h
    by_cases hk : t.kind = 2
    · rw [if_pos hk] at h
      cases hq : numsT n l with
      | none => rw [hq] at h; cases h
      | some p =>
        obtain ⟨ns', r'⟩ := p
        rw [hq] at h
        simp only [Option.map_some, Option.some.injEq, Prod.mk.injEq] at h
        have := nums_left n l ns' r' hq
        rw [← h.2]
        exact this.trans (List.suffix_cons t l)
    · rw [if_neg hk] at h; cases h

theorem push_ready {x : BS} (i : Ins) (g : List Nat) (l : List Tok) : (∀ n, pushed x i g l = .error n → finB (foldB (pushB x i g) l) = .error n) ∧ ∀ p, pushed x i g l = .ok p → foldB (pushB x i g) l = foldB p.1 p.2 := by
  unfold pushed pushB
  by_cases hm : 64 < x.out.length + 1
  · rw [if_pos hm, if_pos hm]
    refine ⟨fun n h => ?_, fun p h => by cases h⟩
    injection h with h
    subst h
    exact fin_bad l rfl
  · rw [if_neg hm, if_neg hm]
    refine ⟨fun n h => (by cases h), fun p h => ?_⟩
    injection h with h
    subst h
    rfl

/-- an instruction's tokens, one by one. -/
theorem instr_fold {x : BS} (hx : x.mode = .ready) {t : Tok} (ht : t.kind = 1) (l : List Tok) : (∀ n, instrB x t.word l = .error n → finB (foldB x (t :: l)) = .error n) ∧ ∀ p, instrB x t.word l = .ok p → foldB x (t :: l) = foldB p.1 p.2 := by
  have hstep : stepB x t = if ofN t.word = 0 then { x with mode := .bad 5 } else if takesN (ofN t.word) = 0 then pushB x ⟨ofN t.word, 0, 0⟩ [] else { x with mode := .want (ofN t.word) } := by
    unfold stepB
    rw [hx]
    simp only [ht]
    by_cases h0 : ofN t.word = 0
    · simp [h0]
    · simp [h0]
  rw [foldB_cons, hstep]
  unfold instrB
  by_cases h0 : ofN t.word = 0
  · rw [if_pos h0, if_pos h0]
    refine ⟨fun n h => ?_, fun p h => by cases h⟩
    injection h with h
    subst h
    exact fin_bad l rfl
  · rw [if_neg h0, if_neg h0]
    generalize ofN t.word = op at *
    clear hstep h0 ht
    by_cases hj : jumpsN op
    · rw [if_pos hj, if_neg (by rw [takes_jump hj]; decide)]
      cases l with
      | nil =>
        refine ⟨fun n h => ?_, fun p h => by cases h⟩
        injection h with h
        subst h
        rfl
      | cons u l =>
        simp only
        rw [foldB_cons]
        by_cases hk : u.kind = 1
        · rw [if_pos hk, show stepB { x with mode := .want op } u = pushB { x with mode := .want op } ⟨op, 0, 0⟩ u.word by unfold stepB; simp only [if_pos hj, if_pos hk]]
          exact push_ready (x := { x with mode := .want op }) ⟨op, 0, 0⟩ u.word l
        · rw [if_neg hk, show stepB { x with mode := .want op } u = { x with mode := .bad 5 } by unfold stepB; simp only [if_pos hj, if_neg hk]]
          refine ⟨fun n h => ?_, fun p h => by cases h⟩
          injection h with h
          subst h
          exact fin_bad l rfl
    · rw [if_neg hj]
      have hle := takes_le op
      rcases (show takesN op = 0 ∨ takesN op = 1 ∨ takesN op = 2 by omega) with ht | ht | ht
      · rw [ht, if_pos rfl, nums_zero]
        exact push_ready (x := x) ⟨op, 0, 0⟩ [] l
      · rw [ht, if_neg (by decide)]
        cases l with
        | nil =>
          refine ⟨fun n h => ?_, fun p h => by cases h⟩
          injection h with h
          subst h
          rfl
        | cons u l =>
          rw [foldB_cons, numsT]
          by_cases hk : u.kind = 2
          · rw [if_pos hk, show stepB { x with mode := .want op } u = pushB { x with mode := .want op } ⟨op, u.n, 0⟩ [] by unfold stepB; simp [hj, hk, ht], nums_zero]
            exact push_ready (x := { x with mode := .want op }) ⟨op, u.n, 0⟩ [] l
          · rw [if_neg hk, show stepB { x with mode := .want op } u = { x with mode := .bad 5 } by unfold stepB; simp [hj, hk]]
            refine ⟨fun n h => ?_, fun p h => by cases h⟩
            injection h with h
            subst h
            exact fin_bad l rfl
      · rw [ht, if_neg (by decide)]
        cases l with
        | nil =>
          refine ⟨fun n h => ?_, fun p h => by cases h⟩
          injection h with h
          subst h
          rfl
        | cons u l =>
          rw [foldB_cons, numsT]
          by_cases hk : u.kind = 2
          · rw [if_pos hk, show stepB { x with mode := .want op } u = { x with mode := .more op u.n } by unfold stepB; simp [hj, hk, ht]]
            cases l with
            | nil =>
              refine ⟨fun n h => ?_, fun p h => by cases h⟩
              injection h with h
              subst h
              rfl
            | cons v l =>
              rw [foldB_cons, numsT]
              by_cases hv : v.kind = 2
              · rw [if_pos hv, show stepB { x with mode := .more op u.n } v = pushB { x with mode := .more op u.n } ⟨op, u.n, v.n⟩ [] by unfold stepB; simp [hv], nums_zero]
                exact push_ready (x := { x with mode := .more op u.n }) ⟨op, u.n, v.n⟩ [] l
              · rw [if_neg hv, show stepB { x with mode := .more op u.n } v = { x with mode := .bad 5 } by unfold stepB; simp [hv]]
                refine ⟨fun n h => ?_, fun p h => by cases h⟩
                injection h with h
                subst h
                exact fin_bad l rfl
          · rw [if_neg hk, show stepB { x with mode := .want op } u = { x with mode := .bad 5 } by unfold stepB; simp [hj, hk]]
            refine ⟨fun n h => ?_, fun p h => by cases h⟩
            injection h with h
            subst h
            exact fin_bad l rfl

end Go.Proofs.YtjbhhlhaikmecaaDoor
