/-
  What the builder's part leaves, in whatever memory. No conditions but those that stand there.
-/
import Derived.Test.YtjbhhlhaikmecaaDoorAsmH
namespace Go.Proofs.YtjbhhlhaikmecaaDoor
open Go.RowKit

def gW (w : List Nat) : Prop := byteW w ∧ w.length ≤ 1048576
theorem gW_nil : gW [] := ⟨fun _ h => (by cases h), by simp⟩
def okG (t : Tok) : Prop := okK t ∧ gW t.word
theorem okG_of {t : Tok} (h : okTok t) (hl : t.word.length ≤ 1048576) : okG t := by
  rcases h with ⟨h1, h2, _⟩ | ⟨h1, _, h3, _⟩
  · exact ⟨.inr (.inl h1), by rw [h2]; exact gW_nil⟩
  · exact ⟨by unfold okK; omega, byteW_letters h3, hl⟩

/-- a builder's state between two parts. -/
structure OkX (x : BS) : Prop where
  mode : x.mode = .ready
  goals : x.goals.length = x.out.length
  len : x.out.length ≤ 64
  labs : ∀ p ∈ x.labs, gW p.1
  words : ∀ g ∈ x.goals, gW g
  ats : ∀ p ∈ x.labs, p.2 ≤ 64

theorem okX_empty : OkX emptyB := ⟨rfl, rfl, by decide, fun _ h => (by cases h), fun _ h => (by cases h), fun _ h => (by cases h)⟩

theorem pushed_ok {x : BS} (h : OkX x) {i : Ins} {g : List Nat} (hg : gW g) {l : List Tok} {p : BS × List Tok} (hp : pushed x i g l = .ok p) : OkX p.1 ∧ p.2 = l ∧ p.1.labs = x.labs := by
  unfold pushed at hp
  by_cases hm : 64 < x.out.length + 1
  · rw [if_pos hm] at hp; cases hp
  · rw [if_neg hm] at hp
    injection hp with hp
    subst hp
    refine ⟨⟨rfl, by simp [h.goals], by simp; omega, h.labs, fun q hq => ?_, h.ats⟩, rfl, rfl⟩
    rcases List.mem_append.1 hq with hq | hq
    · exact h.words q hq
    · rw [List.mem_singleton.1 hq]; exact hg

theorem instrB_ok {x : BS} (h : OkX x) {wd : List Nat} {l : List Tok} (hl : ∀ t ∈ l, okG t) {p : BS × List Tok} (hp : instrB x wd l = .ok p) : OkX p.1 ∧ p.2 <:+ l ∧ p.1.labs = x.labs := by
  unfold instrB at hp
  by_cases h0 : ofN wd = 0
  · rw [if_pos h0] at hp; cases hp
  · rw [if_neg h0] at hp
    by_cases hj : jumpsN (ofN wd)
    · rw [if_pos hj] at hp
      cases l with
      | nil => cases hp
      | cons t l =>
        simp only at hp
        by_cases hk : t.kind = 1
        · rw [if_pos hk] at hp
          obtain ⟨a, b, c⟩ := pushed_ok h (hl t List.mem_cons_self).2 hp
          exact ⟨a, by rw [b]; exact List.suffix_cons t l, c⟩
        · rw [if_neg hk] at hp; cases hp
    · rw [if_neg hj] at hp
      cases hq : numsT (takesN (ofN wd)) l with
      | none => rw [hq] at hp; cases hp
      | some q =>
        obtain ⟨ns, l'⟩ := q
        rw [hq] at hp
        obtain ⟨a, b, c⟩ := pushed_ok h gW_nil hp
        exact ⟨a, by rw [b]; exact nums_left _ _ _ _ hq, c⟩

theorem partP_ok {x : BS} (h : OkX x) {left : List Tok} (hl : ∀ t ∈ left, okG t) {p : BS × List Tok} (hp : partP x left = .ok p) :
    OkX p.1 ∧ p.2.length < left.length ∧ (∀ t ∈ p.2, okG t) ∧ p.1.labs.length + p.2.length ≤ x.labs.length + left.length ∧ foldB x left = foldB p.1 p.2 := by
  cases left with
  | nil => cases hp
  | cons t l =>
    have hl' : ∀ t ∈ l, okG t := fun u hu => hl u (List.mem_cons_of_mem _ hu)
    rw [partP] at hp
    by_cases h3 : t.kind = 3
    · rw [if_pos h3] at hp
      by_cases hin : t.word ∈ x.labs.map (·.1)
      · rw [if_pos hin] at hp; cases hp
      · rw [if_neg hin] at hp
        injection hp with hp
        subst hp
        refine ⟨⟨h.mode, h.goals, h.len, fun q hq => ?_, h.words, fun q hq => ?_⟩, by simp, hl', by simp; omega, ?_⟩
        · rcases List.mem_append.1 hq with hq | hq
          · exact h.labs q hq
          · rw [List.mem_singleton.1 hq]; exact (hl t List.mem_cons_self).2
        · rcases List.mem_append.1 hq with hq | hq
          · exact h.ats q hq
          · rw [List.mem_singleton.1 hq]; exact h.len
        · rw [foldB_cons]
          unfold stepB
          rw [h.mode]
          simp only [if_pos h3, if_neg hin]
    · rw [if_neg h3] at hp
      by_cases h1 : t.kind = 1
      · rw [if_pos h1] at hp
        obtain ⟨a, b, c⟩ := instrB_ok h hl' hp
        have hs := b.length_le
        exact ⟨a, by simp only [List.length_cons]; omega, fun u hu => hl' u (b.mem hu), by rw [c]; simp only [List.length_cons]; omega, (instr_fold h.mode h1 l).2 p hp⟩
      · rw [if_neg h1] at hp; cases hp

theorem pushed_err {x : BS} {i : Ins} {g : List Nat} {l : List Tok} {n : Nat} (h : pushed x i g l = .error n) : n = 4 := by
  unfold pushed at h
  split at h
  · injection h with h; exact h.symm
  · cases h

theorem partP_err {x : BS} (h : OkX x) {t : Tok} {l : List Tok} {n : Nat} (hp : partP x (t :: l) = .error n) : finB (foldB x (t :: l)) = .error n ∧ (n = 4 ∨ n = 5 ∨ n = 10) := by
  rw [partP] at hp
  by_cases h3 : t.kind = 3
  · rw [if_pos h3] at hp
    by_cases hin : t.word ∈ x.labs.map (·.1)
    · rw [if_pos hin] at hp
      injection hp with hp
      subst hp
      rw [foldB_cons, show stepB x t = { x with mode := .bad 10 } by unfold stepB; rw [h.mode]; simp only [if_pos h3, if_pos hin]]
      exact ⟨fin_bad l rfl, by omega⟩
    · rw [if_neg hin] at hp; cases hp
  · rw [if_neg h3] at hp
    by_cases h1 : t.kind = 1
    · rw [if_pos h1] at hp
      refine ⟨(instr_fold h.mode h1 l).1 n hp, ?_⟩
      unfold instrB at hp
      split at hp
      · injection hp with hp; omega
      · split at hp
        · split at hp
          · injection hp with hp; omega
          · split at hp
            · have := pushed_err hp; omega
            · injection hp with hp; omega
        · split at hp
          · injection hp with hp; omega
          · have := pushed_err hp; omega
    · rw [if_neg h1] at hp
      injection hp with hp
      subst hp
      rw [foldB_cons, show stepB x t = { x with mode := .bad 5 } by unfold stepB; rw [h.mode]; simp [h3, h1]]
      exact ⟨fin_bad l rfl, by omega⟩

/-- what a part leaves. -/
def PartR (w0 w : World) (m g B : Nat) (r : Except Nat (BS × List Tok)) (e : Ending) (w' : World) : Prop :=
  Below m w w' ∧ match r with
    | .error n => e = .returned (.int .i64 (n : Nat))
    | .ok p => e = .returned (.int .i64 0) ∧ ∃ A c vc vj, Bld w0 w' m g B A c vc vj p.2 p.1.out (jsOf p.1.out p.1.goals) p.1.labs

set_option maxRecDepth 100000 in
set_option maxHeartbeats 4000000 in
theorem part_any (x : BS) (hx : OkX x) (w0 w : World) (m g B : Nat) (A : Option Addr) (c : Nat) (vc vj : Value) (t : Tok) (left : List Tok) (h : Bld w0 w m g B A c vc vj (t :: left) x.out (jsOf x.out x.goals) x.labs) (hk : ∀ u ∈ t :: left, okG u) (hll : x.labs.length ≤ 1048576) (hT : HasKinds w) (hm0 : 0 < m) :
    Calls Tryd.prog 23 #[.pointer (some ⟨g, 0, none⟩)] w (PartR w0 w m g B (partP x (t :: left))) := by
  have hcl := hx.len
  have hjl := jsOf_length x.out x.goals
  have hkl : ∀ u ∈ left, okK u := fun u hu => (hk u (List.mem_cons_of_mem _ hu)).1
  have hkt := hk t List.mem_cons_self
  have hlab : ∀ p ∈ x.labs, byteW p.1 := fun p hp => (hx.labs p hp).1
  have hgoals := hx.goals
  have h' := Lib.hid h
  rcases hkt.1 with h1 | h1 | h1
  · have hn := Lib.hid (next_is (.iface 75 (.string (strL t.word))) w0 w m g B A c vc vj t left _ _ _ h (.inl h1) (by simp [anyT, h1]))
    have a1 := asL_W
    have a2 := asW_W
    have a3 := beW_W
    have hP : partP x (t :: left) = instrB x t.word left := by rw [partP, if_neg (by omega), if_pos h1]
    rw [hP]
    have hR := instrP_eq hgoals t.word left
    have hlb : Hid (∀ p, instrB x t.word left = .ok p → p.1.labs = x.labs) := Lib.hid (fun p hp => (instrB_ok hx (fun u hu => hk u (List.mem_cons_of_mem _ hu)) hp).2.2)
    have hins : Hid (∀ w1 A1 c1, Bld w0 w1 m g B A1 c1 vc vj left x.out (jsOf x.out x.goals) x.labs → HasKinds w1 → Calls Tryd.prog 43 #[.pointer (some ⟨g, 0, none⟩), .string (strL t.word)] w1 (InsR w0 w1 m g B x.labs ((instrB x t.word left).map fun p => (p.1.out, jsOf p.1.out p.1.goals, p.2)))) := Lib.hid (fun w1 A1 c1 hB1 hT1 => by
      rw [← hR]
      exact instruction_any t.word hkt.2.1 w0 w1 m g B A1 c1 vc vj left x.out (jsOf x.out x.goals) x.labs hB1 hkl (by omega) (by omega) hT1)
    have hT' := Lib.hid hT
    clear hP h1 h hk hkt hlab hT hkl hx hgoals hR
    generalize instrB x t.word left = R at *
    generalize t.word = wd at *
    cases R with
    | error n =>
      go_enter Tryd.func23, Tryd.ntmps23
      go_wp2_with (first
        | (go_at_call 41; go_must ((with_reducible refine hn.out.mono ?_); rintro e w1 ⟨rfl, ⟨A1, c1, hB1⟩, hb1⟩; have H1 := Lib.hid hB1; clear hB1))
        | (go_at_call 43; go_must ((with_reducible refine (hins.out w1 A1 c1 H1.out (hT'.out.below (h'.out.but hb1) hm0)).mono ?_); rintro e w2 ⟨i1, rfl⟩)))
      go_ret
      exact ⟨(h'.out.but hb1).trans i1, rfl⟩
    | ok p =>
      have hlp := Lib.hid (hlb.out p rfl)
      go_enter Tryd.func23, Tryd.ntmps23
      go_wp2_with (first
        | (go_at_call 41; go_must ((with_reducible refine hn.out.mono ?_); rintro e w1 ⟨rfl, ⟨A1, c1, hB1⟩, hb1⟩; have H1 := Lib.hid hB1; clear hB1))
        | (go_at_call 43; go_must ((with_reducible refine (hins.out w1 A1 c1 H1.out (hT'.out.below (h'.out.but hb1) hm0)).mono ?_); rintro e w2 ⟨i1, rfl, A2, c2, vc2, vj2, hB2⟩)))
      go_ret
      exact ⟨(h'.out.but hb1).trans i1, rfl, A2, c2, vc2, vj2, by rw [hlp.out]; exact hB2⟩
  · have hn := Lib.hid (next_is (.iface 90 (.int .i64 t.n)) w0 w m g B A c vc vj t left _ _ _ h (.inr (.inl h1)) (by simp [anyT, h1]))
    have a1 := asL_N
    have a2 := asW_N
    rw [show partP x (t :: left) = .error 5 by rw [partP, if_neg (by omega), if_neg (by omega)]]
    clear h1 h hk hkt hlab hT hkl hx hgoals
    go_enter Tryd.func23, Tryd.ntmps23
    go_wp2_with (go_at_call 41; go_must ((with_reducible refine hn.out.mono ?_); rintro e w1 ⟨rfl, -, hb1⟩))
    go_ret
    exact ⟨h'.out.but hb1, rfl⟩
  · have hn := Lib.hid (next_is (.iface 73 (.string (strL t.word))) w0 w m g B A c vc vj t left _ _ _ h (.inr (.inr h1)) (by simp [anyT, h1]))
    have a1 := asL_L
    have a2 := beL_L
    have hw1 : Hid (byteW t.word) := Lib.hid hkt.2.1
    have hw2 : Hid (t.word.length ≤ 1048576) := Lib.hid hkt.2.2
    have hlab' := Lib.hid hlab
    rw [partP, if_pos h1]
    clear h1 h hk hkt hlab hT hkl hx hgoals
    by_cases hin : t.word ∈ x.labs.map (·.1)
    · rw [if_pos hin]
      have hin' := Lib.hid hin
      clear hin
      generalize t.word = wd at *
      go_enter Tryd.func23, Tryd.ntmps23
      go_wp2_with (first
        | (go_at_call 41; go_must ((with_reducible refine hn.out.mono ?_); rintro e w1 ⟨rfl, ⟨A1, c1, hB1⟩, hb1⟩; have H1 := Lib.hid hB1; clear hB1))
        | (go_at_call 42; go_must ((with_reducible refine (place_there w0 w1 m g B A1 c1 vc vj left x.out (jsOf x.out x.goals) x.labs H1.out wd hw1.out hlab'.out hw2.out hin'.out).mono ?_); rintro e w2 ⟨rfl, rfl⟩)))
      go_ret
      exact ⟨h'.out.but hb1, rfl⟩
    · rw [if_neg hin]
      have hin' := Lib.hid hin
      clear hin
      generalize t.word = wd at *
      go_enter Tryd.func23, Tryd.ntmps23
      go_wp2_with (first
        | (go_at_call 41; go_must ((with_reducible refine hn.out.mono ?_); rintro e w1 ⟨rfl, ⟨A1, c1, hB1⟩, hb1⟩; have H1 := Lib.hid hB1; clear hB1))
        | (go_at_call 42; go_must ((with_reducible refine (place_new w0 w1 m g B A1 c1 vc vj left x.out (jsOf x.out x.goals) x.labs H1.out wd hw1.out hlab'.out hw2.out hll (by omega) hin'.out).mono ?_); rintro e w2 ⟨rfl, hB2, hb2⟩)))
      go_ret
      exact ⟨(h'.out.but hb1).trans hb2, rfl, A1, c1, vc, vj, hB2⟩

end Go.Proofs.YtjbhhlhaikmecaaDoor
