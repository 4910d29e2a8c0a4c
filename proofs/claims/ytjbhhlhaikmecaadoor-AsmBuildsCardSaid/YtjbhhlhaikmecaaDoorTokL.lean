/-
  A text's tokens, on plain bytes: how many there are at most. No conditions.
-/
import Derived.Test.YtjbhhlhaikmecaaDoorTokR
namespace Go.Proofs.YtjbhhlhaikmecaaDoor

def wordLen : TS → Nat
  | .word wd => wd.length
  | _ => 0
def pendS : TS → Nat
  | .word _ => 1
  | .minus => 1
  | .num _ _ => 1
  | _ => 0

theorem gapS_len (out : List Tok) (c : Nat) : (gapS out c).1.length + pendS (gapS out c).2 ≤ out.length + 1 ∧ wordLen (gapS out c).2 ≤ 1 := by
  unfold gapS
  repeat' split
  all_goals simp [pendS, wordLen]

theorem step_len (x : List Tok × TS) (c : Nat) : (stepS x c).1.length + pendS (stepS x c).2 ≤ x.1.length + pendS x.2 + 1 ∧ wordLen (stepS x c).2 ≤ wordLen x.2 + 1 := by
  obtain ⟨out, st⟩ := x
  cases st with
  | gap => have := gapS_len out c; exact ⟨by simpa [stepS, pendS] using this.1, by simpa [stepS, wordLen] using this.2⟩
  | note => rw [stepS]; split <;> simp [pendS, wordLen]
  | word w =>
    rw [stepS]
    split
    · simp [pendS, wordLen]
    · split
      · simp [pendS, wordLen]
      · have := gapS_len (out ++ [⟨1, w, 0⟩]) c
        rw [List.length_append, List.length_singleton] at this
        have e : pendS (TS.word w) = 1 := rfl
        show _ ≤ out.length + pendS (TS.word w) + 1 ∧ _
        rw [e]
        omega
  | minus =>
    rw [stepS]
    split <;> simp [pendS, wordLen]
    omega
  | num neg n =>
    rw [stepS]
    split
    · split <;> simp [pendS, wordLen]
      omega
    · have := gapS_len (out ++ [⟨2, [], signed neg n⟩]) c
      rw [List.length_append, List.length_singleton] at this
      have e : pendS (TS.num neg n) = 1 := rfl
      show _ ≤ out.length + pendS (TS.num neg n) + 1 ∧ _
      rw [e]
      omega
  | err => simp [stepS, pendS, wordLen]

theorem fold_len : ∀ (l : List Nat) (x : List Tok × TS), (foldS x l).1.length + pendS (foldS x l).2 ≤ x.1.length + pendS x.2 + l.length
  | [], x => by simp [foldS_nil]
  | c :: l, x => by
    rw [foldS_cons]
    have h1 := fold_len l (stepS x c)
    have h2 := (step_len x c).1
    rw [List.length_cons]
    omega

theorem fin_len {x : List Tok × TS} {o : List Tok} (h : finS x = some o) : o.length ≤ x.1.length + pendS x.2 := by
  obtain ⟨out, st⟩ := x
  cases st <;> simp [finS] at h
  all_goals (subst h; simp [pendS])

theorem split_len {l : List Nat} {o : List Tok} (h : splitN l = some o) : o.length ≤ l.length := by
  have h1 := fin_len h
  have h2 := fold_len l ([], .gap)
  have e : pendS TS.gap = 0 := rfl
  rw [e, List.length_nil] at h2
  omega

end Go.Proofs.YtjbhhlhaikmecaaDoor
