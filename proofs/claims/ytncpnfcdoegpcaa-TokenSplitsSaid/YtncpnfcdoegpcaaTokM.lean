/-
  A text's tokens, on plain bytes: written again they are no longer than the text. No conditions.
-/
import Derived.Test.YtncpnfcdoegpcaaTokL
namespace Go.Proofs.Ytncpnfcdoegpcaa

def lenT (l : List Tok) : Nat := (l.flatMap textOf).length
theorem lenT_snoc (l : List Tok) (t : Tok) : lenT (l ++ [t]) = lenT l + (textOf t).length := by simp [lenT]

def txtS : TS → Nat
  | .word wd => wd.length
  | .minus => 1
  | .num neg n => (if neg = true then 1 else 0) + (decN n).length
  | _ => 0

theorem decN_step (n d : Nat) (hd : d < 10) : (decN (10 * n + d)).length ≤ (decN n).length + 1 := by
  by_cases h : 10 * n + d < 10
  · rw [decN_small h]; simp
  · rw [decN_large h, show (10 * n + d) / 10 = n by omega]; simp

theorem decZ_len (neg : Bool) (n : Nat) : (decZ (signed neg n)).length ≤ (if neg = true then 1 else 0) + (decN n).length := by
  unfold decZ signed
  cases neg with
  | false => rw [if_neg (by simp), if_neg (by simp)]; simp
  | true =>
    simp only [if_true]
    by_cases h : -(n : Int) < 0
    · rw [if_pos h]; simp; omega
    · rw [if_neg h]; simp

theorem gapS_txt (out : List Tok) (c : Nat) : txtS (gapS out c).2 ≤ 1 := by
  unfold gapS
  split
  · simp [txtS]
  · split
    · simp [txtS]
    · split
      · simp [txtS]
      · split
        · rename_i h
          unfold isDigit at h
          show 0 + (decN (c - 48)).length ≤ 1
          rw [decN_small (by omega)]
          simp
        · split <;> simp [txtS]

theorem gapS_out1 (out : List Tok) (c : Nat) : (gapS out c).1 = out := by
  unfold gapS
  repeat' split
  all_goals rfl

theorem step_txt (x : List Tok × TS) (c : Nat) : lenT (stepS x c).1 + txtS (stepS x c).2 ≤ lenT x.1 + txtS x.2 + 1 := by
  obtain ⟨out, st⟩ := x
  cases st with
  | gap => have := gapS_txt out c; have e := gapS_out1 out c; rw [show stepS (out, .gap) c = gapS out c from rfl, e]; show lenT out + _ ≤ lenT out + 0 + 1; omega
  | note => rw [stepS]; split <;> simp [txtS]
  | word w =>
    have et : txtS (.word w) = w.length := rfl
    rw [stepS]
    split
    · show lenT out + (w ++ [c]).length ≤ lenT out + txtS (.word w) + 1
      rw [List.length_append, et, List.length_singleton]
      omega
    · split
      · show lenT (out ++ [⟨3, w, 0⟩]) + 0 ≤ lenT out + txtS (.word w) + 1
        rw [lenT_snoc, et, show textOf ⟨3, w, 0⟩ = w ++ [58] from rfl, List.length_append, List.length_singleton]
        omega
      · have := gapS_txt (out ++ [⟨1, w, 0⟩]) c
        rw [gapS_out1, lenT_snoc, show textOf ⟨1, w, 0⟩ = w from rfl]
        show _ ≤ lenT out + txtS (.word w) + 1
        rw [et]
        omega
  | minus =>
    rw [stepS]
    split
    · rename_i h
      unfold isDigit at h
      show lenT out + (1 + (decN (c - 48)).length) ≤ lenT out + 1 + 1
      rw [decN_small (by omega)]
      simp
    · show lenT out + 0 ≤ lenT out + 1 + 1
      omega
  | num neg n =>
    have et : txtS (.num neg n) = (if neg = true then 1 else 0) + (decN n).length := rfl
    rw [stepS]
    split
    · rename_i h
      unfold isDigit at h
      split
      · show lenT out + 0 ≤ lenT out + txtS (.num neg n) + 1
        omega
      · show lenT out + ((if neg = true then 1 else 0) + (decN (10 * n + (c - 48))).length) ≤ lenT out + txtS (.num neg n) + 1
        have := decN_step n (c - 48) (by omega)
        rw [et]
        omega
    · have := gapS_txt (out ++ [⟨2, [], signed neg n⟩]) c
      have h2 := decZ_len neg n
      rw [gapS_out1, lenT_snoc, show textOf ⟨2, [], signed neg n⟩ = decZ (signed neg n) from rfl]
      show _ ≤ lenT out + txtS (.num neg n) + 1
      rw [et]
      omega
  | err => show lenT out + 0 ≤ lenT out + 0 + 1; omega

theorem fold_txt : ∀ (l : List Nat) (x : List Tok × TS), lenT (foldS x l).1 + txtS (foldS x l).2 ≤ lenT x.1 + txtS x.2 + l.length
  | [], x => by simp [foldS_nil]
  | c :: l, x => by
    rw [foldS_cons]
    have h1 := fold_txt l (stepS x c)
    have h2 := step_txt x c
    rw [List.length_cons]
    omega

theorem split_txt {l : List Nat} {o : List Tok} (h : splitN l = some o) : lenT o ≤ l.length := by
  have h2 := fold_txt l ([], .gap)
  have e1 : lenT [] = 0 := rfl
  have e2 : txtS .gap = 0 := rfl
  rw [e1, e2] at h2
  unfold splitN at h
  generalize foldS ([], .gap) l = x at *
  obtain ⟨out, st⟩ := x
  simp only at h2
  cases st with
  | gap => injection h with h; subst h; omega
  | note => injection h with h; subst h; omega
  | word wd =>
    injection h with h
    subst h
    have et : txtS (.word wd) = wd.length := rfl
    rw [et] at h2
    rw [lenT_snoc, show textOf ⟨1, wd, 0⟩ = wd from rfl]
    omega
  | minus => cases h
  | num neg n =>
    injection h with h
    subst h
    have et : txtS (.num neg n) = (if neg = true then 1 else 0) + (decN n).length := rfl
    have h3 := decZ_len neg n
    rw [et] at h2
    rw [lenT_snoc, show textOf ⟨2, [], signed neg n⟩ = decZ (signed neg n) from rfl]
    omega
  | err => cases h

theorem again_len (b : Nat) : ∀ o : List Tok, (o.flatMap fun t => textOf t ++ [b]).length = lenT o + o.length
  | [] => rfl
  | t :: o => by
    have := again_len b o
    have e : lenT (t :: o) = (textOf t).length + lenT o := by simp [lenT]
    rw [List.flatMap_cons, List.length_append, this, List.length_append, List.length_singleton, e, List.length_cons]
    omega

end Go.Proofs.Ytncpnfcdoegpcaa
