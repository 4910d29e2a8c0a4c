/-
  TokenKinds, walked: true for every text.
-/
import Derived.Test.YtncpnfcdoegpcaaTokW
import Derived.Lib.Strings
namespace Go.Proofs.Ytncpnfcdoegpcaa
open Go.RowKit

theorem letter_at {wd : List Nat} (h : ∀ c ∈ wd, isLetter c) {k : Nat} (hk : k < (strL wd).size) : 97 ≤ ((strL wd)[k]'hk).toNat ∧ ((strL wd)[k]'hk).toNat ≤ 122 := by
  have h1 := bL_get (strL wd) k hk
  rw [bL_strL wd (fun b hb => by have := h b hb; unfold isLetter at this; omega)] at h1
  exact h _ (List.mem_of_getElem? h1)

theorem toList_no {s : ByteArray} (h : 0 < s.size) : s.toList.isEmpty = false := by
  cases hq : s.toList.isEmpty with
  | false => rfl
  | true =>
    rw [Lib.toList_data] at hq
    rw [List.isEmpty_iff] at hq
    have := congrArg List.length hq
    rw [Array.length_toList] at this
    have h' : 0 < s.data.size := h
    simp only [List.length_nil] at this
    omega

/-! ### no word is longer than the text -/
def wordsLe (N : Nat) (x : List Tok × TS) : Prop := (∀ t ∈ x.1, t.word.length ≤ N) ∧ wordLen x.2 ≤ N

theorem snocLe {N : Nat} {out : List Tok} {t : Tok} (h : ∀ t ∈ out, t.word.length ≤ N) (ht : t.word.length ≤ N) : ∀ u ∈ out ++ [t], u.word.length ≤ N := by
  intro u hu
  rcases List.mem_append.1 hu with hu | hu
  · exact h u hu
  · rw [List.mem_singleton.1 hu]; exact ht

theorem gapS_out (out : List Tok) (c : Nat) : (gapS out c).1 = out := by
  unfold gapS
  repeat' split
  all_goals rfl

theorem gapS_le {N : Nat} {out : List Tok} (h : ∀ t ∈ out, t.word.length ≤ N) (c : Nat) : wordsLe (N + 1) (gapS out c) :=
  ⟨by rw [gapS_out]; intro t ht; have := h t ht; omega, by have := (gapS_len out c).2; omega⟩

theorem step_le {N : Nat} {x : List Tok × TS} (h : wordsLe N x) (c : Nat) : wordsLe (N + 1) (stepS x c) := by
  refine ⟨?_, by have := (step_len x c).2; have := h.2; omega⟩
  obtain ⟨out, st⟩ := x
  obtain ⟨h1, h2⟩ := h
  have h1' : ∀ t ∈ out, t.word.length ≤ N + 1 := fun t ht => by have := h1 t ht; omega
  cases st with
  | gap => exact (gapS_le h1 c).1
  | note => rw [stepS]; split <;> exact h1'
  | word wd =>
    have hw : wd.length ≤ N := h2
    rw [stepS]
    split
    · exact h1'
    · split
      · exact snocLe h1' (by simp only; omega)
      · rw [gapS_out]; exact snocLe h1' (by simp only; omega)
  | minus => rw [stepS]; split <;> exact h1'
  | num neg n =>
    rw [stepS]
    split
    · split <;> exact h1'
    · rw [gapS_out]; exact snocLe h1' (by simp)
  | err => exact h1'

theorem fold_le : ∀ (l : List Nat) (N : Nat) (x : List Tok × TS), wordsLe N x → wordsLe (N + l.length) (foldS x l)
  | [], _, _, h => h
  | c :: l, N, x, h => by
    have := fold_le l (N + 1) (stepS x c) (step_le h c)
    rw [foldS_cons, List.length_cons]
    rwa [Nat.add_right_comm, Nat.add_assoc] at this

theorem split_words {l : List Nat} {o : List Tok} (h : splitN l = some o) : ∀ t ∈ o, t.word.length ≤ l.length := by
  have h1 := fold_le l 0 ([], .gap) ⟨by simp, by simp [wordLen]⟩
  rw [Nat.zero_add] at h1
  unfold splitN at h
  obtain ⟨h1, h2⟩ := h1
  generalize foldS ([], .gap) l = x at *
  obtain ⟨out, st⟩ := x
  cases st with
  | gap => injection h with h; subst h; exact h1
  | note => injection h with h; subst h; exact h1
  | word wd => injection h with h; subst h; exact snocLe h1 h2
  | minus => cases h
  | num neg n => injection h with h; subst h; exact snocLe h1 (by simp)
  | err => cases h

set_option maxHeartbeats 4000000 in
theorem tokenKinds_walk (s : ByteArray) (w : World) (hS : s.size ≤ 9223372036854775807) :
    Calls Try.prog 5 #[.string s] w fun e w' => e = .returned (.bool true) ∧ Below w.heap.size w w' := by
  by_cases hs : s.size ≤ 3000
  · have d1 : ¬ (3000 : Int) < (s.size : Int) := by omega
    cases hr : splitN (bL s) with
    | none =>
      have c1 := Lib.hid (split_no s w (by omega) hr)
      clear hr
      go_enter Try.func5, Try.ntmps5
      go_wp2_with (first
        | (go_at_call 8; go_must ((with_reducible refine c1.out.mono ?_); rintro e w1 ⟨rfl, hb1⟩))
        | (go_at_call 7; go_must ((with_reducible refine (awake4 _).mono ?_); rintro e w2 ⟨rfl, hb2⟩)))
      go_ret
      exact ⟨rfl, bnext hb1 hb2⟩
    | some o =>
      have c1 := Lib.hid (split_yes s o w (by omega) hr)
      have hok : Hid (∀ t ∈ o, okTok t ∧ t.word.length ≤ 3000) := Lib.hid (fun t ht => ⟨split_ok hr t ht, by have := split_words hr t ht; rw [bL_length] at this; omega⟩)
      have hN : o.length ≤ 3000 := by have := split_len hr; rw [bL_length] at this; omega
      clear hr
      go_enter Try.func5, Try.ntmps5
      go_wp2_with (go_at_call 8; go_must ((with_reducible refine c1.out.mono ?_); rintro e w1 ⟨v1, rfl, ho1, hb1⟩; obtain ⟨A, c, rfl, hT'⟩ := Toks.own ho1; have hT := Lib.hid hT'; have hle := hT'.2.1; clear hT' ho1))
      have hcl : Hid (∀ i, i < o.length → ∃ t b off, (okTok t ∧ t.word.length ≤ 3000) ∧ A = some ⟨b, off, none⟩ ∧ b < w1.heap.size ∧ w1.cell? ⟨b, off + i * 3, none⟩ = some (.int .i64 (t.kind : Nat)) ∧ w1.cell? ⟨b, off + i * 3 + 1, none⟩ = some (.string (strL t.word)) ∧ w1.cell? ⟨b, off + i * 3 + 2, none⟩ = some (.int .i64 t.n)) := Lib.hid fun i hi => by
        obtain ⟨t, ht⟩ := at_of_lt hi
        obtain ⟨b, off, h⟩ := hT.out.cellAt ht
        exact ⟨t, b, off, hok.out t (List.mem_of_getElem? ht), h⟩
      clear hT hok c1
      generalize o.length = N at *
      go_loopw [5] (fun cc wr => ∃ i : Nat, i ≤ N ∧ cc = .int .i64 i ∧ Below w1.heap.size w1 wr) (fun cc _ => N - (intOf cc).toNat)
      case atStart => exact ⟨0, Nat.zero_le _, rfl, Below.refl _ _⟩
      case round =>
        obtain ⟨i, hi, rfl, hb⟩ := hrel
        by_cases hlt : i < N
        · obtain ⟨t, b, off, ⟨ht, hwl⟩, rfl, hbl, x0', x1', x2'⟩ := hcl.out i hlt
          have x0 := (bcells hb b (off + i * 3) hbl).trans x0'
          have x1 := (bcells hb b (off + i * 3 + 1) hbl).trans x1'
          have x2 := (bcells hb b (off + i * 3 + 2) hbl).trans x2'
          have e0 : (i : Int) < (N : Int) := by omega
          have e1 : (i : Int) < (c : Int) := by omega
          have hbw : b < wr.heap.size := Nat.lt_of_lt_of_le hbl hb.size
          clear x0' x1' x2' hcl
          obtain ⟨kd, wd, n⟩ := t
          rcases ht with ⟨h1, h2, h3, h4⟩ | ⟨h1, h2, h3, h4⟩
          · simp only at h1 h2 h3 h4 x0 x1 x2
            subst h1
            subst h2
            have f1 : ¬ (1099511627776 : Int) < n := by omega
            have f2 : ¬ n < (-1099511627776 : Int) := by omega
            have x1'' : wr.cell? ⟨b, off + i * 3 + 1, none⟩ = some (.string ⟨#[]⟩) := x1
            clear x1
            go_wp2
            go_roundw
            case rel => exact ⟨i + 1, by omega, by go_num, hb.alloc hb.size _⟩
            case measure => simp [intOf]; omega
          · simp only at h1 h2 h3 h4 x0 x1 x2 hwl
            subst h4
            have hlet : Hid (∀ k (hk : k < (strL wd).size), 97 ≤ ((strL wd)[k]'hk).toNat ∧ ((strL wd)[k]'hk).toNat ≤ 122) := Lib.hid fun k hk => letter_at h3 hk
            have hsz : (strL wd).size = wd.length := strL_size wd
            have hpos : 0 < wd.length := List.length_pos_iff.2 h2
            rw [← hsz] at hpos hwl
            generalize strL wd = sw at *
            have hne := toList_no hpos
            clear h2 h3 hsz
            rcases h1 with rfl | rfl
            all_goals
              go_wp2
              go_loopw [7] (fun cc w2 => ∃ k : Nat, k ≤ sw.size ∧ cc = .int .i64 k ∧ w2 = wr.alloc (.cells #[.int .i64 _, .string sw, .int .i64 0] 31)) (fun cc _ => sw.size - (intOf cc).toNat)
              case atStart => exact ⟨0, Nat.zero_le _, rfl, rfl⟩
              case round =>
                obtain ⟨k, hk, rfl, rfl⟩ := hrel
                by_cases hkl : k < sw.size
                · obtain ⟨g1, g2⟩ := hlet.out k hkl
                  have e2 : (k : Int) < (sw.size : Int) := by omega
                  go_wp2
                  go_roundw
                  case rel => exact ⟨k + 1, by omega, by go_num, trivial⟩
                  case measure => simp [intOf]; omega
                · go_wp2
                  go_roundw
                  case rel => exact ⟨i + 1, by omega, by go_num, hb.alloc hb.size _⟩
                  case measure => simp [intOf]; omega
        · go_wp2_with (go_at_call 7; go_must ((with_reducible refine (awake4 _).mono ?_); rintro e w2 ⟨rfl, hb2⟩))
          go_ret
          exact ⟨rfl, bnext hb1 (bnext hb hb2)⟩
  · have d1 : (3000 : Int) < (s.size : Int) := by omega
    go_enter Try.func5, Try.ntmps5
    go_wp2_with (go_at_call 7; go_must ((with_reducible refine (awake4 _).mono ?_); rintro e w2 ⟨rfl, hb2⟩))
    go_ret
    exact ⟨rfl, hb2⟩

end Go.Proofs.Ytncpnfcdoegpcaa
