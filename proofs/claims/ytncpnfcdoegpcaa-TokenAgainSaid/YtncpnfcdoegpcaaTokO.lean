/-
  TokenAgain, walked: true for every text and blank.
-/
import Derived.Test.YtncpnfcdoegpcaaTokN
import Derived.Test.YtncpnfcdoegpcaaTokJ
namespace Go.Proofs.Ytncpnfcdoegpcaa
open Go.RowKit

/-- the blanks between. -/
def blankOf (u : Int) : Nat := if u % 3 = 0 then 32 else if u % 3 = 1 then 10 else 9
theorem blankOf_blank (u : Int) : isBlank (blankOf u) := by
  unfold blankOf isBlank
  split
  · omega
  · split <;> omega

theorem cut_blank (u : Int) : (⟨#[32, 10, 9]⟩ : ByteArray).extract (u % 3).toNat (u % 3 + 1).toNat = strL [blankOf u] := by
  unfold blankOf
  rcases (show u % 3 = 0 ∨ u % 3 = 1 ∨ u % 3 = 2 by omega) with h | h | h <;> rw [h] <;> rfl

theorem decN_lt (n : Nat) : ∀ c ∈ decN n, c < 256 := by
  induction n using Nat.strongRecOn with
  | ind n ih =>
    intro c hc
    by_cases h : n < 10
    · rw [decN_small h, List.mem_singleton] at hc; omega
    · rw [decN_large h, List.mem_append, List.mem_singleton] at hc
      rcases hc with hc | hc
      · exact ih (n / 10) (by omega) c hc
      · omega

theorem text_lt {t : Tok} (ht : okTok t) : ∀ c ∈ textOf t, c < 256 := by
  obtain ⟨k, w, n⟩ := t
  intro c hc
  rcases ht with ⟨h1, h2, h3, h4⟩ | ⟨h1, h2, h3, h4⟩
  · simp only at h1
    subst h1
    rw [show textOf ⟨2, w, n⟩ = decZ n from rfl, decZ] at hc
    split at hc
    · rcases List.mem_cons.1 hc with rfl | hc
      · decide
      · exact decN_lt _ c hc
    · exact decN_lt _ c hc
  · simp only at h1 h3
    rcases h1 with rfl | rfl
    · have := h3 c hc
      unfold isLetter at this
      omega
    · rw [show textOf ⟨3, w, n⟩ = w ++ [58] from rfl, List.mem_append, List.mem_singleton] at hc
      rcases hc with hc | rfl
      · have := h3 c hc
        unfold isLetter at this
        omega
      · decide

theorem texts_lt {b : Nat} (hb : isBlank b) {o : List Tok} (h : ∀ t ∈ o, okTok t) : ∀ c ∈ o.flatMap (fun t => textOf t ++ [b]), c < 256 := by
  intro c hc
  obtain ⟨t, ht, hc⟩ := List.mem_flatMap.1 hc
  rcases List.mem_append.1 hc with hc | hc
  · exact text_lt (h t ht) c hc
  · rw [List.mem_singleton.1 hc]
    unfold isBlank at hb
    omega

def againN (b : Nat) (o : List Tok) (i : Nat) : List Nat := (o.take i).flatMap fun t => textOf t ++ [b]
theorem again_succ (b : Nat) (o : List Tok) (i : Nat) (t : Tok) (h : o[i]? = some t) : againN b o (i + 1) = againN b o i ++ textOf t ++ [b] := by
  unfold againN
  rw [List.take_add_one, h, List.flatMap_append]
  simp
theorem again_all (b : Nat) (o : List Tok) (i : Nat) (h : o.length ≤ i) : againN b o i = o.flatMap fun t => textOf t ++ [b] := by
  unfold againN
  rw [List.take_of_length_le h]
theorem again_le (b : Nat) (o : List Tok) (i : Nat) : (againN b o i).length ≤ lenT o + o.length := by
  rw [← again_len b o]
  have h := List.take_append_drop i o
  conv => rhs; rw [← h, List.flatMap_append, List.length_append]
  exact Nat.le_add_right _ _

set_option maxHeartbeats 8000000 in
theorem tokenAgain_walk (s : ByteArray) (u : Int) (w : World) (hu : 0 ≤ u ∧ u ≤ 255) :
    Calls Try.prog 6 #[.string s, .int .u8 u] w fun e w' => e = .returned (.bool true) ∧ Below w.heap.size w w' := by
  by_cases hs : s.size ≤ 1000
  · have d1 : ¬ (1000 : Int) < (s.size : Int) := by omega
    cases hr : splitN (bL s) with
    | none =>
      have c1 := Lib.hid (split_no s w (by omega) hr)
      clear hr
      go_enter Try.func6, Try.ntmps6
      go_wp2_with (first
        | (go_at_call 8; go_must ((with_reducible refine c1.out.mono ?_); rintro e w1 ⟨rfl, hb1⟩))
        | (go_at_call 7; go_must ((with_reducible refine (awake4 _).mono ?_); rintro e w2 ⟨rfl, hb2⟩)))
      go_ret
      exact ⟨rfl, bnext hb1 hb2⟩
    | some o =>
      have c1 := Lib.hid (split_yes s o w (by omega) hr)
      have hok : Hid (∀ t ∈ o, okTok t) := Lib.hid (split_ok hr)
      have hN : o.length ≤ 1000 := by have := split_len hr; rw [bL_length] at this; omega
      have hT : lenT o ≤ 1000 := by have := split_txt hr; rw [bL_length] at this; omega
      have hag : ∀ i, (againN (blankOf u) o i).length ≤ 2000 := fun i => by have := again_le (blankOf u) o i; omega
      have hag' := Lib.hid hag
      have hfin : Hid (splitN (bL (strL (againN (blankOf u) o o.length))) = some o) := Lib.hid (by
        have hb := again_all (blankOf u) o o.length (Nat.le_refl _)
        rw [hb, bL_strL _ (texts_lt (blankOf_blank u) hok.out), split_again (blankOf_blank u) hok.out])
      clear hr hag
      go_enter Try.func6, Try.ntmps6
      go_wp2_with (go_at_call 8; go_must ((with_reducible refine c1.out.mono ?_); rintro e w1 ⟨v1, rfl, ho1, hb1⟩; obtain ⟨A, c, rfl, hT'⟩ := Toks.own ho1; have hTk := Lib.hid hT'; have hle := hT'.2.1; clear hT' ho1))
      go_loopw [7, 8] (fun tt cc wr => ∃ i : Nat, i ≤ o.length ∧ cc = .int .i64 i ∧ tt = .string (strL (againN (blankOf u) o i)) ∧ wr = w1) (fun _ cc _ => o.length - (intOf cc).toNat)
      case atStart => exact ⟨0, Nat.zero_le _, rfl, rfl, rfl⟩
      case round =>
        obtain ⟨i, hi, rfl, rfl, rfl⟩ := hrel
        by_cases hlt : i < o.length
        · obtain ⟨t, ht⟩ := at_of_lt hlt
          obtain ⟨b, off, rfl, hbl, x0, x1, x2⟩ := hTk.out.cellAt ht
          have hsc := Lib.hid (again_succ (blankOf u) o i t ht)
          have hl1 := hag'.out i
          have hl2 := hag'.out (i + 1)
          rw [hsc.out, List.length_append, List.length_append, List.length_singleton] at hl2
          have e0 : (i : Int) < (o.length : Int) := by omega
          have e1 : (i : Int) < (c : Int) := by omega
          have htk := hok.out t (List.mem_of_getElem? ht)
          generalize againN (blankOf u) o i = acc at *
          obtain ⟨kd, wd, n⟩ := t
          rcases htk with ⟨h1, h2, h3, h4⟩ | ⟨h1, h2, h3, h4⟩
          · simp only at h1 h2 h3 h4 x0 x1 x2
            subst h1
            subst h2
            have hd := Lib.hid (digitsZ n h3 h4 wr)
            have y1 := strL_size acc
            have y2 := strL_size (decZ n)
            have y3 : (decZ n).length ≤ 2000 := by have : (textOf ⟨2, [], n⟩).length = (decZ n).length := rfl; omega
            have z1 : ¬ 9223372036854775807 < (strL acc).size + (strL (decZ n)).size := by omega
            have z2 : ¬ 9223372036854775807 < (strL acc).size + (strL (decZ n)).size + (min (u % 3 + 1).toNat 3 - (u % 3).toNat) := by omega
            go_wp2_with (go_at_call 11; go_must ((with_reducible refine hd.out.mono ?_); rintro e w2 ⟨rfl, rfl⟩))
            go_roundw
            case rel => exact ⟨i + 1, by omega, by go_num, by rw [hsc.out, cut_blank, strL_app, strL_app]; rfl, trivial⟩
            case measure => simp [intOf]; omega
          · simp only at h1 h2 h3 h4 x0 x1 x2
            subst h4
            have y1 := strL_size acc
            have y2 := strL_size wd
            rcases h1 with rfl | rfl
            · have y3 : wd.length ≤ 2000 := by have : (textOf ⟨1, wd, 0⟩).length = wd.length := rfl; omega
              have z1 : ¬ 9223372036854775807 < (strL acc).size + (strL wd).size := by omega
              have z2 : ¬ 9223372036854775807 < (strL acc).size + (strL wd).size + (min (u % 3 + 1).toNat 3 - (u % 3).toNat) := by omega
              go_wp2
              go_roundw
              case rel => exact ⟨i + 1, by omega, by go_num, by rw [hsc.out, cut_blank, strL_app, strL_app]; rfl, trivial⟩
              case measure => simp [intOf]; omega
            · have y3 : wd.length ≤ 2000 := by have : (textOf ⟨3, wd, 0⟩).length = wd.length + 1 := (by simp [textOf]); omega
              have z1 : ¬ 9223372036854775807 < (strL acc).size + (strL wd).size := by omega
              have z2 : ¬ 9223372036854775807 < (strL acc).size + (strL wd).size + 1 := by omega
              have z3 : ¬ 9223372036854775807 < (strL acc).size + (strL wd).size + 1 + (min (u % 3 + 1).toNat 3 - (u % 3).toNat) := by omega
              go_wp2
              go_roundw
              case rel => exact ⟨i + 1, by omega, by go_num, by rw [hsc.out, cut_blank, show (⟨#[58]⟩ : ByteArray) = strL [58] from rfl, strL_app, strL_app, strL_app, show textOf ⟨3, wd, 0⟩ = wd ++ [58] from rfl, List.append_assoc acc], trivial⟩
              case measure => simp [intOf]; omega
        · obtain rfl : i = o.length := by omega
          have hsz : (strL (againN (blankOf u) o o.length)).size ≤ 4000 := by rw [strL_size]; have := hag'.out o.length; omega
          have c2 := Lib.hid (split_yes _ o wr hsz hfin.out)
          generalize strL (againN (blankOf u) o o.length) = txt at *
          go_wp2_with (first
            | (go_at_call 8; go_must ((with_reducible refine c2.out.mono ?_); rintro e w2 ⟨v2, rfl, ho2, hb2⟩; obtain ⟨A2, c2', rfl, t2⟩ := Toks.own ho2; have T2 := Lib.hid t2; clear t2 ho2))
            | (go_at_call 7; go_must ((with_reducible refine (awake4 _).mono ?_); rintro e w3 ⟨rfl, hb3⟩))
            | (go_at_call 10; go_must ((with_reducible refine (sameT o A c A2 c2' w3 (hTk.out.below (bnext hb2 hb3)) (T2.out.below hb3) (by omega)).mono ?_); rintro e w4 ⟨rfl, hb4⟩)))
          go_ret
          exact ⟨rfl, bnext hb1 (bnext hb2 (bnext hb3 hb4))⟩
  · have d1 : (1000 : Int) < (s.size : Int) := by omega
    go_enter Try.func6, Try.ntmps6
    go_wp2_with (go_at_call 7; go_must ((with_reducible refine (awake4 _).mono ?_); rintro e w2 ⟨rfl, hb2⟩))
    go_ret
    exact ⟨rfl, hb2⟩

end Go.Proofs.Ytncpnfcdoegpcaa
