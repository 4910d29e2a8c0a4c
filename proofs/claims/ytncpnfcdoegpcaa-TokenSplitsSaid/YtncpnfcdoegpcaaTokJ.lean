/-
  TokenJoins, walked: true for texts of at most 2^47 bytes each.
-/
import Derived.Test.YtncpnfcdoegpcaaTokKd
import Derived.Test.YtncpnfcdoegpcaaAppSl
namespace Go.Proofs.Ytncpnfcdoegpcaa
open Go.RowKit

theorem toksV_one (l : List Tok) : ∀ u ∈ toksV l, u.oneCell' = true := by
  intro u hu
  obtain ⟨t, _, ht⟩ := List.mem_flatMap.1 hu
  simp only [tokV, List.mem_cons, List.not_mem_nil, or_false] at ht
  rcases ht with rfl | rfl | rfl <;> rfl

theorem Toks.below {w w' : World} {A : Option Addr} {c : Nat} {l : List Tok} (h : Toks w A c l) (hb : Below w.heap.size w w') : Toks w' A c l := Sl.below h hb

theorem sameN (l : List Tok) (N : Nat) (hN : l.length = N) (A : Option Addr) (c : Nat) (B : Option Addr) (d : Nat) (w : World) (h1 : Toks w A c l) (h2 : Toks w B d l) (hn : l.length ≤ 1099511627776) :
    Calls Try.prog 10 #[.slice A N c, .slice B N d] w fun e w' => e = .returned (.bool true) ∧ Below w.heap.size w w' := by
  subst hN
  exact sameT l A c B d w h1 h2 hn

theorem toksV_append (l m : List Tok) : toksV (l ++ m) = toksV l ++ toksV m := by simp [toksV]

theorem notin_step {s : ByteArray} {x i : Nat} (h : ∀ b ∈ (bL s).take i, b ≠ x) (hi : i < s.size) (hx : (s[i]'hi).toNat ≠ x) : ∀ b ∈ (bL s).take (i + 1), b ≠ x := by
  rw [bL_take s i hi]
  intro b hb
  rcases List.mem_append.1 hb with hb | hb
  · exact h b hb
  · rw [List.mem_singleton.1 hb]; exact hx

theorem notin_all {s : ByteArray} {x i : Nat} (h : ∀ b ∈ (bL s).take i, b ≠ x) (hi : ¬ i < s.size) : x ∉ bL s := by
  rw [List.take_of_length_le (by rw [bL_length]; omega)] at h
  exact fun hx => h x hx rfl

theorem join1_bL (s t : ByteArray) : bL (s ++ ⟨#[32]⟩ ++ t) = bL s ++ 32 :: bL t := by rw [bL_append, bL_append, List.append_assoc]; rfl
theorem join2_bL (s t n : ByteArray) : bL (s ++ ⟨#[32, 35]⟩ ++ n ++ ⟨#[10]⟩ ++ t) = bL s ++ 32 :: 35 :: (bL n ++ 10 :: bL t) := by
  rw [bL_append, bL_append, bL_append, bL_append, List.append_assoc, List.append_assoc, List.append_assoc]; rfl

set_option maxHeartbeats 8000000 in
theorem tokenJoins_walk (s t n : ByteArray) (w : World) (h1 : s.size ≤ 140737488351232) (h2 : t.size ≤ 140737488351232) (h3 : n.size ≤ 140737488351232) :
    Calls Try.prog 4 #[.string s, .string t, .string n] w fun e w' => e = .returned (.bool true) ∧ Below w.heap.size w w' := by
  obtain ⟨i0, hi0, hz0, hz1, hz2⟩ := infoTok
  by_cases hs : s.size + t.size + n.size ≤ 3000
  · have d1 : ¬ (3000 : Int) < (s.size : Int) + (t.size : Int) + (n.size : Int) := by omega
    have q1 : s.size ≤ 3000 := by omega
    have q2 : t.size ≤ 3000 := by omega
    have q3 : n.size ≤ 3000 := by omega
    go_enter Try.func4, Try.ntmps4
    go_wp2
    go_loopw [7] (fun cc wr => ∃ i : Nat, i ≤ s.size ∧ cc = .int .i64 i ∧ wr = w ∧ Hid (∀ b ∈ (bL s).take i, b ≠ 35)) (fun cc _ => s.size - (intOf cc).toNat)
    case atStart => exact ⟨0, Nat.zero_le _, rfl, rfl, Lib.hid (by simp)⟩
    case round =>
      obtain ⟨i, hi, rfl, rfl, hH⟩ := hrel
      by_cases hlt : i < s.size
      · have e1 : (i : Int) < (s.size : Int) := by omega
        by_cases hx : (s[i]'hlt).toNat = 35
        · have e2 : (((s[i]'hlt).toNat : Int) == 35) = true := by simp; omega
          go_wp2_with (go_at_call 7; go_must ((with_reducible refine (awake4 _).mono ?_); rintro e w2 ⟨rfl, hb2⟩))
          go_ret
          exact ⟨rfl, hb2⟩
        · have e2 : (((s[i]'hlt).toNat : Int) == 35) = false := by simp; omega
          go_wp2
          go_roundw
          case rel => exact ⟨i + 1, by omega, by go_num, trivial, Lib.hid (notin_step hH.out hlt hx)⟩
          case measure => simp [intOf]; omega
      · have hH35 : Hid (35 ∉ bL s) := Lib.hid (notin_all hH.out hlt)
        clear hH
        go_wp2
        go_loopw [8] (fun cc w2 => ∃ k : Nat, k ≤ n.size ∧ cc = .int .i64 k ∧ w2 = wr ∧ Hid (∀ b ∈ (bL n).take k, b ≠ 10)) (fun cc _ => n.size - (intOf cc).toNat)
        case atStart => exact ⟨0, Nat.zero_le _, rfl, rfl, Lib.hid (by simp)⟩
        case round =>
          obtain ⟨k, hk, rfl, rfl, hH⟩ := hrel
          by_cases hkl : k < n.size
          · have e1 : (k : Int) < (n.size : Int) := by omega
            by_cases hx : (n[k]'hkl).toNat = 10
            · have e2 : (((n[k]'hkl).toNat : Int) == 10) = true := by simp; omega
              go_wp2_with (go_at_call 7; go_must ((with_reducible refine (awake4 _).mono ?_); rintro e w2 ⟨rfl, hb2⟩))
              go_ret
              exact ⟨rfl, hb2⟩
            · have e2 : (((n[k]'hkl).toNat : Int) == 10) = false := by simp; omega
              go_wp2
              go_roundw
              case rel => exact ⟨k + 1, by omega, by go_num, trivial, Lib.hid (notin_step hH.out hkl hx)⟩
              case measure => simp [intOf]; omega
          · have hH10 : Hid (10 ∉ bL n) := Lib.hid (notin_all hH.out hkl)
            have z1 : (s ++ ⟨#[32]⟩ ++ t).size ≤ 4000 := by rw [← bL_length, join1_bL]; simp only [List.length_append, List.length_cons, bL_length]; omega
            have z2 : (s ++ ⟨#[32, 35]⟩ ++ n ++ ⟨#[10]⟩ ++ t).size ≤ 4000 := by rw [← bL_length, join2_bL]; simp only [List.length_append, List.length_cons, bL_length]; omega
            have j1 := split_join (bL s) (bL t) 32 (.inl rfl) hH35.out
            have j2 := split_noted (bL s) (bL t) (bL n) hH35.out hH10.out
            rw [← join1_bL] at j1
            rw [← join2_bL] at j2
            cases hA : splitN (bL s) with
            | none =>
              rw [hA, Option.bind_none] at j1 j2
              have cA := Lib.hid (fun W => split_no s W (by omega) hA)
              have cC := Lib.hid (fun W => split_no _ W z1 j1)
              have cD := Lib.hid (fun W => split_no _ W z2 j2)
              cases hB : splitN (bL t) with
              | none =>
                have cB := Lib.hid (fun W => split_no t W (by omega) hB)
                clear hA hB j1 j2 z1 z2 hH35 hH10
                go_wp2_with (first
                  | (go_at_call 8; with_reducible refine (cA.out _).mono ?_; rintro e w1 ⟨rfl, hb1⟩)
                  | (go_at_call 8; with_reducible refine (cB.out _).mono ?_; rintro e w2 ⟨rfl, hb2⟩)
                  | (go_at_call 8; with_reducible refine (cC.out _).mono ?_; rintro e w3 ⟨rfl, hb3⟩)
                  | (go_at_call 8; with_reducible refine (cD.out _).mono ?_; rintro e w4 ⟨rfl, hb4⟩)
                  | (go_at_call 7; go_must ((with_reducible refine (awake4 _).mono ?_); rintro e w5 ⟨rfl, hb5⟩)))
                go_ret
                exact ⟨rfl, bnext (bnext (bnext hb1 hb2) (bnext hb3 hb4)) hb5⟩
              | some b =>
                have cB := Lib.hid (fun W => split_yes t b W (by omega) hB)
                clear hA hB j1 j2 z1 z2 hH35 hH10
                go_wp2_with (first
                  | (go_at_call 8; with_reducible refine (cA.out _).mono ?_; rintro e w1 ⟨rfl, hb1⟩)
                  | (go_at_call 8; with_reducible refine (cB.out _).mono ?_; rintro e w2 ⟨v2, rfl, ho2, hb2⟩)
                  | (go_at_call 8; with_reducible refine (cC.out _).mono ?_; rintro e w3 ⟨rfl, hb3⟩)
                  | (go_at_call 8; with_reducible refine (cD.out _).mono ?_; rintro e w4 ⟨rfl, hb4⟩)
                  | (go_at_call 7; go_must ((with_reducible refine (awake4 _).mono ?_); rintro e w5 ⟨rfl, hb5⟩)))
                go_ret
                exact ⟨rfl, bnext (bnext (bnext hb1 hb2) (bnext hb3 hb4)) hb5⟩
            | some a =>
              have cA := Lib.hid (fun W => split_yes s a W (by omega) hA)
              cases hB : splitN (bL t) with
              | none =>
                rw [hA, hB, Option.bind_some, Option.map_none] at j1 j2
                have cC := Lib.hid (fun W => split_no _ W z1 j1)
                have cD := Lib.hid (fun W => split_no _ W z2 j2)
                have cB := Lib.hid (fun W => split_no t W (by omega) hB)
                clear hA hB j1 j2 z1 z2 hH35 hH10
                go_wp2_with (first
                  | (go_at_call 8; with_reducible refine (cA.out _).mono ?_; rintro e w1 ⟨v1, rfl, ho1, hb1⟩)
                  | (go_at_call 8; with_reducible refine (cB.out _).mono ?_; rintro e w2 ⟨rfl, hb2⟩)
                  | (go_at_call 8; with_reducible refine (cC.out _).mono ?_; rintro e w3 ⟨rfl, hb3⟩)
                  | (go_at_call 8; with_reducible refine (cD.out _).mono ?_; rintro e w4 ⟨rfl, hb4⟩)
                  | (go_at_call 7; go_must ((with_reducible refine (awake4 _).mono ?_); rintro e w5 ⟨rfl, hb5⟩)))
                go_ret
                exact ⟨rfl, bnext (bnext (bnext hb1 hb2) (bnext hb3 hb4)) hb5⟩
              | some b =>
                rw [hA, hB, Option.bind_some, Option.map_some] at j1 j2
                have cC := Lib.hid (fun W => split_yes _ (a ++ b) W z1 j1)
                have cD := Lib.hid (fun W => split_yes _ (a ++ b) W z2 j2)
                have cB := Lib.hid (fun W => split_yes t b W (by omega) hB)
                have la : a.length ≤ 3000 := by have := split_len hA; rw [bL_length] at this; omega
                have lb : b.length ≤ 3000 := by have := split_len hB; rw [bL_length] at this; omega
                clear hA hB j1 j2 z1 z2 hH35 hH10
                go_wp2_with (first
                  | (go_at_call 8; with_reducible refine (cA.out _).mono ?_; rintro e w1 ⟨v1, rfl, ho1, hb1⟩)
                  | (go_at_call 8; with_reducible refine (cB.out _).mono ?_; rintro e w2 ⟨v2, rfl, ho2, hb2⟩)
                  | (go_at_call 8; with_reducible refine (cC.out _).mono ?_; rintro e w3 ⟨v3, rfl, ho3, hb3⟩)
                  | (go_at_call 8; with_reducible refine (cD.out _).mono ?_; rintro e w4 ⟨v4, rfl, ho4, hb4⟩; obtain ⟨A1, c1, rfl, t1⟩ := Toks.own (own_below (own_below (own_below ho1 hb2) hb3) hb4); obtain ⟨A2, c2, rfl, t2⟩ := Toks.own (own_below (own_below ho2 hb3) hb4); obtain ⟨A3, c3, rfl, t3⟩ := Toks.own (own_below ho3 hb4); obtain ⟨A4, c4, rfl, t4⟩ := Toks.own ho4; have T1 := Lib.hid t1; have T2 := Lib.hid t2; have T3 := Lib.hid t3; have T4 := Lib.hid t4; clear t1 t2 t3 t4 ho1 ho2 ho3 ho4)
                  | (at_builtin; clear hmark; go_must (refine append_sl rfl (.tmp 96) (.tmp 97) _ rfl w4.heap.size 31 i0 _ 3 32 Try.underlying23 hi0 hz0 hz1 hz2 rfl (by decide) va (0 + a.length) ([] ++ toksV a) rfl howna.out A2 b.length c2 (toksV b) rfl (T2.out.below hba) (toksV_one b) (by unfold maxLen; omega) (by omega) hba.size ?_; intro vb wb hownb hgrb; have hbb : Below w4.heap.size w4 wb := hba.grown hgrb hba.size (fun k hk => own_ge howna.out hk); obtain ⟨Ab, cb, rfl, tb⟩ := Toks.own (l := a ++ b) (by rw [toksV_append, List.length_append]; simpa using hownb); have TB := Lib.hid tb; clear tb hownb hgrb))
                  | (at_builtin; go_must (refine append_sl rfl (.tmp 94) (.tmp 95) _ rfl w4.heap.size 31 i0 _ 3 32 Try.underlying23 hi0 hz0 hz1 hz2 rfl (by decide) _ 0 [] rfl ⟨rfl, .inr ⟨w4.heap.size, 0, #[], rfl, Nat.le_refl _, heap_alloc_new w4 _, Nat.zero_le _, Nat.zero_le _, rfl, rfl⟩⟩ A1 a.length c1 (toksV a) rfl (T1.out.alloc _) (toksV_one a) (by unfold maxLen; omega) (by omega) (by rw [World.size_alloc]; omega) ?_; intro va wa hownA hgra; have hba : Below w4.heap.size w4 wa := ((Below.refl _ _).alloc (Nat.le_refl _) _).grown hgra (by rw [World.size_alloc]; omega) (fun k hk => by have hk : some w4.heap.size = some k := hk; injection hk with hk; omega); have howna := Lib.hid hownA; have hmark : True := trivial; clear hownA hgra))
                  | (go_at_call 10; clear hsame; go_must ((with_reducible refine (sameN (a ++ b) (a.length + b.length) List.length_append A4 c4 Ab cb w6 (T4.out.below (bnext (bnext hbb hb5) hb6)) (TB.out.below (bnext hb5 hb6)) (by rw [List.length_append]; omega)).mono ?_); rintro e w7 ⟨rfl, hb7⟩))
                  | (go_at_call 10; go_must ((with_reducible refine (sameN (a ++ b) (a.length + b.length) List.length_append A3 c3 Ab cb w5 (T3.out.below (bnext hbb hb5)) (TB.out.below hb5) (by rw [List.length_append]; omega)).mono ?_); rintro e w6 ⟨rfl, hb6⟩; have hsame : True := trivial))
                  | (go_at_call 7; go_must ((with_reducible refine (awake4 _).mono ?_); rintro e w5 ⟨rfl, hb5⟩)))
                go_ret
                exact ⟨rfl, bnext (bnext (bnext (bnext hb1 hb2) (bnext hb3 hb4)) hbb) (bnext hb5 (bnext hb6 hb7))⟩
  · have d1 : (3000 : Int) < (s.size : Int) + (t.size : Int) + (n.size : Int) := by omega
    go_enter Try.func4, Try.ntmps4
    go_wp2_with (go_at_call 7; go_must ((with_reducible refine (awake4 _).mono ?_); rintro e w2 ⟨rfl, hb2⟩))
    go_ret
    exact ⟨rfl, hb2⟩

end Go.Proofs.Ytncpnfcdoegpcaa
