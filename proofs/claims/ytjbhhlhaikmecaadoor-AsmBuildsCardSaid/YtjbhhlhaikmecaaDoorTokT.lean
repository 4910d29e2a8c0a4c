/-
  What the reference's Split answers, in whatever memory, of every text of at most 4000 bytes.
-/
import Derived.Test.YtjbhhlhaikmecaaDoorTokS
namespace Go.Proofs.YtjbhhlhaikmecaaDoor
open Go.RowKit

set_option maxRecDepth 100000 in
set_option maxHeartbeats 4000000 in
theorem rsplitLong (s : ByteArray) (w : World) (hs : 4000 < s.size) :
    Calls Tryd.prog 21 #[.string s] w fun e w' => e = .returned (.tuple #[.slice none 0 0, .int .i64 4]) ∧ w = w' := by
  have d1 : (4000 : Int) < (s.size : Int) := by omega
  go_enter Tryd.func21, Tryd.ntmps21
  go_wp2
  go_ret2
  exact ⟨rfl, rfl⟩

set_option maxRecDepth 100000 in
set_option maxHeartbeats 16000000 in
theorem rsplit_any (s : ByteArray) (w : World) (hs : s.size ≤ 4000) :
    Calls Tryd.prog 21 #[.string s] w (SplitPost (splitN (bL s)) w) := by
  have d1 : ¬ (4000 : Int) < (s.size : Int) := by omega
  obtain ⟨i0, hi0, hz0, hz1, hz2⟩ := infoRune
  obtain ⟨j0, hj0, hy0, hy1, hy2⟩ := infoTok
  obtain ⟨R, hRe⟩ : ∃ R, R = runesN s := ⟨_, rfl⟩
  have hres : Hid (ansS .gap [] R = splitN (bL s)) := Lib.hid (by rw [hRe]; exact split_runes s)
  have hRlen : R.length ≤ 4000 := by rw [hRe]; have := runesAt_length s s.size 0; unfold runesN; omega
  have hRe' : Hid (([] : List Nat) ++ runesAt s s.size 0 = R) := Lib.hid (by rw [hRe]; rfl)
  clear hRe
  generalize splitN (bL s) = RES at *
  go_enter Tryd.func21, Tryd.ntmps21
  go_wp2
  go_loopw [4, 6] (fun l _ wr => ∃ (pos fuel : Nat) (dn : List Nat), wr.heap[w.heap.size]? = some (.stringIter s pos) ∧ wr.ownsRow (w.heap.size + 1) 21 1 l dn.length (i32s dn) ∧ Below w.heap.size w wr ∧ Hid (dn ++ runesAt s fuel pos = R) ∧ s.size ≤ pos + fuel ∧ dn.length + fuel ≤ s.size ∧ w.heap.size + 1 ≤ wr.heap.size) (fun _ _ wr => s.size - wr.iterPos w.heap.size)
  case atStart =>
    refine ⟨0, s.size, [], World.iter_heap w s 0, ⟨rfl, .inl ⟨rfl, rfl⟩⟩, (Below.refl _ _).alloc (Nat.le_refl _) (.stringIter s 0), hRe', by omega, by simp, ?_⟩
    show w.heap.size + 1 ≤ (w.alloc (.stringIter s 0)).heap.size
    rw [World.size_alloc]
    exact Nat.le_refl _
  case round =>
    clear hRe'
    obtain ⟨pos, fuel, dn, hit, hown, hb, HR, hf, hl1, hsz⟩ := hrel
    have hpos0 := Lib.hid (iterPos_of hit)
    by_cases hp : pos < s.size
    · have hnx : ∀ ty, (Instr.next (.pointer (some ⟨w.heap.size, 0, none⟩)) true ty).run Tryd.prog wr = _ := fun ty => Lib.run_next_any_at wr w.heap.size s pos ty hit hp
      have hwd := width_pos s pos hp
      obtain ⟨fuel, rfl⟩ : ∃ f', fuel = f' + 1 := ⟨fuel - 1, by omega⟩
      have hit2 := Lib.hid (Lib.iterAt_heap wr w.heap.size s pos (pos + (Utf8.decode s pos).2) hit)
      have hb2 := Lib.below_iterAt hb (k := w.heap.size) (by omega) s (pos + (Utf8.decode s pos).2)
      have hown2 := Lib.hid (own_iter hown (k := w.heap.size) (by omega) s (pos + (Utf8.decode s pos).2))
      have hs2 : w.heap.size + 1 ≤ (wr.iterAt w.heap.size s (pos + (Utf8.decode s pos).2)).heap.size := by rw [Lib.iterAt_size]; exact hsz
      have HR2 : Hid ((dn ++ [(Utf8.decode s pos).1]) ++ runesAt s fuel (pos + (Utf8.decode s pos).2) = R) := Lib.hid (by
        rw [← HR.out, runesAt, if_pos hp, List.append_assoc]; rfl)
      have hf' : s.size ≤ pos + (Utf8.decode s pos).2 + fuel := by omega
      have hq' : Hid (s.size - (pos + (Utf8.decode s pos).2) < s.size - pos) := Lib.hid (by omega)
      obtain ⟨W1, hW1⟩ : ∃ W1, W1 = wr.iterAt w.heap.size s (pos + (Utf8.decode s pos).2) := ⟨_, rfl⟩
      rw [← hW1] at hnx hit2 hb2 hown2 hs2
      have hne := own_ne hown2.out (g := w.heap.size) (by omega)
      have hnew : Hid (Bk (W1.alloc (.cells #[.int .i32 ((Utf8.decode s pos).1 : Nat)] 21)) W1.heap.size 21 #[.int .i32 ((Utf8.decode s pos).1 : Nat)]) := Lib.hid (Bk.new W1 _ _)
      have hown3 := Lib.hid (hown2.out.alloc (.cells #[.int .i32 ((Utf8.decode s pos).1 : Nat)] 21))
      clear hW1 hit hown hb HR hwd hf
      generalize pos + (Utf8.decode s pos).2 = pos2 at *
      generalize (Utf8.decode s pos).1 = c at *
      go_wp2_with (at_builtin; go_must (refine append_row rfl (.tmp 22) (.tmp 24) _ rfl (w.heap.size + 1) 21 i0 _ 1 4 Tryd.underlying67 hi0 hz0 hz1 hz2 rfl (by decide) _ dn.length (i32s dn) rfl hown3.out W1.heap.size #[.int .i32 (c : Nat)] rfl hnew.out rfl rfl (by unfold maxLen; omega) (by omega) (by rw [World.size_alloc]; omega) ?_; intro gg cap w4 hown4 hgr))
      have hit4 : w4.heap[w.heap.size]? = some (.stringIter s pos2) := (hgr.block w.heap.size (by rw [World.size_alloc]; omega) (Ne.symm hne)).trans ((heap_alloc_old W1 _ (by omega)).trans hit2.out)
      have hb4 : Below w.heap.size w w4 := (hb2.alloc hb2.size _).grown hgr (by rw [World.size_alloc]; omega) (fun k hk => by have := own_ge hown3.out hk; omega)
      have hs4 : w.heap.size + 1 ≤ w4.heap.size := Nat.le_trans (by rw [World.size_alloc]; omega) hgr.size
      go_roundw
      case rel => exact ⟨pos2, fuel, dn ++ [c], hit4, by rw [i32s_snoc, List.length_append]; exact hown4, hb4, HR2, hf', by rw [List.length_append, List.length_singleton]; omega, hs4⟩
      case measure => rw [iterPos_of hit4, hpos0.out]; exact hq'.out
    · have hnx : ∀ ty, (Instr.next (.pointer (some ⟨w.heap.size, 0, none⟩)) true ty).run Tryd.prog wr = _ := fun ty => Lib.run_next_end_at wr w.heap.size s pos ty hit hp
      obtain rfl : dn = R := by have := HR.out; rw [runesAt_end s fuel pos hp, List.append_nil] at this; exact this
      obtain ⟨A, cp, rfl, hsl'⟩ := Sl.own hown
      have hsl := Lib.hid hsl'
      have hle := hsl'.2.1
      clear hsl' hit HR hown hf hl1 hpos0
      generalize hN : dn.length = N at *
      have hb1' := Lib.hid hb
      obtain ⟨w1, rfl⟩ : ∃ w1 : World, w1 = wr := ⟨_, rfl⟩
      clear hb
      go_wp2
      go_loopw [7, 8] (fun out cc wr => ∃ (i : Nat) (l : List Tok), i ≤ N ∧ cc = .int .i64 i ∧ wr.ownsRow w1.heap.size 48 3 out l.length (toksV l) ∧ Below w1.heap.size w1 wr ∧ Hid (ansS .gap l (dn.drop i) = RES) ∧ l.length ≤ i) (fun _ cc _ => N - (intOf cc).toNat)
      case atStart => exact ⟨0, [], Nat.zero_le _, rfl, ⟨rfl, .inl ⟨rfl, rfl⟩⟩, Below.refl _ _, hres, Nat.le_refl _⟩
      case round =>
        clear hres hnx
        obtain ⟨i, l, hi, rfl, hown, hb, HA, hli⟩ := hrel
        by_cases hlt : i < N
        · obtain ⟨b, off, rfl, hbl, hc0⟩ := hsl.out.2.2.2 (by omega)
          have hcl := Lib.hid (runes_at hN hb hbl hc0)
          have hbw : b < wr.heap.size := Nat.lt_of_lt_of_le hbl hb.size
          have e0 : (i : Int) < (N : Int) := by omega
          have e1 : (i : Int) < (cp : Int) := by omega
          obtain ⟨r, hr, hdr, x0⟩ := hcl.out i hlt
          have HA2 : Hid (ansS .gap l (r :: dn.drop (i + 1)) = RES) := Lib.hid (by rw [← hdr]; exact HA.out)
          have hown' := Lib.hid hown
          have hdn : Hid (dn.length = N) := Lib.hid hN
          obtain ⟨wo, rfl⟩ : ∃ wo : World, wo = wr := ⟨_, rfl⟩
          clear hc0 hown HA hsl hr hdr hN
          by_cases hbk : isBlank r
          · have HA3 : Hid (ansS .gap l (dn.drop (i + 1)) = RES) := Lib.hid (by rw [← HA2.out, ans_blank l _ hbk])
            clear HA2
            rcases hbk with rfl | rfl | rfl
            all_goals
              go_wp2
              go_roundw
              case rel => exact ⟨i + 1, l, by omega, by go_num, hown'.out, hb, HA3, by omega⟩
              case measure => simp [intOf]; omega
          have b1 : ((r : Int) == 32) = false := by unfold isBlank at hbk; simp; omega
          have b2 : ((r : Int) == 10) = false := by unfold isBlank at hbk; simp; omega
          have b3 : ((r : Int) == 9) = false := by unfold isBlank at hbk; simp; omega
          by_cases h35 : r = 35
          · subst h35
            have HA3 : Hid (ansS .note l (dn.drop i) = RES) := Lib.hid (by
              obtain ⟨r', -, hd', x'⟩ := hcl.out i hlt
              rw [x0] at x'
              injection x' with x'
              injection x' with _ x'
              obtain rfl : r' = 35 := by omega
              rw [hd', ans_note l _ (by decide), ← HA2.out, ans_hash])
            clear HA2 hbk
            go_wp2
            go_loopw [8] (fun cc w2 => ∃ k : Nat, i ≤ k ∧ k ≤ N ∧ cc = .int .i64 k ∧ w2 = wo ∧ Hid (ansS .note l (dn.drop k) = RES)) (fun cc _ => N - (intOf cc).toNat)
            case atStart => exact ⟨i, Nat.le_refl _, by omega, rfl, rfl, HA3⟩
            case round =>
              clear HA3
              obtain ⟨k, hik, hk, rfl, rfl, HK⟩ := hrel
              by_cases hkl : k < N
              · obtain ⟨r2, hr2, hd2, x2⟩ := hcl.out k hkl
                have f0 : (k : Int) < (N : Int) := by omega
                have f1 : (k : Int) < (cp : Int) := by omega
                by_cases h10 : r2 = 10
                · subst h10
                  have hne : i ≠ k := fun e => by subst e; rw [x0] at x2; injection x2 with x2; injection x2 with _ x2; omega
                  have HK2 : Hid (ansS .gap l (dn.drop k) = RES) := Lib.hid (by rw [← HK.out, ans_noted l _ (fun d q e => by rw [hd2] at e; injection e with e; exact e.symm)])
                  clear HK hr2 hd2
                  go_wp2
                  go_roundw
                  case rel => exact ⟨k, l, by omega, rfl, hown'.out, hb, HK2, by omega⟩
                  case measure => simp [intOf]; omega
                · have g1 : ((r2 : Int) == 10) = false := by simp; omega
                  have HK2 : Hid (ansS .note l (dn.drop (k + 1)) = RES) := Lib.hid (by rw [← HK.out, hd2, ans_note l _ h10])
                  clear HK hr2 hd2
                  go_wp2
                  go_roundw
                  case rel => exact ⟨k + 1, by omega, by omega, by go_num, trivial, HK2⟩
                  case measure => simp [intOf]; omega
              · obtain rfl : k = N := by omega
                have HK2 : Hid (ansS .gap l (dn.drop k) = RES) := Lib.hid (by rw [← HK.out, ans_noted l _ (fun d q e => by rw [drop_out (by rw [hdn.out]; exact Nat.le_refl _)] at e; cases e)])
                clear HK
                go_wp2
                go_roundw
                case rel => exact ⟨k, l, by omega, rfl, hown'.out, hb, HK2, by omega⟩
                case measure => simp [intOf]; omega
          have b4 : ((r : Int) == 35) = false := by simp; omega
          by_cases hl : isLetter r
          · have hlet : Hid (∀ W : World, _) := Lib.hid (fun W => rletter_is r true (decide_eq_true hl) W)
            have HA3 : Hid (ansS (.word []) l (dn.drop i) = RES) := Lib.hid (by
              obtain ⟨r', -, hd', x'⟩ := hcl.out i hlt
              rw [x0] at x'
              injection x' with x'
              injection x' with _ x'
              obtain rfl : r' = r := by omega
              rw [hd', ans_word l [] _ hl, ← HA2.out, ans_letter l _ hl]
              rfl)
            have hl' := Lib.hid hl
            clear HA2 hbk h35 hl
            go_wp2_with (go_at_call 37; go_must ((with_reducible refine (hlet.out _).mono ?_); rintro e w9 ⟨rfl, rfl⟩))
            go_loopw [8, 10] (fun cc wd w2 => ∃ (k : Nat) (word : List Nat), i ≤ k ∧ k ≤ N ∧ cc = .int .i64 k ∧ wd = .string (strL word) ∧ w2 = wo ∧ word.length + i = k ∧ Hid (ansS (.word word) l (dn.drop k) = RES)) (fun cc _ _ => N - (intOf cc).toNat)
            case atStart => exact ⟨i, [], Nat.le_refl _, by omega, rfl, rfl, rfl, by simp, HA3⟩
            case round =>
              clear HA3 hlet
              obtain ⟨k, word, hik, hk, rfl, rfl, hwe, hwl, HK⟩ := hrel
              have hwe' := hwe.symm
              subst hwe'
              clear hwe
              have y1 := strL_size word
              have hT : Hid (∀ t : Tok, t.word = word → Bk ((wo.alloc (.cells (tokV t).toArray 48)).alloc (.cells (tokV t).toArray 48)) (wo.heap.size + 1) 48 (tokV t).toArray) := Lib.hid fun t _ => by
                have := Bk.new (wo.alloc (.cells (tokV t).toArray 48)) 48 (tokV t).toArray
                rw [World.size_alloc] at this
                exact this
              by_cases hkl : k < N
              · obtain ⟨r2, hr2, hd2, x2⟩ := hcl.out k hkl
                have f0 : (k : Int) < (N : Int) := by omega
                have f1 : (k : Int) < (cp : Int) := by omega
                by_cases hl2 : isLetter r2
                · have hlet : Hid (∀ W : World, _) := Lib.hid (fun W => rletter_is r2 true (decide_eq_true hl2) W)
                  have HK2 : Hid (ansS (.word (word ++ [r2])) l (dn.drop (k + 1)) = RES) := Lib.hid (by rw [← HK.out, hd2, ans_word l _ _ hl2])
                  have he := encode_letter r2 hl2
                  have y2 := strL_size [r2]
                  have y3 : ¬ 9223372036854775807 < (strL word).size + (strL [r2]).size := by rw [y1, y2, List.length_singleton]; omega
                  clear HK hr2 hd2 hl2
                  go_wp2_with (go_at_call 37; go_must ((with_reducible refine (hlet.out _).mono ?_); rintro e w9 ⟨rfl, rfl⟩))
                  go_roundw
                  case rel => exact ⟨k + 1, word ++ [r2], by omega, by omega, by go_num, by rw [strL_app], trivial, by rw [List.length_append, List.length_singleton]; omega, HK2⟩
                  case measure => simp [intOf]; omega
                · have hlet : Hid (∀ W : World, _) := Lib.hid (fun W => rletter_is r2 false (decide_eq_false hl2) W)
                  have hne : i ≠ k := fun e => by
                    subst e
                    rw [x0] at x2
                    injection x2 with x2
                    injection x2 with _ x2
                    obtain rfl : r = r2 := by omega
                    exact hl2 hl'.out
                  by_cases h58 : r2 = 58
                  · have HK2 : Hid (ansS .gap (l ++ [⟨3, word, 0⟩]) (dn.drop (k + 1)) = RES) := Lib.hid (by rw [← HK.out, hd2, h58, ans_label])
                    have g1 : ((r2 : Int) == 58) = true := by rw [h58]; rfl
                    clear HK hr2 hd2 hl2 h58
                    go_wp2_with (first
                      | (go_at_call 37; go_must ((with_reducible refine (hlet.out _).mono ?_); rintro e w9 ⟨rfl, rfl⟩))
                      | (at_builtin; go_must (refine append_row rfl (.tmp 102) (.tmp 104) _ rfl w1.heap.size 48 j0 _ 3 32 Tryd.underlying36 hj0 hy0 hy1 hy2 rfl (by decide) _ l.length (toksV l) rfl ((hown'.out.alloc _).alloc _) (wo.heap.size + 1) (tokV ⟨3, word, 0⟩).toArray rfl (hT.out ⟨3, word, 0⟩ rfl) rfl rfl (by unfold maxLen; omega) (by omega) (by rw [World.size_alloc, World.size_alloc]; exact Nat.le_succ_of_le (Nat.le_succ_of_le hb.size)) ?_; intro gg cap w4 hown4 hgr)))
                    have hb4 : Below w1.heap.size w1 w4 := ((hb.alloc hb.size _).alloc (Nat.le_trans hb.size (by rw [World.size_alloc]; omega)) _).grown hgr (Nat.le_trans hb.size (by rw [World.size_alloc, World.size_alloc]; omega)) (fun q hq => own_ge hown'.out hq)
                    go_roundw
                    case rel => exact ⟨k + 1, l ++ [⟨3, word, 0⟩], by omega, by go_num, by rw [toksV_snoc, List.length_append]; exact hown4, hb4, HK2, by rw [List.length_append, List.length_singleton]; omega⟩
                    case measure => simp [intOf]; omega
                  · have g1 : ((r2 : Int) == 58) = false := by simp; omega
                    have HK2 : Hid (ansS .gap (l ++ [⟨1, word, 0⟩]) (dn.drop k) = RES) := Lib.hid (by rw [← HK.out, ans_worded l word _ (fun d q e => by rw [hd2] at e; injection e with e; subst e; exact ⟨hl2, h58⟩)])
                    clear HK hr2 hd2 hl2
                    go_wp2_with (first
                      | (go_at_call 37; go_must ((with_reducible refine (hlet.out _).mono ?_); rintro e w9 ⟨rfl, rfl⟩))
                      | (at_builtin; go_must (refine append_row rfl (.tmp 102) (.tmp 104) _ rfl w1.heap.size 48 j0 _ 3 32 Tryd.underlying36 hj0 hy0 hy1 hy2 rfl (by decide) _ l.length (toksV l) rfl ((hown'.out.alloc _).alloc _) (wo.heap.size + 1) (tokV ⟨1, word, 0⟩).toArray rfl (hT.out ⟨1, word, 0⟩ rfl) rfl rfl (by unfold maxLen; omega) (by omega) (by rw [World.size_alloc, World.size_alloc]; exact Nat.le_succ_of_le (Nat.le_succ_of_le hb.size)) ?_; intro gg cap w4 hown4 hgr)))
                    have hb4 : Below w1.heap.size w1 w4 := ((hb.alloc hb.size _).alloc (Nat.le_trans hb.size (by rw [World.size_alloc]; omega)) _).grown hgr (Nat.le_trans hb.size (by rw [World.size_alloc, World.size_alloc]; omega)) (fun q hq => own_ge hown'.out hq)
                    go_roundw
                    case rel => exact ⟨k, l ++ [⟨1, word, 0⟩], by omega, rfl, by rw [toksV_snoc, List.length_append]; exact hown4, hb4, HK2, by rw [List.length_append, List.length_singleton]; omega⟩
                    case measure => simp [intOf]; omega
              · obtain rfl : k = N := by omega
                have HK2 : Hid (ansS .gap (l ++ [⟨1, word, 0⟩]) (dn.drop k) = RES) := Lib.hid (by rw [← HK.out, ans_worded l word _ (fun d q e => by rw [drop_out (by rw [hdn.out]; exact Nat.le_refl _)] at e; cases e)])
                clear HK
                go_wp2_with (at_builtin; go_must (refine append_row rfl (.tmp 102) (.tmp 104) _ rfl w1.heap.size 48 j0 _ 3 32 Tryd.underlying36 hj0 hy0 hy1 hy2 rfl (by decide) _ l.length (toksV l) rfl ((hown'.out.alloc _).alloc _) (wo.heap.size + 1) (tokV ⟨1, word, 0⟩).toArray rfl (hT.out ⟨1, word, 0⟩ rfl) rfl rfl (by unfold maxLen; omega) (by omega) (by rw [World.size_alloc, World.size_alloc]; exact Nat.le_succ_of_le (Nat.le_succ_of_le hb.size)) ?_; intro gg cap w4 hown4 hgr))
                have hb4 : Below w1.heap.size w1 w4 := ((hb.alloc hb.size _).alloc (Nat.le_trans hb.size (by rw [World.size_alloc]; omega)) _).grown hgr (Nat.le_trans hb.size (by rw [World.size_alloc, World.size_alloc]; omega)) (fun q hq => own_ge hown'.out hq)
                go_roundw
                case rel => exact ⟨k, l ++ [⟨1, word, 0⟩], by omega, rfl, by rw [toksV_snoc, List.length_append]; exact hown4, hb4, HK2, by rw [List.length_append, List.length_singleton]; omega⟩
                case measure => simp [intOf]; omega
          have hlet : Hid (∀ W : World, _) := Lib.hid (fun W => rletter_is r false (decide_eq_false hl) W)
          have hdr : Hid (dn.drop i = r :: dn.drop (i + 1)) := Lib.hid (by
            obtain ⟨r', -, hd', x'⟩ := hcl.out i hlt
            rw [x0] at x'
            injection x' with x'
            injection x' with _ x'
            obtain rfl : r' = r := by omega
            exact hd')
          by_cases hd : isDigit r
          · have hdig : Hid (∀ W : World, _) := Lib.hid (fun W => rdigit_is r true (decide_eq_true hd) W)
            have HA3 : Hid (ansS (.num false 0) l (dn.drop i) = RES) := Lib.hid (by rw [hdr.out, ← ans_zero l _ hd]; exact HA2.out)
            have b5 : ((r : Int) == 45) = false := by unfold isDigit at hd; simp; omega
            have hl' := Lib.hid hd
            clear HA2 hbk h35 hl hd hdr
            go_wp2_with (first | (go_at_call 37; go_must ((with_reducible refine (hlet.out _).mono ?_); rintro e w9 ⟨rfl, rfl⟩)) | (go_at_call 38; go_must ((with_reducible refine (hdig.out _).mono ?_); rintro e w9 ⟨rfl, rfl⟩)))
            clear hlet
            go_loopw [8, 13] (fun cc nn w2 => ∃ (k n : Nat), i ≤ k ∧ k ≤ N ∧ cc = .int .i64 k ∧ nn = .int .i64 n ∧ w2 = wo ∧ n ≤ 1099511627776 ∧ Hid (ansS (.num false n) l (dn.drop k) = RES)) (fun cc _ _ => N - (intOf cc).toNat)
            case atStart => exact ⟨i, 0, Nat.le_refl _, by omega, rfl, rfl, rfl, by omega, HA3⟩
            case round =>
              clear HA3 hdig
              obtain ⟨k, n, hik, hk, rfl, rfl, hwe, hn, HK⟩ := hrel
              have hwe' := hwe.symm
              subst hwe'
              clear hwe
              by_cases hkl : k < N
              · obtain ⟨r2, hr2, hd2, x2⟩ := hcl.out k hkl
                have f0 : (k : Int) < (N : Int) := by omega
                have f1 : (k : Int) < (cp : Int) := by omega
                by_cases hl2 : isDigit r2
                · have hdig : Hid (∀ W : World, _) := Lib.hid (fun W => rdigit_is r2 true (decide_eq_true hl2) W)
                  have hl2' : 48 ≤ r2 ∧ r2 ≤ 57 := hl2
                  have q1 : IntKind.i32.wrap ((r2 : Int) - 48) = ((r2 - 48 : Nat) : Int) := by simp only [IntKind.wrap, IntKind.bits, IntKind.signed]; simp; omega
                  have q2 : IntKind.i64.wrap (10 * (n : Int) + ((r2 - 48 : Nat) : Int)) = ((10 * n + (r2 - 48) : Nat) : Int) := by simp only [IntKind.wrap, IntKind.bits, IntKind.signed]; simp; omega
                  by_cases hm : 10 * n + (r2 - 48) ≤ 1099511627776
                  · have HK2 : Hid (ansS (.num false (10 * n + (r2 - 48))) l (dn.drop (k + 1)) = RES) := Lib.hid (by rw [← HK.out, hd2, ans_num l _ _ _ hl2 hm])
                    have q3 : ¬ (1099511627776 : Int) < ((10 * n + (r2 - 48) : Nat) : Int) := by omega
                    clear HK hr2 hd2 hl2
                    go_wp2_with (go_at_call 38; go_must ((with_reducible refine (hdig.out _).mono ?_); rintro e w9 ⟨rfl, rfl⟩))
                    go_roundw
                    case rel => exact ⟨k + 1, 10 * n + (r2 - 48), by omega, by omega, by go_num, by first | rfl | (congr 1; omega), trivial, hm, HK2⟩
                    case measure => simp [intOf]; omega
                  · have HK2 : Hid (none = RES) := Lib.hid (by rw [← HK.out, hd2, ans_num_much l _ _ _ hl2 (by omega)])
                    have q3 : (1099511627776 : Int) < ((10 * n + (r2 - 48) : Nat) : Int) := by omega
                    clear HK hr2 hd2 hl2
                    go_wp2_with (go_at_call 38; go_must ((with_reducible refine (hdig.out _).mono ?_); rintro e w9 ⟨rfl, rfl⟩))
                    go_ret2
                    rw [← HK2.out]
                    exact ⟨(hb1'.out).trans (hb.mono (by omega)), rfl⟩
                · have hdig : Hid (∀ W : World, _) := Lib.hid (fun W => rdigit_is r2 false (decide_eq_false hl2) W)
                  have hne : i ≠ k := fun e => by
                    subst e
                    rw [x0] at x2
                    injection x2 with x2
                    injection x2 with _ x2
                    obtain rfl : r = r2 := by omega
                    exact hl2 hl'.out
                  have HK2 : Hid (ansS .gap (l ++ [⟨2, [], (n : Int)⟩]) (dn.drop k) = RES) := Lib.hid (by rw [← HK.out, ans_numbered l false n _ (fun d q e => by rw [hd2] at e; injection e with e; subst e; exact hl2)]; rfl)
                  clear HK hr2 hd2 hl2
                  go_wp2_with (first
                    | (go_at_call 38; go_must ((with_reducible refine (hdig.out _).mono ?_); rintro e w9 ⟨rfl, rfl⟩))
                    | (at_builtin; go_must (refine append_row rfl (.tmp 156) (.tmp 161) _ rfl w1.heap.size 48 j0 _ 3 32 Tryd.underlying36 hj0 hy0 hy1 hy2 rfl (by decide) _ l.length (toksV l) rfl (hown'.out.alloc _) wo.heap.size #[.int .i64 2, .string ByteArray.empty, .int .i64 (n : Int)] rfl (Bk.new wo _ _) rfl rfl (by unfold maxLen; omega) (by omega) (by rw [World.size_alloc]; exact Nat.le_succ_of_le hb.size) ?_; intro gg cap w4 hown4 hgr)))
                  have hb4 : Below w1.heap.size w1 w4 := (hb.alloc hb.size _).grown hgr (Nat.le_trans hb.size (by rw [World.size_alloc]; omega)) (fun q hq => own_ge hown'.out hq)
                  go_roundw
                  case rel => exact ⟨k, l ++ [⟨2, [], (n : Int)⟩], by omega, rfl, by rw [toksV_snoc, List.length_append]; exact hown4, hb4, HK2, by rw [List.length_append, List.length_singleton]; omega⟩
                  case measure => simp [intOf]; omega
              · obtain rfl : k = N := by omega
                have HK2 : Hid (ansS .gap (l ++ [⟨2, [], (n : Int)⟩]) (dn.drop k) = RES) := Lib.hid (by rw [← HK.out, ans_numbered l false n _ (fun d q e => by rw [drop_out (by rw [hdn.out]; exact Nat.le_refl _)] at e; cases e)]; rfl)
                clear HK
                go_wp2_with (at_builtin; go_must (refine append_row rfl (.tmp 156) (.tmp 161) _ rfl w1.heap.size 48 j0 _ 3 32 Tryd.underlying36 hj0 hy0 hy1 hy2 rfl (by decide) _ l.length (toksV l) rfl (hown'.out.alloc _) wo.heap.size #[.int .i64 2, .string ByteArray.empty, .int .i64 (n : Int)] rfl (Bk.new wo _ _) rfl rfl (by unfold maxLen; omega) (by omega) (by rw [World.size_alloc]; exact Nat.le_succ_of_le hb.size) ?_; intro gg cap w4 hown4 hgr))
                have hb4 : Below w1.heap.size w1 w4 := (hb.alloc hb.size _).grown hgr (Nat.le_trans hb.size (by rw [World.size_alloc]; omega)) (fun q hq => own_ge hown'.out hq)
                go_roundw
                case rel => exact ⟨k, l ++ [⟨2, [], (n : Int)⟩], by omega, rfl, by rw [toksV_snoc, List.length_append]; exact hown4, hb4, HK2, by rw [List.length_append, List.length_singleton]; omega⟩
                case measure => simp [intOf]; omega
          have hdig : Hid (∀ W : World, _) := Lib.hid (fun W => rdigit_is r false (decide_eq_false hd) W)
          by_cases h45 : r = 45
          · have HA2' : Hid (ansS .gap l (45 :: dn.drop (i + 1)) = RES) := Lib.hid (by rw [← h45]; exact HA2.out)
            have b5 : ((r : Int) == 45) = true := by rw [h45]; rfl
            clear HA2 hbk h35 hl hd hdr h45
            have t1 : ((i : Int) + 1).toNat = i + 1 := by omega
            have t2 : IntKind.i64.wrap ((i : Int) + 1) = (i : Int) + 1 := wrap_small _ (by omega) (by omega)
            have t3 : (0 : Int) ≤ (i : Int) + 1 := by omega
            by_cases hlt2 : i + 1 < N
            · obtain ⟨r3, hr3, hd3, x3⟩ := hcl.out (i + 1) hlt2
              have m0 : (i : Int) + 1 < (N : Int) := by omega
              have m1 : (i : Int) + 1 < (cp : Int) := by omega
              by_cases hd4 : isDigit r3
              · have hdig2 : Hid (∀ W : World, _) := Lib.hid (fun W => rdigit_is r3 true (decide_eq_true hd4) W)
                have HA3 : Hid (ansS (.num true 0) l (dn.drop (i + 1)) = RES) := Lib.hid (by rw [hd3, ← ans_minus_zero l _ hd4, ← hd3]; exact HA2'.out)
                clear HA2' hr3 hd3 hd4
                go_wp2_with (first | (go_at_call 37; go_must ((with_reducible refine (hlet.out _).mono ?_); rintro e w9 ⟨rfl, rfl⟩)) | (go_at_call 38; go_must (first | ((with_reducible refine (hdig.out _).mono ?_); rintro e w9 ⟨rfl, rfl⟩) | ((with_reducible refine (hdig2.out _).mono ?_); rintro e w9 ⟨rfl, rfl⟩))))
                clear hlet hdig2
                go_loopw [8, 13] (fun cc nn w2 => ∃ (k n : Nat), i + 1 ≤ k ∧ k ≤ N ∧ cc = .int .i64 k ∧ nn = .int .i64 n ∧ w2 = wo ∧ n ≤ 1099511627776 ∧ Hid (ansS (.num true n) l (dn.drop k) = RES)) (fun cc _ _ => N - (intOf cc).toNat)
                case atStart => exact ⟨i + 1, 0, Nat.le_refl _, by omega, by go_num, rfl, rfl, by omega, HA3⟩
                case round =>
                  clear HA3 hdig
                  obtain ⟨k, n, hik, hk, rfl, rfl, hwe, hn, HK⟩ := hrel
                  have hwe' := hwe.symm
                  subst hwe'
                  clear hwe
                  by_cases hkl : k < N
                  · obtain ⟨r2, hr2, hd2, x2⟩ := hcl.out k hkl
                    have f0 : (k : Int) < (N : Int) := by omega
                    have f1 : (k : Int) < (cp : Int) := by omega
                    by_cases hl2 : isDigit r2
                    · have hdig : Hid (∀ W : World, _) := Lib.hid (fun W => rdigit_is r2 true (decide_eq_true hl2) W)
                      have hl2' : 48 ≤ r2 ∧ r2 ≤ 57 := hl2
                      have q1 : IntKind.i32.wrap ((r2 : Int) - 48) = ((r2 - 48 : Nat) : Int) := by simp only [IntKind.wrap, IntKind.bits, IntKind.signed]; simp; omega
                      have q2 : IntKind.i64.wrap (10 * (n : Int) + ((r2 - 48 : Nat) : Int)) = ((10 * n + (r2 - 48) : Nat) : Int) := by simp only [IntKind.wrap, IntKind.bits, IntKind.signed]; simp; omega
                      by_cases hm : 10 * n + (r2 - 48) ≤ 1099511627776
                      · have HK2 : Hid (ansS (.num true (10 * n + (r2 - 48))) l (dn.drop (k + 1)) = RES) := Lib.hid (by rw [← HK.out, hd2, ans_num l _ _ _ hl2 hm])
                        have q3 : ¬ (1099511627776 : Int) < ((10 * n + (r2 - 48) : Nat) : Int) := by omega
                        clear HK hr2 hd2 hl2
                        go_wp2_with (go_at_call 38; go_must ((with_reducible refine (hdig.out _).mono ?_); rintro e w9 ⟨rfl, rfl⟩))
                        go_roundw
                        case rel => exact ⟨k + 1, 10 * n + (r2 - 48), by omega, by omega, by go_num, by first | rfl | (congr 1; omega), trivial, hm, HK2⟩
                        case measure => simp [intOf]; omega
                      · have HK2 : Hid (none = RES) := Lib.hid (by rw [← HK.out, hd2, ans_num_much l _ _ _ hl2 (by omega)])
                        have q3 : (1099511627776 : Int) < ((10 * n + (r2 - 48) : Nat) : Int) := by omega
                        clear HK hr2 hd2 hl2
                        go_wp2_with (go_at_call 38; go_must ((with_reducible refine (hdig.out _).mono ?_); rintro e w9 ⟨rfl, rfl⟩))
                        go_ret2
                        rw [← HK2.out]
                        exact ⟨(hb1'.out).trans (hb.mono (by omega)), rfl⟩
                    · have hdig : Hid (∀ W : World, _) := Lib.hid (fun W => rdigit_is r2 false (decide_eq_false hl2) W)
                      have hne : i ≠ k := by omega
                      have HK2 : Hid (ansS .gap (l ++ [⟨2, [], (-(n : Int))⟩]) (dn.drop k) = RES) := Lib.hid (by rw [← HK.out, ans_numbered l true n _ (fun d q e => by rw [hd2] at e; injection e with e; subst e; exact hl2)]; rfl)
                      clear HK hr2 hd2 hl2
                      go_wp2_with (first
                        | (go_at_call 38; go_must ((with_reducible refine (hdig.out _).mono ?_); rintro e w9 ⟨rfl, rfl⟩))
                        | (at_builtin; go_must (refine append_row rfl (.tmp 156) (.tmp 161) _ rfl w1.heap.size 48 j0 _ 3 32 Tryd.underlying36 hj0 hy0 hy1 hy2 rfl (by decide) _ l.length (toksV l) rfl (hown'.out.alloc _) wo.heap.size #[.int .i64 2, .string ByteArray.empty, .int .i64 (-(n : Int))] rfl (Bk.new wo _ _) rfl rfl (by unfold maxLen; omega) (by omega) (by rw [World.size_alloc]; exact Nat.le_succ_of_le hb.size) ?_; intro gg cap w4 hown4 hgr)))
                      have hb4 : Below w1.heap.size w1 w4 := (hb.alloc hb.size _).grown hgr (Nat.le_trans hb.size (by rw [World.size_alloc]; omega)) (fun q hq => own_ge hown'.out hq)
                      go_roundw
                      case rel => exact ⟨k, l ++ [⟨2, [], (-(n : Int))⟩], by omega, rfl, by rw [toksV_snoc, List.length_append]; exact hown4, hb4, HK2, by rw [List.length_append, List.length_singleton]; omega⟩
                      case measure => simp [intOf]; omega
                  · obtain rfl : k = N := by omega
                    have HK2 : Hid (ansS .gap (l ++ [⟨2, [], (-(n : Int))⟩]) (dn.drop k) = RES) := Lib.hid (by rw [← HK.out, ans_numbered l true n _ (fun d q e => by rw [drop_out (by rw [hdn.out]; exact Nat.le_refl _)] at e; cases e)]; rfl)
                    clear HK
                    go_wp2_with (at_builtin; go_must (refine append_row rfl (.tmp 156) (.tmp 161) _ rfl w1.heap.size 48 j0 _ 3 32 Tryd.underlying36 hj0 hy0 hy1 hy2 rfl (by decide) _ l.length (toksV l) rfl (hown'.out.alloc _) wo.heap.size #[.int .i64 2, .string ByteArray.empty, .int .i64 (-(n : Int))] rfl (Bk.new wo _ _) rfl rfl (by unfold maxLen; omega) (by omega) (by rw [World.size_alloc]; exact Nat.le_succ_of_le hb.size) ?_; intro gg cap w4 hown4 hgr))
                    have hb4 : Below w1.heap.size w1 w4 := (hb.alloc hb.size _).grown hgr (Nat.le_trans hb.size (by rw [World.size_alloc]; omega)) (fun q hq => own_ge hown'.out hq)
                    go_roundw
                    case rel => exact ⟨k, l ++ [⟨2, [], (-(n : Int))⟩], by omega, rfl, by rw [toksV_snoc, List.length_append]; exact hown4, hb4, HK2, by rw [List.length_append, List.length_singleton]; omega⟩
                    case measure => simp [intOf]; omega
              · have hdig2 : Hid (∀ W : World, _) := Lib.hid (fun W => rdigit_is r3 false (decide_eq_false hd4) W)
                have HA3 : Hid (none = RES) := Lib.hid (by rw [← HA2'.out, ans_minus_no l _ (fun d q e => by rw [hd3] at e; injection e with e; subst e; exact hd4)])
                clear HA2' hr3 hd3 hd4
                go_wp2_with (first | (go_at_call 37; go_must ((with_reducible refine (hlet.out _).mono ?_); rintro e w9 ⟨rfl, rfl⟩)) | (go_at_call 38; go_must (first | ((with_reducible refine (hdig.out _).mono ?_); rintro e w9 ⟨rfl, rfl⟩) | ((with_reducible refine (hdig2.out _).mono ?_); rintro e w9 ⟨rfl, rfl⟩))))
                go_ret2
                rw [← HA3.out]
                exact ⟨(hb1'.out).trans (hb.mono (by omega)), rfl⟩
            · have m0 : ¬ (i : Int) + 1 < (N : Int) := by omega
              have HA3 : Hid (none = RES) := Lib.hid (by rw [← HA2'.out, ans_minus_no l _ (fun d q e => by rw [drop_out (by rw [hdn.out]; omega)] at e; cases e)])
              clear HA2'
              go_wp2_with (first | (go_at_call 37; go_must ((with_reducible refine (hlet.out _).mono ?_); rintro e w9 ⟨rfl, rfl⟩)) | (go_at_call 38; go_must ((with_reducible refine (hdig.out _).mono ?_); rintro e w9 ⟨rfl, rfl⟩)))
              go_ret2
              rw [← HA3.out]
              exact ⟨(hb1'.out).trans (hb.mono (by omega)), rfl⟩
          · have b5 : ((r : Int) == 45) = false := by simp; omega
            have HA3 : Hid (none = RES) := Lib.hid (by rw [← HA2.out, ans_other l _ hbk h35 hl hd h45])
            clear HA2 hbk h35 hl hd hdr
            go_wp2_with (first | (go_at_call 37; go_must ((with_reducible refine (hlet.out _).mono ?_); rintro e w9 ⟨rfl, rfl⟩)) | (go_at_call 38; go_must ((with_reducible refine (hdig.out _).mono ?_); rintro e w9 ⟨rfl, rfl⟩)))
            go_ret2
            rw [← HA3.out]
            exact ⟨(hb1'.out).trans (hb.mono (by omega)), rfl⟩
        · have HR : RES = some l := by have := HA.out; rw [drop_out (by omega)] at this; exact this.symm
          subst HR
          go_wp2
          go_ret2
          exact ⟨(hb1'.out).trans (hb.mono (by omega)), _, rfl, own_lower hown (by omega)⟩

end Go.Proofs.YtjbhhlhaikmecaaDoor
