/-
  AsmNotes, walked: true for every text, in whatever memory that has the tables.
-/
import Derived.Test.YtjbhhlhaikmecaaDoorAsmX
namespace Go.Proofs.YtjbhhlhaikmecaaDoor
open Go.RowKit

theorem noted_snoc (l : List Nat) (c : Nat) : notedN (l ++ [c]) = notedN l ++ (if c = 10 then c :: moreN else [c]) := by simp [notedN]
theorem noted_len (l : List Nat) : (notedN l).length ≤ 9 * l.length := by
  induction l with
  | nil => simp [notedN]
  | cons c l ih =>
    have h : (notedN (c :: l)).length = (if c = 10 then c :: moreN else [c]).length + (notedN l).length := by simp [notedN]
    have h2 : (if c = 10 then c :: moreN else [c]).length ≤ 9 := by split <;> simp [moreN]
    rw [List.length_cons]
    omega
theorem one_byte (s : ByteArray) (i : Nat) (h : i < s.size) : s.extract i (i + 1) = strL [(s[i]'h).toNat] := by
  apply ByteArray.ext
  have h' : i < s.data.size := h
  apply Array.ext'
  rw [ByteArray.data_extract, Array.toList_extract]
  simp only [strL, List.map_cons, List.map_nil, UInt8.ofNat_toNat]
  rw [List.extract_eq_take_drop, show i + 1 - i = 1 by omega, List.drop_eq_getElem_cons (by simpa using h')]
  simp
  rfl
theorem noted_bytes {l : List Nat} (h : ∀ c ∈ l, c < 256) : ∀ c ∈ notedN l, c < 256 := by
  intro c hc
  unfold notedN at hc
  obtain ⟨d, hd, hc⟩ := List.mem_flatMap.1 hc
  have := h d hd
  split at hc
  · simp only [moreN, List.mem_cons, List.not_mem_nil, or_false] at hc
    omega
  · rw [List.mem_singleton.1 hc]; exact this

/-- the text with notes. -/
def moreT (s : ByteArray) : List Nat := notedN (bL s) ++ if openN (bL s) = true then [] else lastN

theorem more_build (s : ByteArray) (h : s.size ≤ 4000) (ht : (moreT s).length ≤ 4000) : buildN (bL (strL (moreT s))) = buildN (bL s) := by
  have hb : ∀ c ∈ moreT s, c < 256 := by
    intro c hc
    rcases List.mem_append.1 hc with hc | hc
    · exact noted_bytes (bL_lt s) c hc
    · split at hc
      · cases hc
      · simp only [lastN, List.mem_cons, List.not_mem_nil, or_false] at hc
        omega
  rw [bL_strL _ hb]
  unfold buildN
  rw [if_neg (by omega), if_neg (by rw [bL_length]; omega)]
  unfold moreT
  rw [split_more]

set_option maxRecDepth 100000 in
set_option maxHeartbeats 8000000 in
theorem asmNotes_walk (s : ByteArray) (w : World) (hT : HasKinds w) (hP : HasPow w) :
    Calls Tryd.prog 7 #[.string s] w fun e w' => e = .returned (.bool true) ∧ Below w.heap.size w w' := by
  have haw : Hid (∀ W, HasKinds W → HasPow W → Calls Tryd.prog 8 #[] W fun e w' => e = .returned (.bool true) ∧ Below W.heap.size W w') := Lib.hid (fun W h1 h2 => awake5 W h1 h2)
  have hT' := Lib.hid hT
  have hP' := Lib.hid hP
  clear hT hP
  by_cases hs : 1000 < s.size
  · have d1 : (1000 : Int) < (s.size : Int) := by omega
    go_enter Tryd.func7, Tryd.ntmps7
    go_wp2_with (go_at_call 8; go_must ((with_reducible refine (haw.out w hT'.out hP'.out).mono ?_); rintro e w1 ⟨rfl, hb1⟩))
    go_ret
    exact ⟨rfl, hb1⟩
  · have d1 : ¬ (1000 : Int) < (s.size : Int) := by omega
    go_enter Tryd.func7, Tryd.ntmps7
    go_wp2
    go_loop [3, 4, 5] (fun tt nn cc => ∃ i : Nat, i ≤ s.size ∧ cc = .int .i64 i ∧ tt = .string (strL (notedN ((bL s).take i))) ∧ nn = .bool (openN ((bL s).take i))) (fun _ _ cc => s.size - (intOf cc).toNat)
    case atStart => exact ⟨0, Nat.zero_le _, rfl, rfl, rfl⟩
    case round =>
      obtain ⟨i, hi, rfl, rfl, rfl⟩ := hrel
      have hl := noted_len ((bL s).take i)
      have hl2 : ((bL s).take i).length ≤ 1000 := by rw [List.length_take, bL_length]; omega
      have hsz : (strL (notedN ((bL s).take i))).size ≤ 9000 := by rw [strL_size]; omega
      by_cases hlt : i < s.size
      · have htk := bL_take s i hlt
        have d0 : (i : Int) < (s.size : Int) := by omega
        have hn1 : Hid (notedN ((bL s).take (i + 1)) = notedN ((bL s).take i) ++ (if (s[i]'hlt).toNat = 10 then (s[i]'hlt).toNat :: moreN else [(s[i]'hlt).toNat])) := Lib.hid (by rw [htk, noted_snoc])
        have ho1 : Hid (openN ((bL s).take (i + 1)) = ((openN ((bL s).take i) || decide ((s[i]'hlt).toNat = 35)) && !decide ((s[i]'hlt).toNat = 10))) := Lib.hid (by rw [htk, openN_snoc])
        clear htk hl hl2
        generalize notedN ((bL s).take i) = NL at *
        generalize openN ((bL s).take i) = ob at *
        have hone := Lib.hid (one_byte s i hlt)
        have hadd : Hid (∀ c : Nat, strL NL ++ strL [c] = strL (NL ++ [c])) := Lib.hid (fun c => strL_app NL [c])
        have hx1 : (s.extract i (i + 1)).size = 1 := by rw [hone.out, strL_size]; rfl
        by_cases h10 : (s[i]'hlt).toNat = 10
        · have e1 : (((s[i]'hlt).toNat : Int) == 10) = true := by rw [h10]; rfl
          have e2 : (((s[i]'hlt).toNat : Int) != 10) = false := by rw [h10]; rfl
          have e3 : (((s[i]'hlt).toNat : Int) == 35) = false := by rw [h10]; rfl
          have hn2 : Hid (strL NL ++ s.extract i (i + 1) ++ ⟨#[32, 35, 32, 109, 111, 114, 101, 10]⟩ = strL (notedN ((bL s).take (i + 1)))) := Lib.hid (by
            rw [hn1.out, if_pos h10, hone.out, hadd.out, show (⟨#[32, 35, 32, 109, 111, 114, 101, 10]⟩ : ByteArray) = strL moreN from rfl, strL_app, List.append_assoc]
            rfl)
          have ho2 : Hid (openN ((bL s).take (i + 1)) = false) := Lib.hid (by rw [ho1.out, h10]; simp)
          clear h10 hn1 ho1 hone
          cases ob
          all_goals
            go_wp2
            go_round
            case rel => exact ⟨i + 1, by omega, by go_num, by rw [hn2.out], by rw [ho2.out]⟩
            case measure => simp [intOf]; omega
        · have e1 : (((s[i]'hlt).toNat : Int) == 10) = false := by simp; omega
          have e2 : (((s[i]'hlt).toNat : Int) != 10) = true := by simp; omega
          have hn2 : Hid (strL NL ++ s.extract i (i + 1) = strL (notedN ((bL s).take (i + 1)))) := Lib.hid (by
            rw [hn1.out, if_neg h10, hone.out, hadd.out])
          by_cases h35 : (s[i]'hlt).toNat = 35
          · have e3 : (((s[i]'hlt).toNat : Int) == 35) = true := by rw [h35]; rfl
            have ho2 : Hid (openN ((bL s).take (i + 1)) = true) := Lib.hid (by rw [ho1.out, h35]; simp)
            clear h10 h35 hn1 ho1 hone
            cases ob
            all_goals
              go_wp2
              go_round
              case rel => exact ⟨i + 1, by omega, by go_num, by rw [hn2.out], by rw [ho2.out]⟩
              case measure => simp [intOf]; omega
          · have e3 : (((s[i]'hlt).toNat : Int) == 35) = false := by simp; omega
            have ho2 : Hid (openN ((bL s).take (i + 1)) = ob) := Lib.hid (by rw [ho1.out, decide_eq_false h35, decide_eq_false h10]; simp)
            clear h10 h35 hn1 ho1 hone
            cases ob
            all_goals
              go_wp2
              go_round
              case rel => exact ⟨i + 1, by omega, by go_num, by rw [hn2.out], by rw [ho2.out]⟩
              case measure => simp [intOf]; omega
      · have hall : (bL s).take i = bL s := List.take_of_length_le (by rw [bL_length]; omega)
        rw [hall] at hsz hl
        rw [bL_length] at hl
        rw [hall]
        clear hl2 hall
        have hbt := more_build s (by omega)
        have hTl : (strL (moreT s)).size = (moreT s).length := strL_size _
        cases ho : openN (bL s) with
        | true =>
          have he : moreT s = notedN (bL s) := by unfold moreT; rw [if_pos ho, List.append_nil]
          rw [he] at hbt hTl
          clear ho he
          generalize strL (notedN (bL s)) = NS at *
          by_cases hlong : 4000 < (NS).size
          · have q1 : (4000 : Int) < ((NS).size : Int) := by omega
            go_wp2_with (go_at_call 8; go_must ((with_reducible refine (haw.out w hT'.out hP'.out).mono ?_); rintro e w1 ⟨rfl, hb1⟩))
            go_ret
            exact ⟨rfl, hb1⟩
          · have q1 : ¬ (4000 : Int) < ((NS).size : Int) := by omega
            have hb2 := hbt (by rw [← hTl]; omega)
            cases hr : buildN (bL s) with
            | error n =>
              have c1 := Lib.hid (build_no s n w hr hT'.out)
              have c2 : Hid (∀ W, HasKinds W → _) := Lib.hid (fun W hW => build_no (NS) n W (hb2.trans hr) hW)
              clear hr hb2 hbt hTl
              go_wp2_with (first
                | (go_at_call 9; go_must (first | ((with_reducible refine c1.out.mono ?_); rintro e w1 ⟨rfl, hb1⟩; clear c1) | ((with_reducible refine (c2.out w1 (hT'.out.belowS hb1)).mono ?_); rintro e w2 ⟨rfl, hb2⟩; have B2 := Lib.hid (bnext hb1 hb2))))
                | (go_at_call 8; go_must ((with_reducible refine (haw.out w2 (hT'.out.belowS B2.out) (hP'.out.belowS B2.out)).mono ?_); rintro e w3 ⟨rfl, hb3⟩))
                | (go_at_call 11; go_must ((with_reducible refine (same_none _).mono ?_); rintro e w4 ⟨rfl, hb4⟩)))
              go_ret
              exact ⟨rfl, bnext (bnext B2.out hb3) hb4⟩
            | ok l =>
              have c1 := Lib.hid (build_yes s l w hr hT'.out)
              have c2 : Hid (∀ W, HasKinds W → _) := Lib.hid (fun W hW => build_yes (NS) l W (hb2.trans hr) hW)
              have hlen := (build_tellable hr).len
              clear hr hb2 hbt hTl
              go_wp2_with (first
                | (go_at_call 9; go_must (first | ((with_reducible refine c1.out.mono ?_); rintro e w1 ⟨A1, p1, rfl, hi1, hb1⟩; have I1 := Lib.hid hi1; clear c1 hi1) | ((with_reducible refine (c2.out w1 (hT'.out.belowS hb1)).mono ?_); rintro e w2 ⟨A2, p2, rfl, hi2, hb2⟩; have B2 := Lib.hid (bnext hb1 hb2); have I2 := Lib.hid (I1.out.below hb2); have J2 := Lib.hid hi2; clear hi2)))
                | (go_at_call 8; go_must ((with_reducible refine (haw.out w2 (hT'.out.belowS B2.out) (hP'.out.belowS B2.out)).mono ?_); rintro e w3 ⟨rfl, hb3⟩; have I3 := Lib.hid (I2.out.below hb3); have J3 := Lib.hid (J2.out.below hb3)))
                | (go_at_call 11; go_must ((with_reducible refine (sameI l A1 p1 A2 p2 w3 I3.out J3.out (by omega)).mono ?_); rintro e w4 ⟨rfl, hb4⟩)))
              go_ret
              exact ⟨rfl, bnext (bnext B2.out hb3) hb4⟩
        | false =>
          have he : strL (moreT s) = strL (notedN (bL s)) ++ ⟨#[10, 35, 32, 109, 111, 114, 101]⟩ := by
            unfold moreT
            rw [if_neg (by rw [ho]; simp), ← strL_app]
            rfl
          rw [he] at hbt hTl
          have hap : (strL (notedN (bL s)) ++ ⟨#[10, 35, 32, 109, 111, 114, 101]⟩).size = (strL (notedN (bL s))).size + 7 := by rw [ByteArray.size_append]; rfl
          clear ho he
          generalize strL (notedN (bL s)) = NS at *
          by_cases hlong : 4000 < (NS ++ ⟨#[10, 35, 32, 109, 111, 114, 101]⟩).size
          · have q1 : (4000 : Int) < ((NS ++ ⟨#[10, 35, 32, 109, 111, 114, 101]⟩).size : Int) := by omega
            rw [hap] at q1
            clear hap
            go_wp2_with (go_at_call 8; go_must ((with_reducible refine (haw.out w hT'.out hP'.out).mono ?_); rintro e w1 ⟨rfl, hb1⟩))
            go_ret
            exact ⟨rfl, hb1⟩
          · have q1 : ¬ (4000 : Int) < ((NS ++ ⟨#[10, 35, 32, 109, 111, 114, 101]⟩).size : Int) := by omega
            have hb2 := hbt (by rw [← hTl]; omega)
            rw [hap] at q1
            clear hap
            cases hr : buildN (bL s) with
            | error n =>
              have c1 := Lib.hid (build_no s n w hr hT'.out)
              have c2 : Hid (∀ W, HasKinds W → _) := Lib.hid (fun W hW => build_no (NS ++ ⟨#[10, 35, 32, 109, 111, 114, 101]⟩) n W (hb2.trans hr) hW)
              clear hr hb2 hbt hTl
              go_wp2_with (first
                | (go_at_call 9; go_must (first | ((with_reducible refine c1.out.mono ?_); rintro e w1 ⟨rfl, hb1⟩; clear c1) | ((with_reducible refine (c2.out w1 (hT'.out.belowS hb1)).mono ?_); rintro e w2 ⟨rfl, hb2⟩; have B2 := Lib.hid (bnext hb1 hb2))))
                | (go_at_call 8; go_must ((with_reducible refine (haw.out w2 (hT'.out.belowS B2.out) (hP'.out.belowS B2.out)).mono ?_); rintro e w3 ⟨rfl, hb3⟩))
                | (go_at_call 11; go_must ((with_reducible refine (same_none _).mono ?_); rintro e w4 ⟨rfl, hb4⟩)))
              go_ret
              exact ⟨rfl, bnext (bnext B2.out hb3) hb4⟩
            | ok l =>
              have c1 := Lib.hid (build_yes s l w hr hT'.out)
              have c2 : Hid (∀ W, HasKinds W → _) := Lib.hid (fun W hW => build_yes (NS ++ ⟨#[10, 35, 32, 109, 111, 114, 101]⟩) l W (hb2.trans hr) hW)
              have hlen := (build_tellable hr).len
              clear hr hb2 hbt hTl
              go_wp2_with (first
                | (go_at_call 9; go_must (first | ((with_reducible refine c1.out.mono ?_); rintro e w1 ⟨A1, p1, rfl, hi1, hb1⟩; have I1 := Lib.hid hi1; clear c1 hi1) | ((with_reducible refine (c2.out w1 (hT'.out.belowS hb1)).mono ?_); rintro e w2 ⟨A2, p2, rfl, hi2, hb2⟩; have B2 := Lib.hid (bnext hb1 hb2); have I2 := Lib.hid (I1.out.below hb2); have J2 := Lib.hid hi2; clear hi2)))
                | (go_at_call 8; go_must ((with_reducible refine (haw.out w2 (hT'.out.belowS B2.out) (hP'.out.belowS B2.out)).mono ?_); rintro e w3 ⟨rfl, hb3⟩; have I3 := Lib.hid (I2.out.below hb3); have J3 := Lib.hid (J2.out.below hb3)))
                | (go_at_call 11; go_must ((with_reducible refine (sameI l A1 p1 A2 p2 w3 I3.out J3.out (by omega)).mono ?_); rintro e w4 ⟨rfl, hb4⟩)))
              go_ret
              exact ⟨rfl, bnext (bnext B2.out hb3) hb4⟩

end Go.Proofs.YtjbhhlhaikmecaaDoor
