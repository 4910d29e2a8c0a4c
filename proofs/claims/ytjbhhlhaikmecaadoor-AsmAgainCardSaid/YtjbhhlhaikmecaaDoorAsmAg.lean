/-
  AsmAgain, walked: true for every text, in whatever memory that has the tables.
-/
import Derived.Test.YtjbhhlhaikmecaaDoorAsmX
import Derived.Test.YtjbhhlhaikmecaaDoorTokUr
namespace Go.Proofs.YtjbhhlhaikmecaaDoor
open Go.RowKit

set_option maxRecDepth 100000 in
set_option maxHeartbeats 8000000 in
theorem asmAgain_walk (s : ByteArray) (w : World) (hT : HasKinds w) (hP : HasPow w) :
    Calls Tryd.prog 5 #[.string s] w fun e w' => e = .returned (.bool true) ∧ Below w.heap.size w w' := by
  have haw : Hid (∀ W, HasKinds W → HasPow W → Calls Tryd.prog 8 #[] W fun e w' => e = .returned (.bool true) ∧ Below W.heap.size W w') := Lib.hid (fun W h1 h2 => awake5 W h1 h2)
  have hT' := Lib.hid hT
  have hP' := Lib.hid hP
  by_cases hs : 3000 < s.size
  · have d1 : (3000 : Int) < (s.size : Int) := by omega
    clear hT hP
    go_enter Tryd.func5, Tryd.ntmps5
    go_wp2_with (go_at_call 8; go_must ((with_reducible refine (haw.out w hT'.out hP'.out).mono ?_); rintro e w1 ⟨rfl, hb1⟩))
    go_ret
    exact ⟨rfl, hb1⟩
  · have d1 : ¬ (3000 : Int) < (s.size : Int) := by omega
    cases hr : buildN (bL s) with
    | error n =>
      have c1 := Lib.hid (build_no s n w hr hT)
      have hn0 : ((n : Int) != 0) = true := by have := build_err hr; simp; omega
      clear hT hP hr
      go_enter Tryd.func5, Tryd.ntmps5
      go_wp2_with (first
        | (go_at_call 9; go_must ((with_reducible refine c1.out.mono ?_); rintro e w1 ⟨rfl, hb1⟩))
        | (go_at_call 8; go_must ((with_reducible refine (haw.out w1 (hT'.out.belowS hb1) (hP'.out.belowS hb1)).mono ?_); rintro e w2 ⟨rfl, hb2⟩)))
      go_ret
      exact ⟨rfl, bnext hb1 hb2⟩
    | ok l =>
      have ht := build_tellable hr
      have c1 := Lib.hid (build_yes s l w hr hT)
      have c2 : Hid (∀ A c W, Inss W A c l → HasKinds W → HasPow W → _) := Lib.hid (fun A c W h1 h2 h3 => tell_any l ht A c W h1 h2 h3)
      have c3 : Hid (∀ W, HasKinds W → _) := Lib.hid (fun W hW => build_yes (strL (tellN l)) l W (tell_back ht) hW)
      have c4 : Hid (∀ W : World, _) := Lib.hid (fun W => rsplit_yes (strL (tellN l)) ((tellT l).map (·.1)) W (by rw [strL_size]; have := tell_len ht; omega) (by rw [bL_strL _ (tell_bytes ht)]; exact split_tell ht))
      have ht' := Lib.hid ht
      have hlen := ht.len
      obtain ⟨N, hN⟩ : ∃ N, N = l.length := ⟨_, rfl⟩
      have hN' := Lib.hid hN
      generalize strL (tellN l) = S at *
      generalize (tellT l).map (·.1) = TK at *
      rw [← hN] at hlen c1 c2 c3
      clear hT hP hr ht hN
      go_enter Tryd.func5, Tryd.ntmps5
      go_wp2_with (go_at_call 9; go_must ((with_reducible refine c1.out.mono ?_); rintro e w1 ⟨A1, p1, rfl, hi1, hb1⟩; have I1 := Lib.hid hi1; clear hi1 c1))
      go_loop [5] (fun cc => ∃ i : Nat, i ≤ N ∧ cc = .int .i64 i) (fun cc => N - (intOf cc).toNat)
      case atStart => exact ⟨0, Nat.zero_le _, rfl⟩
      case round =>
        obtain ⟨i, hi, rfl⟩ := hrel
        by_cases hlt : i < N
        · have hil : i < l.length := by rw [← hN'.out]; exact hlt
          obtain ⟨b, off, rfl, hbl, x0, x1, x2⟩ := I1.out.cellAt hil
          have hcp := I1.out.2.1
          rw [← hN'.out] at hcp
          have hjm := ht'.out.jump i hil
          have hga := (ht'.out.good i hil).a
          rw [← hN'.out] at hjm
          generalize insAt l i = x at *
          have q0 : (i : Int) < (N : Int) := by omega
          have q1 : (i : Int) < (p1 : Int) := by omega
          obtain ⟨ga1, ga2⟩ := hga
          by_cases h13 : x.op = 13
          · have hj2 := hjm (.inl h13)
            have e1 : ((x.op : Int) == 13) = true := by rw [h13]; rfl
            have r0 : ¬ x.a < 0 := by omega
            have r1 : ¬ (N : Int) - (i : Int) - 1 < x.a := by omega
            clear hjm h13 hj2
            go_wp2
            go_round
            case rel => exact ⟨i + 1, by omega, by go_num⟩
            case measure => simp [intOf]; omega
          · have e1 : ((x.op : Int) == 13) = false := by simpa using h13
            by_cases h14 : x.op = 14
            · have hj2 := hjm (.inr h14)
              have e2 : ((x.op : Int) == 14) = true := by rw [h14]; rfl
              have r0 : ¬ x.a < 0 := by omega
              have r1 : ¬ (N : Int) - (i : Int) - 1 < x.a := by omega
              clear hjm h14 hj2 h13
              go_wp2
              go_round
              case rel => exact ⟨i + 1, by omega, by go_num⟩
              case measure => simp [intOf]; omega
            · have e2 : ((x.op : Int) == 14) = false := by simpa using h14
              clear hjm h14 h13
              go_wp2
              go_round
              case rel => exact ⟨i + 1, by omega, by go_num⟩
              case measure => simp [intOf]; omega
        · go_wp2_with (first
            | (go_at_call 19; go_must ((with_reducible refine (c2.out A1 p1 w1 I1.out (hT'.out.belowS hb1) (hP'.out.belowS hb1)).mono ?_); rintro e w2 ⟨rfl, hb2⟩; have B2 := Lib.hid (bnext hb1 hb2); have I2 := Lib.hid (I1.out.below hb2)))
            | (go_at_call 9; go_must ((with_reducible refine (c3.out w2 (hT'.out.belowS B2.out)).mono ?_); rintro e w3 ⟨A3, p3, rfl, hi3, hb3⟩; have B3 := Lib.hid (bnext B2.out hb3); have I3 := Lib.hid (I2.out.below hb3); have J3 := Lib.hid hi3; clear hi3))
            | (go_at_call 21; go_must ((with_reducible refine (c4.out w3).mono ?_); rintro e w4 ⟨v4, rfl, -, hb4⟩; have B4 := Lib.hid (bnext B3.out hb4); have I4 := Lib.hid (I3.out.below hb4); have J4 := Lib.hid (J3.out.below hb4)))
            | (go_at_call 8; go_must ((with_reducible refine (haw.out w4 (hT'.out.belowS B4.out) (hP'.out.belowS B4.out)).mono ?_); rintro e w5 ⟨rfl, hb5⟩; have B5 := Lib.hid (bnext B4.out hb5); have I5 := Lib.hid (I4.out.below hb5); have J5 := Lib.hid (J4.out.below hb5)))
            | (go_at_call 11; go_must ((with_reducible refine (sameL l N hN'.out.symm A1 p1 A3 p3 w5 I5.out J5.out (by omega)).mono ?_); rintro e w6 ⟨rfl, hb6⟩)))
          go_ret
          exact ⟨rfl, bnext B5.out hb6⟩

end Go.Proofs.YtjbhhlhaikmecaaDoor
