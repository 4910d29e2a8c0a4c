/-
  AsmBuilds, walked: true for every text and number, in whatever memory that has the tables.
-/
import Derived.Test.YtjbhhlhaikmecaaDoorAsmRb
import Derived.Test.YtjbhhlhaikmecaaDoorAsmX
namespace Go.Proofs.YtjbhhlhaikmecaaDoor
open Go.RowKit

set_option maxRecDepth 100000 in
set_option maxHeartbeats 8000000 in
theorem asmBuilds_walk (s : ByteArray) (op : Int) (w : World) (hT : HasKinds w) (hP : HasPow w) :
    Calls Tryd.prog 3 #[.string s, .int .i64 op] w fun e w' => e = .returned (.bool true) ∧ Below w.heap.size w w' := by
  have haw : Hid (∀ W, HasKinds W → HasPow W → Calls Tryd.prog 8 #[] W fun e w' => e = .returned (.bool true) ∧ Below W.heap.size W w') := Lib.hid (fun W h1 h2 => awake5 W h1 h2)
  have cT : Hid (∀ W, HasKinds W → _) := Lib.hid (fun W hW => takes_any op W hW)
  have cRT : Hid (∀ W : World, _) := Lib.hid (fun W => rtakes_any op W)
  have cW : Hid (∀ W, HasKinds W → _) := Lib.hid (fun W hW => word_any op W hW)
  have cRW : Hid (∀ W : World, _) := Lib.hid (fun W => rword_any op W)
  have cO : Hid (∀ (u : ByteArray) (W : World), HasKinds W → _) := Lib.hid (fun u W hW => of_any u W hW)
  have cRO : Hid (∀ (u : ByteArray) (W : World), _) := Lib.hid (fun u W => rof_any u W)
  have hT' := Lib.hid hT
  have hP' := Lib.hid hP
  have m1 : True := trivial
  have m2 : True := trivial
  have m3 : True := trivial
  by_cases hs : 5000 < s.size
  · have d1 : (5000 : Int) < (s.size : Int) := by omega
    clear hT hP
    go_enter Tryd.func3, Tryd.ntmps3
    go_wp2_with (go_at_call 8; go_must ((with_reducible refine (haw.out w hT'.out hP'.out).mono ?_); rintro e w1 ⟨rfl, hb1⟩))
    go_ret
    exact ⟨rfl, hb1⟩
  · have d1 : ¬ (5000 : Int) < (s.size : Int) := by omega
    cases hr : buildN (bL s) with
    | error n =>
      have c1 := Lib.hid (build_no s n w hr hT)
      have c2 : Hid (∀ W : World, _) := Lib.hid (fun W => rbuild_no s n W hr)
      have cS : Hid (∀ W : World, _) := Lib.hid (fun W => same_none W)
      clear hT hP hr
      go_enter Tryd.func3, Tryd.ntmps3
      go_wp2_with (first
        | (go_at_call 9; go_must ((with_reducible refine c1.out.mono ?_); rintro e w1 ⟨rfl, hb1⟩))
        | (go_at_call 10; go_must ((with_reducible refine (c2.out w1).mono ?_); rintro e w2 ⟨rfl, hb2⟩; have B2 := Lib.hid (bnext hb1 hb2)))
        | (go_at_call 8; go_must ((with_reducible refine (haw.out w2 (hT'.out.belowS B2.out) (hP'.out.belowS B2.out)).mono ?_); rintro e w3 ⟨rfl, hb3⟩; have B3 := Lib.hid (bnext B2.out hb3)))
        | (go_at_call 11; go_must ((with_reducible refine (cS.out w3).mono ?_); rintro e w4 ⟨rfl, hb4⟩; have B4 := Lib.hid (bnext B3.out hb4); have K4 := Lib.hid (hT'.out.belowS B4.out)))
        | (go_at_call 12; go_must ((with_reducible refine (cT.out _ K4.out).mono ?_); rintro e w9 ⟨rfl, rfl⟩))
        | (go_at_call 13; go_must ((with_reducible refine (cRT.out _).mono ?_); rintro e w9 ⟨rfl, rfl⟩))
        | (go_at_call 14; go_must ((with_reducible refine (cW.out _ (by first | exact K6.out | exact K4.out)).mono ?_); rintro e w9 ⟨rfl, rfl⟩))
        | (go_at_call 15; clear m1; go_must ((with_reducible refine (cRW.out w4).mono ?_); rintro e w5 ⟨rfl, hb5⟩; have B5 := Lib.hid (bnext B4.out hb5); have K5 := Lib.hid (hT'.out.belowS B5.out)))
        | (go_at_call 16; clear m2; go_must ((with_reducible refine (cO.out s _ K5.out).mono ?_); rintro e w9 ⟨rfl, rfl⟩))
        | (go_at_call 17; clear m3; go_must ((with_reducible refine (cRO.out s w5).mono ?_); rintro e w6 ⟨rfl, hb6⟩; have B6 := Lib.hid (bnext B5.out hb6); have K6 := Lib.hid (hT'.out.belowS B6.out)))
        | (go_at_call 16; go_must ((with_reducible refine (cO.out (strL (wordN op)) _ K6.out).mono ?_); rintro e w9 ⟨rfl, rfl⟩))
        | (go_at_call 15; go_must ((with_reducible refine (cRW.out w6).mono ?_); rintro e w7 ⟨rfl, hb7⟩; have B7 := Lib.hid (bnext B6.out hb7)))
        | (go_at_call 17; go_must ((with_reducible refine (cRO.out (strL (wordN op)) w7).mono ?_); rintro e w8 ⟨rfl, hb8⟩; have B8 := Lib.hid (bnext B7.out hb8))))
      go_ret
      exact ⟨rfl, B8.out⟩
    | ok l =>
      have c1 := Lib.hid (build_yes s l w hr hT)
      have c2 : Hid (∀ W : World, _) := Lib.hid (fun W => rbuild_yes s l W hr)
      have hlen := (build_tellable hr).len
      obtain ⟨N, hN⟩ : ∃ N, N = l.length := ⟨_, rfl⟩
      have hN' := Lib.hid hN
      rw [← hN] at hlen c1 c2
      clear hT hP hr hN
      go_enter Tryd.func3, Tryd.ntmps3
      go_wp2_with (first
        | (go_at_call 9; go_must ((with_reducible refine c1.out.mono ?_); rintro e w1 ⟨A1, p1, rfl, hi1, hb1⟩; have I1 := Lib.hid hi1; clear hi1))
        | (go_at_call 10; go_must ((with_reducible refine (c2.out w1).mono ?_); rintro e w2 ⟨A2, p2, rfl, hi2, hb2⟩; have J2 := Lib.hid hi2; clear hi2; have B2 := Lib.hid (bnext hb1 hb2); have I2 := Lib.hid (I1.out.below hb2)))
        | (go_at_call 8; go_must ((with_reducible refine (haw.out w2 (hT'.out.belowS B2.out) (hP'.out.belowS B2.out)).mono ?_); rintro e w3 ⟨rfl, hb3⟩; have B3 := Lib.hid (bnext B2.out hb3); have I3 := Lib.hid (I2.out.below hb3); have J3 := Lib.hid (J2.out.below hb3)))
        | (go_at_call 11; go_must ((with_reducible refine (sameL l N hN'.out.symm A1 p1 A2 p2 w3 I3.out J3.out (by omega)).mono ?_); rintro e w4 ⟨rfl, hb4⟩; have B4 := Lib.hid (bnext B3.out hb4); have K4 := Lib.hid (hT'.out.belowS B4.out)))
        | (go_at_call 12; go_must ((with_reducible refine (cT.out _ K4.out).mono ?_); rintro e w9 ⟨rfl, rfl⟩))
        | (go_at_call 13; go_must ((with_reducible refine (cRT.out _).mono ?_); rintro e w9 ⟨rfl, rfl⟩))
        | (go_at_call 14; go_must ((with_reducible refine (cW.out _ (by first | exact K6.out | exact K4.out)).mono ?_); rintro e w9 ⟨rfl, rfl⟩))
        | (go_at_call 15; clear m1; go_must ((with_reducible refine (cRW.out w4).mono ?_); rintro e w5 ⟨rfl, hb5⟩; have B5 := Lib.hid (bnext B4.out hb5); have K5 := Lib.hid (hT'.out.belowS B5.out)))
        | (go_at_call 16; clear m2; go_must ((with_reducible refine (cO.out s _ K5.out).mono ?_); rintro e w9 ⟨rfl, rfl⟩))
        | (go_at_call 17; clear m3; go_must ((with_reducible refine (cRO.out s w5).mono ?_); rintro e w6 ⟨rfl, hb6⟩; have B6 := Lib.hid (bnext B5.out hb6); have K6 := Lib.hid (hT'.out.belowS B6.out)))
        | (go_at_call 16; go_must ((with_reducible refine (cO.out (strL (wordN op)) _ K6.out).mono ?_); rintro e w9 ⟨rfl, rfl⟩))
        | (go_at_call 15; go_must ((with_reducible refine (cRW.out w6).mono ?_); rintro e w7 ⟨rfl, hb7⟩; have B7 := Lib.hid (bnext B6.out hb7)))
        | (go_at_call 17; go_must ((with_reducible refine (cRO.out (strL (wordN op)) w7).mono ?_); rintro e w8 ⟨rfl, hb8⟩; have B8 := Lib.hid (bnext B7.out hb8))))
      go_ret
      exact ⟨rfl, B8.out⟩

end Go.Proofs.YtjbhhlhaikmecaaDoor
