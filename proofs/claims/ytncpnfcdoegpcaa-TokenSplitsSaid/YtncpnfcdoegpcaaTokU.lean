/-
  TokenSplits, walked: true for every text.
-/
import Derived.Test.YtncpnfcdoegpcaaTokT
namespace Go.Proofs.Ytncpnfcdoegpcaa
open Go.RowKit

theorem Toks.nil (w : World) : Toks w none 0 [] := ⟨rfl, Nat.le_refl _, fun _ => ⟨rfl, rfl⟩, fun h => absurd h (by simp)⟩

theorem rsplit_yes (s : ByteArray) (o : List Tok) (w : World) (hs : s.size ≤ 4000) (h : splitN (bL s) = some o) :
    Calls Try.prog 9 #[.string s] w fun e w' => ∃ vt, e = .returned (.tuple #[vt, .int .i64 0]) ∧ w'.ownsRow w.heap.size 31 3 vt o.length (toksV o) ∧ Below w.heap.size w w' :=
  (rsplit_any s w hs).mono fun e w' hp => by rw [h] at hp; obtain ⟨hb, vt, he, ho⟩ := hp; exact ⟨vt, he, ho, hb⟩

theorem rsplit_no (s : ByteArray) (w : World) (hs : s.size ≤ 4000) (h : splitN (bL s) = none) :
    Calls Try.prog 9 #[.string s] w fun e w' => e = .returned (.tuple #[.slice none 0 0, .int .i64 9]) ∧ Below w.heap.size w w' :=
  (rsplit_any s w hs).mono fun e w' hp => by rw [h] at hp; exact ⟨hp.2, hp.1⟩

theorem same_nil (w : World) : Calls Try.prog 10 #[.slice none 0 0, .slice none 0 0] w fun e w' => e = .returned (.bool true) ∧ Below w.heap.size w w' :=
  sameT [] none 0 none 0 w (Toks.nil w) (Toks.nil w) (by simp)

set_option maxHeartbeats 4000000 in
theorem tokenSplits_walk (s : ByteArray) (w : World) :
    Calls Try.prog 3 #[.string s] w fun e w' => e = .returned (.bool true) ∧ Below w.heap.size w w' := by
  by_cases hs : s.size ≤ 5000
  · have d1 : ¬ (5000 : Int) < (s.size : Int) := by omega
    by_cases hs4 : s.size ≤ 4000
    · cases hr : splitN (bL s) with
      | none =>
        have c1 : Hid (∀ W : World, _) := Lib.hid fun W => split_no s W hs4 hr
        have c2 : Hid (∀ W : World, _) := Lib.hid fun W => rsplit_no s W hs4 hr
        clear hr
        go_enter Try.func3, Try.ntmps3
        go_wp2_with (first
          | (go_at_call 8; go_must ((with_reducible refine (c1.out _).mono ?_); rintro e w1 ⟨rfl, hb1⟩))
          | (go_at_call 9; go_must ((with_reducible refine (c2.out _).mono ?_); rintro e w2 ⟨rfl, hb2⟩))
          | (go_at_call 7; go_must ((with_reducible refine (awake4 _).mono ?_); rintro e w3 ⟨rfl, hb3⟩))
          | (go_at_call 10; go_must ((with_reducible refine (same_nil _).mono ?_); rintro e w4 ⟨rfl, hb4⟩)))
        go_ret
        exact ⟨rfl, bnext hb1 (bnext hb2 (bnext hb3 hb4))⟩
      | some o =>
        have c1 : Hid (∀ W : World, _) := Lib.hid fun W => split_yes s o W hs4 hr
        have c2 : Hid (∀ W : World, _) := Lib.hid fun W => rsplit_yes s o W hs4 hr
        have hN : o.length ≤ 4000 := by have := split_len hr; rw [bL_length] at this; omega
        clear hr
        go_enter Try.func3, Try.ntmps3
        go_wp2_with (first
          | (go_at_call 8; go_must ((with_reducible refine (c1.out _).mono ?_); rintro e w1 ⟨v1, rfl, ho1, hb1⟩; obtain ⟨A1, p1, rfl, t1⟩ := Toks.own ho1; have T1 := Lib.hid t1; clear t1 ho1))
          | (go_at_call 9; go_must ((with_reducible refine (c2.out _).mono ?_); rintro e w2 ⟨v2, rfl, ho2, hb2⟩; obtain ⟨A2, p2, rfl, t2⟩ := Toks.own ho2; have T2 := Lib.hid t2; clear t2 ho2))
          | (go_at_call 7; go_must ((with_reducible refine (awake4 _).mono ?_); rintro e w3 ⟨rfl, hb3⟩))
          | (go_at_call 10; go_must ((with_reducible refine (sameT o A1 p1 A2 p2 w3 (T1.out.below (bnext hb2 hb3)) (T2.out.below hb3) (by omega)).mono ?_); rintro e w4 ⟨rfl, hb4⟩)))
        go_ret
        exact ⟨rfl, bnext hb1 (bnext hb2 (bnext hb3 hb4))⟩
    · have c1 : Hid (∀ W : World, _) := Lib.hid fun W => splitLong s W (by omega)
      have c2 : Hid (∀ W : World, _) := Lib.hid fun W => rsplitLong s W (by omega)
      go_enter Try.func3, Try.ntmps3
      go_wp2_with (first
        | (go_at_call 8; go_must ((with_reducible refine (c1.out _).mono ?_); rintro e w1 ⟨rfl, rfl⟩))
        | (go_at_call 9; go_must ((with_reducible refine (c2.out _).mono ?_); rintro e w2 ⟨rfl, rfl⟩))
        | (go_at_call 7; go_must ((with_reducible refine (awake4 _).mono ?_); rintro e w3 ⟨rfl, hb3⟩))
        | (go_at_call 10; go_must ((with_reducible refine (same_nil _).mono ?_); rintro e w4 ⟨rfl, hb4⟩)))
      go_ret
      exact ⟨rfl, bnext hb3 hb4⟩
  · have d1 : (5000 : Int) < (s.size : Int) := by omega
    go_enter Try.func3, Try.ntmps3
    go_wp2_with (go_at_call 7; go_must ((with_reducible refine (awake4 _).mono ?_); rintro e w2 ⟨rfl, hb2⟩))
    go_ret
    exact ⟨rfl, hb2⟩

end Go.Proofs.Ytncpnfcdoegpcaa
