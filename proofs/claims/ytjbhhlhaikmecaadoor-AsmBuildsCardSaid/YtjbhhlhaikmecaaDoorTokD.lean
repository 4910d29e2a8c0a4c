/-
  What isLetter, isDigit and the reader's end answer, in whatever memory. No conditions but those that stand there.
-/
import Derived.Test.YtjbhhlhaikmecaaDoorTokC
namespace Go.Proofs.YtjbhhlhaikmecaaDoor
open Go.RowKit

theorem letter_is (c : Nat) (b : Bool) (h : decide (isLetter c) = b) (w : World) :
    Calls Tryd.prog 48 #[.int .i32 (c : Nat)] w fun e w' => e = .returned (.bool b) ∧ w = w' := by
  subst h
  by_cases h1 : 97 ≤ c
  · have e1 : decide ((97 : Int) ≤ (c : Int)) = true := by simp; omega
    by_cases h2 : c ≤ 122
    · have e2 : decide ((c : Int) ≤ 122) = true := by simp; omega
      go_enter Tryd.func48, Tryd.ntmps48
      go_wp2
      go_ret
      exact ⟨by simp [isLetter, h1, h2], rfl⟩
    · have e2 : decide ((c : Int) ≤ 122) = false := by simp; omega
      go_enter Tryd.func48, Tryd.ntmps48
      go_wp2
      go_ret
      exact ⟨by simp [isLetter, h1, h2], rfl⟩
  · have e1 : decide ((97 : Int) ≤ (c : Int)) = false := by simp; omega
    go_enter Tryd.func48, Tryd.ntmps48
    go_wp2
    go_ret
    exact ⟨by simp [isLetter, h1], rfl⟩

theorem digit_is (c : Nat) (b : Bool) (h : decide (isDigit c) = b) (w : World) :
    Calls Tryd.prog 50 #[.int .i32 (c : Nat)] w fun e w' => e = .returned (.bool b) ∧ w = w' := by
  subst h
  by_cases h1 : 48 ≤ c
  · have e1 : decide ((48 : Int) ≤ (c : Int)) = true := by simp; omega
    by_cases h2 : c ≤ 57
    · have e2 : decide ((c : Int) ≤ 57) = true := by simp; omega
      go_enter Tryd.func50, Tryd.ntmps50
      go_wp2
      go_ret
      exact ⟨by simp [isDigit, h1, h2], rfl⟩
    · have e2 : decide ((c : Int) ≤ 57) = false := by simp; omega
      go_enter Tryd.func50, Tryd.ntmps50
      go_wp2
      go_ret
      exact ⟨by simp [isDigit, h1, h2], rfl⟩
  · have e1 : decide ((48 : Int) ≤ (c : Int)) = false := by simp; omega
    go_enter Tryd.func50, Tryd.ntmps50
    go_wp2
    go_ret
    exact ⟨by simp [isDigit, h1], rfl⟩

/-- the reader in memory, in a state. -/
def RS (w : World) (B g : Nat) : List Tok × TS → Prop
  | (out, .gap) => ∃ vt vw sg, Rdr w B g vt vw 0 sg 0 out []
  | (out, .note) => ∃ vt vw sg, Rdr w B g vt vw 1 sg 0 out []
  | (out, .word wd) => 0 < wd.length ∧ ∃ vt vw sg, Rdr w B g vt vw 2 sg 0 out wd
  | (out, .minus) => ∃ vt vw, Rdr w B g vt vw 3 (-1) 0 out []
  | (out, .num neg n) => n ≤ 1099511627776 ∧ ∃ vt vw, Rdr w B g vt vw 4 (if neg = true then -1 else 1) (n : Nat) out []
  | (_, .err) => False

/-- what end leaves. -/
def EndPost (B g : Nat) (x : List Tok × TS) (w : World) (e : Ending) (w' : World) : Prop :=
  Bt B g w w' ∧ match finS x with
    | none => e = .returned (.bool false)
    | some o => e = .returned (.bool true) ∧ ∃ vt vw p sg, Rdr w' B g vt vw p sg 0 o [] ∧ (x.2 ≠ .note → p = 0)

set_option maxHeartbeats 1000000 in
theorem end_any (B g : Nat) (x : List Tok × TS) (w : World) (hx : RS w B g x) (hn : x.1.length ≤ 1048576) :
    Calls Tryd.prog 40 #[.pointer (some ⟨g, 0, none⟩)] w (EndPost B g x w) := by
  obtain ⟨out, st⟩ := x
  simp only at hn
  cases st with
  | gap =>
    obtain ⟨vt, vw, sg, hk⟩ := hx
    obtain ⟨c0, c1, c2, c3, c4, hf⟩ := hk.bk.five
    have hk' := Lib.hid hk
    clear hk
    go_enter Tryd.func40, Tryd.ntmps40
    go_wp2
    go_ret
    exact ⟨Bt.refl _ _ _, rfl, vt, vw, 0, sg, hk'.out, fun _ => rfl⟩
  | note =>
    obtain ⟨vt, vw, sg, hk⟩ := hx
    obtain ⟨c0, c1, c2, c3, c4, hf⟩ := hk.bk.five
    have hk' := Lib.hid hk
    clear hk
    go_enter Tryd.func40, Tryd.ntmps40
    go_wp2
    go_ret
    exact ⟨Bt.refl _ _ _, rfl, vt, vw, 1, sg, hk'.out, fun h => absurd rfl h⟩
  | minus =>
    obtain ⟨vt, vw, hk⟩ := hx
    obtain ⟨c0, c1, c2, c3, c4, hf⟩ := hk.bk.five
    have hk' := Lib.hid hk
    clear hk
    go_enter Tryd.func40, Tryd.ntmps40
    go_wp2
    go_ret
    exact ⟨Bt.refl _ _ _, rfl⟩
  | word wd =>
    obtain ⟨h0, vt, vw, sg, hk⟩ := hx
    obtain ⟨c0, c1, c2, c3, c4, hf⟩ := hk.bk.five
    have ha := Lib.hid (addWord_any B g vt vw 2 sg 0 1 out wd w hk h0 hn)
    clear hk
    go_enter Tryd.func40, Tryd.ntmps40
    go_wp2_with (go_at_call 49; go_must ((refine ha.out.mono ?_); rintro e w1 ⟨rfl, ⟨vt', vw', hk1⟩, hb1⟩))
    go_ret
    exact ⟨hb1, rfl, vt', vw', 0, sg, hk1, fun _ => rfl⟩
  | num neg n =>
    obtain ⟨h0, vt, vw, hk⟩ := hx
    obtain ⟨c0, c1, c2, c3, c4, hf⟩ := hk.bk.five
    have ha := Lib.hid (addNumber_any B g vt vw 4 neg n out [] w hk h0 hn)
    clear hk
    go_enter Tryd.func40, Tryd.ntmps40
    go_wp2_with (go_at_call 53; go_must ((with_reducible refine ha.out.mono ?_); rintro e w1 ⟨rfl, ⟨vt', hk1⟩, hb1⟩))
    go_ret
    exact ⟨hb1, rfl, vt', vw, 0, _, hk1, fun _ => rfl⟩
  | err => exact hx.elim

end Go.Proofs.YtjbhhlhaikmecaaDoor
