/-
  What the reader's begin answers, in whatever memory. No conditions but those that stand there.
-/
import Derived.Test.YtjbhhlhaikmecaaDoorTokD
namespace Go.Proofs.YtjbhhlhaikmecaaDoor
open Go.RowKit

def fineS : TS → Bool
  | .err => false
  | _ => true

/-- what a rune leaves. -/
def Took (B g : Nat) (x : List Tok × TS) (w : World) (e : Ending) (w' : World) : Prop :=
  e = .returned (.bool (fineS x.2)) ∧ Bt B g w w' ∧ (x.2 ≠ .err → RS w' B g x)

theorem gapS_minus (out : List Tok) : gapS out 45 = (out, .minus) := rfl
theorem gapS_hash (out : List Tok) : gapS out 35 = (out, .note) := rfl
theorem gapS_num (out : List Tok) {c : Nat} (h : isDigit c) : gapS out c = (out, .num false (c - 48)) := by
  have h' : 48 ≤ c ∧ c ≤ 57 := h
  rw [gapS, if_neg (by unfold isBlank; omega), if_neg (by omega), if_neg (by unfold isLetter; omega), if_pos h]
theorem gapS_other (out : List Tok) {c : Nat} (h1 : ¬ isBlank c) (h2 : c ≠ 35) (h3 : ¬ isLetter c) (h4 : ¬ isDigit c) (h5 : c ≠ 45) : gapS out c = (out, .err) := by
  rw [gapS, if_neg h1, if_neg h2, if_neg h3, if_neg h4, if_neg h5]

theorem addDigit_is (b : Bool) (m B g : Nat) (vt vw : Value) (p sg : Int) (sz c : Nat) (out : List Tok) (word : List Nat) (w : World) (hk : Rdr w B g vt vw p sg sz out word) (hsz : sz ≤ 1099511627776) (hc : isDigit c) (hm : 10 * sz + (c - 48) = m) (hb : decide (m ≤ 1099511627776) = b) :
    Calls Tryd.prog 51 #[.pointer (some ⟨g, 0, none⟩), .int .i32 (c : Nat)] w
      fun e w' => e = .returned (.bool b) ∧ Rdr w' B g vt vw 4 sg (m : Nat) out word ∧ Bt B g w w' := by
  subst hm
  subst hb
  exact addDigit_any B g vt vw p sg sz c out word w hk hsz hc

set_option maxHeartbeats 4000000 in
theorem begin_any (B g : Nat) (vt vw : Value) (sg : Int) (out : List Tok) (c : Nat) (w : World) (hk : Rdr w B g vt vw 0 sg 0 out []) (hc : c ≤ 2147483647) :
    Calls Tryd.prog 52 #[.pointer (some ⟨g, 0, none⟩), .int .i32 (c : Nat)] w (Took B g (gapS out c) w) := by
  obtain ⟨i0, hi0, hz0, hz1, hz2⟩ := infoB
  obtain ⟨c0, c1, c2, c3, c4, hf⟩ := hk.bk.five
  have hlt := hk.bk.lt
  have hk' := Lib.hid hk
  clear hk
  by_cases hbl : isBlank c
  · rw [gapS_blank out hbl]
    rcases hbl with rfl | rfl | rfl
    all_goals
      go_enter Tryd.func52, Tryd.ntmps52
      go_wp2
      go_ret
      exact ⟨rfl, Bt.refl _ _ _, fun _ => ⟨vt, vw, sg, hk'.out⟩⟩
  by_cases h35 : c = 35
  · subst h35
    rw [gapS_hash]
    go_enter Tryd.func52, Tryd.ntmps52
    go_wp2
    go_ret
    have hk := hk'.out
    refine ⟨rfl, (Bt.refl _ _ _).set _ _, fun _ => ⟨vt, vw, sg, ?_, own_setCell hk.toks hk.lt _ _, own_setCell hk.word hk.lt _ _, hk.lt, by simpa using hk.le⟩⟩
    have := hk.bk.set 1 (.int .i64 1)
    simpa using this
  have b1 : ((c : Int) == 32) = false := by unfold isBlank at hbl; simp; omega
  have b2 : ((c : Int) == 10) = false := by unfold isBlank at hbl; simp; omega
  have b3 : ((c : Int) == 9) = false := by unfold isBlank at hbl; simp; omega
  have b4 : ((c : Int) == 35) = false := by simp; omega
  by_cases hl : isLetter c
  · rw [gapS_letter out hl]
    have hlet := Lib.hid (letter_is c true (decide_eq_true hl) w)
    have hc2 : c < 256 := by unfold isLetter at hl; omega
    have hnew : Hid (Bk (w.alloc (.cells #[.int .u8 (c : Nat)] 5)) w.heap.size 5 #[.int .u8 (c : Nat)]) := Lib.hid (Bk.new w _ _)
    have hown1 : Hid ((w.alloc (.cells #[.int .u8 (c : Nat)] 5)).ownsRow B 5 1 vw 0 []) := Lib.hid (hk'.out.word.alloc _)
    have q3 : Hid (B ≤ (w.alloc (.cells #[.int .u8 (c : Nat)] 5)).heap.size) := Lib.hid (by rw [World.size_alloc]; exact Nat.le_succ_of_le hk'.out.le)
    have hbk1 : Hid (Bk (w.alloc (.cells #[.int .u8 (c : Nat)] 5)) g 70 #[vt, .int .i64 0, vw, .int .i64 sg, .int .i64 0]) := Lib.hid (hk'.out.bk.alloc _)
    clear hbl hl h35
    go_enter Tryd.func52, Tryd.ntmps52
    go_wp2_with (first
      | (go_at_call 48; go_must ((with_reducible refine hlet.out.mono ?_); rintro e w1 ⟨rfl, rfl⟩))
      | (at_builtin; go_must (refine append_row rfl (.tmp 30) (.tmp 33) _ rfl B 5 i0 _ 1 1 Tryd.underlying58 hi0 hz0 hz1 hz2 rfl (by decide) vw 0 [] rfl hown1.out w.heap.size #[.int .u8 (c : Nat)] rfl hnew.out rfl rfl (by decide) (by decide) q3.out ?_; intro gg cap w4 hown2 hgr; have hk2 := hbk1.out.grown hgr (Ne.symm (own_ne hown1.out hk'.out.lt)); have s1 := hk2.cell 1; have s2 := hk2.cell 2; have hf1 := fun o => hk2.frozen o; simp only [List.getElem?_toArray, List.getElem?_cons_zero, List.getElem?_cons_succ] at s1 s2)))
    go_ret
    have hk := hk'.out
    have ht2 := own_grown (hk.toks.alloc (.cells #[.int .u8 (c : Nat)] 5)) hgr (fun k hk2 => own_apart (hk.toks.alloc _) hown1.out (by decide) k hk2)
    refine ⟨rfl, (((Bt.refl B g w).alloc hk.le _).grown q3.out hgr (fun k hk2 => own_ge hown1.out hk2)).set _ _ |>.set _ _, fun _ => ⟨Nat.one_pos, vt, _, sg, ?_, own_setCell (own_setCell ht2 hk.lt _ _) hk.lt _ _, own_setCell (own_setCell hown2 hk.lt _ _) hk.lt _ _, hk.lt, Nat.le_trans q3.out (by simpa using hgr.size)⟩⟩
    have := (hk2.set 1 (.int .i64 2)).set 2 (.slice (some ⟨gg, 0, none⟩) (0 + 1) cap)
    simpa using this
  have hlet := Lib.hid (letter_is c false (decide_eq_false hl) w)
  by_cases h45 : c = 45
  · subst h45
    rw [gapS_minus]
    go_enter Tryd.func52, Tryd.ntmps52
    go_wp2_with (go_at_call 48; go_must ((refine hlet.out.mono ?_); rintro e w1 ⟨rfl, rfl⟩))
    go_ret
    have hk := hk'.out
    refine ⟨rfl, ((Bt.refl _ _ _).set _ _).set _ _, fun _ => ⟨vt, vw, ?_, own_setCell (own_setCell hk.toks hk.lt _ _) hk.lt _ _, own_setCell (own_setCell hk.word hk.lt _ _) hk.lt _ _, hk.lt, by simpa using hk.le⟩⟩
    have := (hk.bk.set 1 (.int .i64 3)).set 3 (.int .i64 (-1))
    simpa using this
  have b5 : ((c : Int) == 45) = false := by simp; omega
  by_cases hd : isDigit c
  · rw [gapS_num out hd]
    have hdig := Lib.hid (digit_is c true (decide_eq_true hd) w)
    have hk1 : Rdr (w.setCell ⟨g, 3, none⟩ (.int .i64 1)) B g vt vw 0 1 ((0 : Nat) : Int) out [] := by
      have hk := hk'.out
      refine ⟨?_, own_setCell hk.toks hk.lt _ _, own_setCell hk.word hk.lt _ _, hk.lt, by simpa using hk.le⟩
      have := hk.bk.set 3 (.int .i64 1)
      simpa using this
    have hsm : c - 48 ≤ 1099511627776 := by unfold isDigit at hd; omega
    have hadd := Lib.hid (addDigit_is true (c - 48) B g vt vw 0 1 0 c out [] _ hk1 (by decide) hd (by omega) (decide_eq_true hsm))
    have hsm' := Lib.hid hsm
    clear hsm
    clear hbl hl h35 hd hk1
    go_enter Tryd.func52, Tryd.ntmps52
    go_wp2_with (first
      | (go_at_call 48; go_must ((with_reducible refine hlet.out.mono ?_); rintro e w1 ⟨rfl, rfl⟩))
      | (go_at_call 50; go_must ((with_reducible refine hdig.out.mono ?_); rintro e w1 ⟨rfl, rfl⟩))
      | (go_at_call 51; go_must ((with_reducible refine hadd.out.mono ?_); rintro e w2 ⟨rfl, hk2, hb2⟩)))
    go_ret
    exact ⟨rfl, ((Bt.refl _ _ _).set _ _).trans hb2, fun _ => ⟨hsm'.out, vt, vw, hk2⟩⟩
  · rw [gapS_other out hbl h35 hl hd h45]
    have hdig := Lib.hid (digit_is c false (decide_eq_false hd) w)
    clear hbl hl h35 hd
    go_enter Tryd.func52, Tryd.ntmps52
    go_wp2_with (first
      | (go_at_call 48; go_must ((with_reducible refine hlet.out.mono ?_); rintro e w1 ⟨rfl, rfl⟩))
      | (go_at_call 50; go_must ((with_reducible refine hdig.out.mono ?_); rintro e w1 ⟨rfl, rfl⟩)))
    go_ret
    exact ⟨rfl, Bt.refl _ _ _, fun h => absurd rfl h⟩

end Go.Proofs.YtjbhhlhaikmecaaDoor
