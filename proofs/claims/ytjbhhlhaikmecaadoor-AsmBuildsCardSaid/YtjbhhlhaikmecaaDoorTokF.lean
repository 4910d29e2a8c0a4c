/-
  What the reader's take answers, in whatever memory. No conditions but those that stand there.
-/
import Derived.Test.YtjbhhlhaikmecaaDoorTokE
import Derived.Test.YtjbhhlhaikmecaaDoorTokL
namespace Go.Proofs.YtjbhhlhaikmecaaDoor
open Go.RowKit

theorem step_word (out : List Tok) (wd : List Nat) {c : Nat} (h1 : ¬ isLetter c) (h2 : c ≠ 58) : stepS (out, .word wd) c = gapS (out ++ [⟨1, wd, 0⟩]) c := by
  rw [stepS, if_neg h1, if_neg h2]
theorem step_num (out : List Tok) (neg : Bool) (n : Nat) {c : Nat} (h : ¬ isDigit c) : stepS (out, .num neg n) c = gapS (out ++ [⟨2, [], signed neg n⟩]) c := by
  rw [stepS, if_neg h]

set_option maxHeartbeats 4000000 in
theorem take_any (B g : Nat) (x : List Tok × TS) (c : Nat) (w : World) (hx : RS w B g x) (hn : x.1.length ≤ 1048576) (hw : wordLen x.2 ≤ 1048576) (hc : c ≤ 2147483647) :
    Calls Tryd.prog 39 #[.pointer (some ⟨g, 0, none⟩), .int .i32 (c : Nat)] w (Took B g (stepS x c) w) := by
  obtain ⟨i0, hi0, hz0, hz1, hz2⟩ := infoB
  obtain ⟨out, st⟩ := x
  simp only at hn hw
  cases st with
  | gap =>
    have he := Lib.hid (end_any B g (out, .gap) w hx hn)
    obtain ⟨vt, vw, sg, hk⟩ := hx
    obtain ⟨c0, c1, c2, c3, c4, hf⟩ := hk.bk.five
    clear hk
    go_enter Tryd.func39, Tryd.ntmps39
    go_wp2_with (first
      | (go_at_call 40; go_must ((with_reducible refine he.out.mono ?_); rintro e w1 ⟨hb1, rfl, vt1, vw1, p1, sg1, hk1, hp⟩; obtain rfl := hp (by simp)))
      | (go_at_call 52; go_must ((with_reducible refine (begin_any B g vt1 vw1 sg1 out c w1 hk1 hc).mono ?_); rintro e w2 ⟨rfl, hb2, hk2⟩)))
    go_ret
    exact ⟨rfl, hb1.trans hb2, hk2⟩
  | note =>
    obtain ⟨vt, vw, sg, hk⟩ := hx
    obtain ⟨c0, c1, c2, c3, c4, hf⟩ := hk.bk.five
    have hk' := Lib.hid hk
    clear hk
    by_cases h10 : c = 10
    · subst h10
      rw [show stepS (out, .note) 10 = (out, .gap) from rfl]
      go_enter Tryd.func39, Tryd.ntmps39
      go_wp2
      go_ret
      have hk := hk'.out
      refine ⟨rfl, (Bt.refl _ _ _).set _ _, fun _ => ⟨vt, vw, sg, ?_, own_setCell hk.toks hk.lt _ _, own_setCell hk.word hk.lt _ _, hk.lt, by simpa using hk.le⟩⟩
      have := hk.bk.set 1 (.int .i64 0)
      simpa using this
    · rw [show stepS (out, .note) c = (out, .note) by rw [stepS, if_neg h10]]
      have b1 : ((c : Int) == 10) = false := by simp; omega
      go_enter Tryd.func39, Tryd.ntmps39
      go_wp2
      go_ret
      exact ⟨rfl, Bt.refl _ _ _, fun _ => ⟨vt, vw, sg, hk'.out⟩⟩
  | minus =>
    have he := Lib.hid (end_any B g (out, .minus) w hx hn)
    obtain ⟨vt, vw, hk⟩ := hx
    obtain ⟨c0, c1, c2, c3, c4, hf⟩ := hk.bk.five
    by_cases hd : isDigit c
    · rw [show stepS (out, .minus) c = (out, .num true (c - 48)) by rw [stepS, if_pos hd]]
      have hsm : c - 48 ≤ 1099511627776 := by unfold isDigit at hd; omega
      have hdig := Lib.hid (digit_is c true (decide_eq_true hd) w)
      have hadd := Lib.hid (addDigit_is true (c - 48) B g vt vw 3 (-1) 0 c out [] w hk (by decide) hd (by omega) (decide_eq_true hsm))
      have hsm' := Lib.hid hsm
      clear hsm hd hk
      go_enter Tryd.func39, Tryd.ntmps39
      go_wp2_with (first
        | (go_at_call 50; go_must ((with_reducible refine hdig.out.mono ?_); rintro e w1 ⟨rfl, rfl⟩))
        | (go_at_call 51; go_must ((with_reducible refine hadd.out.mono ?_); rintro e w2 ⟨rfl, hk2, hb2⟩)))
      go_ret
      exact ⟨rfl, hb2, fun _ => ⟨hsm'.out, vt, vw, hk2⟩⟩
    · rw [show stepS (out, .minus) c = (out, .err) by rw [stepS, if_neg hd]]
      have hdig := Lib.hid (digit_is c false (decide_eq_false hd) w)
      clear hd hk
      go_enter Tryd.func39, Tryd.ntmps39
      go_wp2_with (first
        | (go_at_call 50; go_must ((with_reducible refine hdig.out.mono ?_); rintro e w1 ⟨rfl, rfl⟩))
        | (go_at_call 40; go_must ((with_reducible refine he.out.mono ?_); rintro e w1 ⟨hb1, rfl⟩)))
      go_ret
      exact ⟨rfl, hb1, fun h => absurd rfl h⟩
  | num neg n =>
    have he := Lib.hid (end_any B g (out, .num neg n) w hx hn)
    obtain ⟨h0, vt, vw, hk⟩ := hx
    obtain ⟨c0, c1, c2, c3, c4, hf⟩ := hk.bk.five
    by_cases hd : isDigit c
    · have hdig := Lib.hid (digit_is c true (decide_eq_true hd) w)
      by_cases hm : 1099511627776 < 10 * n + (c - 48)
      · rw [show stepS (out, .num neg n) c = (out, .err) by rw [stepS, if_pos hd, if_pos hm]]
        have hadd := Lib.hid (addDigit_is false _ B g vt vw 4 _ n c out [] w hk h0 hd rfl (decide_eq_false (by omega)))
        clear hd hk hm c3
        go_enter Tryd.func39, Tryd.ntmps39
        go_wp2_with (first
          | (go_at_call 50; go_must ((with_reducible refine hdig.out.mono ?_); rintro e w1 ⟨rfl, rfl⟩))
          | (go_at_call 51; go_must ((with_reducible refine hadd.out.mono ?_); rintro e w2 ⟨rfl, -, hb2⟩)))
        go_ret
        exact ⟨rfl, hb2, fun h => absurd rfl h⟩
      · rw [show stepS (out, .num neg n) c = (out, .num neg (10 * n + (c - 48))) by rw [stepS, if_pos hd, if_neg hm]]
        have hadd := Lib.hid (addDigit_is true _ B g vt vw 4 _ n c out [] w hk h0 hd rfl (decide_eq_true (by omega)))
        have hm' := Lib.hid hm
        clear hd hk hm c3
        go_enter Tryd.func39, Tryd.ntmps39
        go_wp2_with (first
          | (go_at_call 50; go_must ((with_reducible refine hdig.out.mono ?_); rintro e w1 ⟨rfl, rfl⟩))
          | (go_at_call 51; go_must ((with_reducible refine hadd.out.mono ?_); rintro e w2 ⟨rfl, hk2', hb2⟩; have hk2 := Lib.hid hk2'; clear hk2')))
        go_ret
        exact ⟨rfl, hb2, fun _ => ⟨by have := hm'.out; omega, vt, vw, hk2.out⟩⟩
    · rw [step_num out neg n hd]
      have hdig := Lib.hid (digit_is c false (decide_eq_false hd) w)
      clear hd hk c3
      go_enter Tryd.func39, Tryd.ntmps39
      go_wp2_with (first
        | (go_at_call 50; go_must ((with_reducible refine hdig.out.mono ?_); rintro e w1 ⟨rfl, rfl⟩))
        | (go_at_call 40; go_must ((with_reducible refine he.out.mono ?_); rintro e w1 ⟨hb1, rfl, vt1, vw1, p1, sg1, hk1, hp⟩; obtain rfl := hp (by simp)))
        | (go_at_call 52; go_must ((with_reducible refine (begin_any B g vt1 vw1 sg1 _ c w1 hk1 hc).mono ?_); rintro e w2 ⟨rfl, hb2, hk2⟩)))
      go_ret
      exact ⟨rfl, hb1.trans hb2, hk2⟩
  | word wd =>
    have he := Lib.hid (end_any B g (out, .word wd) w hx hn)
    obtain ⟨h0, vt, vw, sg, hk⟩ := hx
    obtain ⟨c0, c1, c2, c3, c4, hf⟩ := hk.bk.five
    have hlt := hk.bk.lt
    by_cases hl : isLetter c
    · rw [show stepS (out, .word wd) c = (out, .word (wd ++ [c])) by rw [stepS, if_pos hl]]
      have hlet := Lib.hid (letter_is c true (decide_eq_true hl) w)
      have hc2 : c < 256 := by unfold isLetter at hl; omega
      have hk' := Lib.hid hk
      have hnew : Hid (Bk (w.alloc (.cells #[.int .u8 (c : Nat)] 5)) w.heap.size 5 #[.int .u8 (c : Nat)]) := Lib.hid (Bk.new w _ _)
      have hown1 : Hid ((w.alloc (.cells #[.int .u8 (c : Nat)] 5)).ownsRow B 5 1 vw wd.length (u8s wd)) := Lib.hid (hk'.out.word.alloc _)
      have q1 : Hid (wd.length + 1 ≤ maxLen) := Lib.hid (by have : wd.length ≤ 1048576 := hw; unfold maxLen; omega)
      have q2 : Hid ((wd.length + 1) * 1 ≤ 140737488355328) := Lib.hid (by have : wd.length ≤ 1048576 := hw; omega)
      have q3 : Hid (B ≤ (w.alloc (.cells #[.int .u8 (c : Nat)] 5)).heap.size) := Lib.hid (by rw [World.size_alloc]; exact Nat.le_succ_of_le hk'.out.le)
      have hbk1 : Hid (Bk (w.alloc (.cells #[.int .u8 (c : Nat)] 5)) g 70 #[vt, .int .i64 2, vw, .int .i64 sg, .int .i64 0]) := Lib.hid (hk'.out.bk.alloc _)
      clear hl hk
      go_enter Tryd.func39, Tryd.ntmps39
      go_wp2_with (first
        | (go_at_call 48; go_must ((with_reducible refine hlet.out.mono ?_); rintro e w1 ⟨rfl, rfl⟩))
        | (at_builtin; go_must (refine append_row rfl (.tmp 30) (.tmp 33) _ rfl B 5 i0 _ 1 1 Tryd.underlying58 hi0 hz0 hz1 hz2 rfl (by decide) vw wd.length (u8s wd) rfl hown1.out w.heap.size #[.int .u8 (c : Nat)] rfl hnew.out rfl rfl q1.out q2.out q3.out ?_; intro gg cap w4 hown2 hgr; have hk2 := hbk1.out.grown hgr (Ne.symm (own_ne hown1.out hk'.out.lt)); have s2 := hk2.cell 2; have hf1 := fun o => hk2.frozen o; simp only [List.getElem?_toArray, List.getElem?_cons_zero, List.getElem?_cons_succ] at s2)))
      go_ret
      have hk := hk'.out
      have ht2 := own_grown (hk.toks.alloc (.cells #[.int .u8 (c : Nat)] 5)) hgr (fun k hk2 => own_apart (hk.toks.alloc _) hown1.out (by decide) k hk2)
      refine ⟨rfl, (((Bt.refl B g w).alloc hk.le _).grown q3.out hgr (fun k hk2 => own_ge hown1.out hk2)).set _ _, fun _ => ⟨by simp, vt, .slice (some ⟨gg, 0, none⟩) (wd.length + 1) cap, sg, ?_, own_setCell ht2 hk.lt _ _, ?_, hk.lt, Nat.le_trans q3.out (by simpa using hgr.size)⟩⟩
      · have := hk2.set 2 (.slice (some ⟨gg, 0, none⟩) (wd.length + 1) cap)
        simpa using this
      · rw [u8s_snoc, List.length_append]
        exact own_setCell hown2 hk.lt _ _
    · have hlet := Lib.hid (letter_is c false (decide_eq_false hl) w)
      by_cases h58 : c = 58
      · subst h58
        rw [show stepS (out, .word wd) 58 = (out ++ [⟨3, wd, 0⟩], .gap) from rfl]
        have ha := Lib.hid (addWord_any B g vt vw 2 sg 0 3 out wd w hk h0 hn)
        clear hk
        go_enter Tryd.func39, Tryd.ntmps39
        go_wp2_with (first
          | (go_at_call 48; go_must ((refine hlet.out.mono ?_); rintro e w1 ⟨rfl, rfl⟩))
          | (go_at_call 49; go_must ((refine ha.out.mono ?_); rintro e w1 ⟨rfl, ⟨vt', vw', hk1⟩, hb1⟩)))
        go_ret
        exact ⟨rfl, hb1, fun _ => ⟨vt', vw', sg, hk1⟩⟩
      · rw [step_word out wd hl h58]
        have b1 : ((c : Int) == 58) = false := by simp; omega
        clear hl hk
        go_enter Tryd.func39, Tryd.ntmps39
        go_wp2_with (first
          | (go_at_call 48; go_must ((with_reducible refine hlet.out.mono ?_); rintro e w1 ⟨rfl, rfl⟩))
          | (go_at_call 40; go_must ((with_reducible refine he.out.mono ?_); rintro e w1 ⟨hb1, rfl, vt1, vw1, p1, sg1, hk1, hp⟩; obtain rfl := hp (by simp)))
          | (go_at_call 52; go_must ((with_reducible refine (begin_any B g vt1 vw1 sg1 _ c w1 hk1 hc).mono ?_); rintro e w2 ⟨rfl, hb2, hk2⟩)))
        go_ret
        exact ⟨rfl, hb1.trans hb2, hk2⟩
  | err => exact hx.elim

end Go.Proofs.YtjbhhlhaikmecaaDoor
