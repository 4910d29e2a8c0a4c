/-
  What Nums of the reference's reader answers, in whatever memory: for strings that have at most 2^62 bytes, whatever place and bound.
-/
import Derived.Test.YtoolgbeiphdkdaaLayC
namespace Go.Proofs.Ytoolgbeiphdkdaa
open Go.RowKit

theorem But.grown {g : Nat} {w wr w' : World} (h : But g w wr) {row : Option Nat} (hg : wr.grownBy w' row) (hr : ∀ k, row = some k → w.heap.size ≤ k) : But g w w' := by
  have hb := (Below.refl w.heap.size wr).grown hg h.size hr
  exact ⟨hb.os.trans h.os, hb.tape.trans h.tape, hb.output.trans h.output, Nat.le_trans h.size hb.size, fun k hk hne => (hb.block k hk).trans (h.block k hk hne)⟩

theorem But.alloc {g : Nat} {w wr : World} (h : But g w wr) (o : Obj) : But g w (wr.alloc o) := h.trans (But.of_below ((Below.refl _ _).alloc (Nat.le_refl _) _))

theorem numsOf_succ (s : ByteArray) (n : Nat) (r : Rd) : numsOf s (n + 1) r = numsOf s n r ++ [numV s (itN s n r)] := by
  simp [numsOf, List.range_succ]
theorem numsOf_length (s : ByteArray) (n : Nat) (r : Rd) : (numsOf s n r).length = n := by simp [numsOf]

theorem infoI : ∃ i, Try.prog.info? 3 = some i ∧ i.zero = some (.int .i64 0) ∧ i.size = 1 ∧ i.bytes = 8 := by
  have h := infoInt
  cases hi : Try.prog.info? 3 with
  | none => rw [hi] at h; cases h
  | some i =>
    rw [hi] at h
    simp only [Option.map_some, Option.some.injEq, Prod.mk.injEq] at h
    exact ⟨i, rfl, h.1, h.2.1, h.2.2⟩

theorem numsA_not {s : ByteArray} {most : Int} {r : Rd} (h : ¬ most < (byteV s r : Int)) : numsA s most r = byteR s r := by
  cases hb : (byteR s r).bad with
  | true => exact numsA_bad hb
  | false => exact numsA_fine hb h

set_option maxHeartbeats 2000000 in
theorem rnums_any (s : ByteArray) (r : Rd) (most : Int) (g : Nat) (w : World) (hk : Bk w g 32 (frV s r)) (hs : s.size ≤ 4611686018427387904) :
    Calls Try.prog 19 #[.pointer (some ⟨g, 0, none⟩), .int .i64 most] w (NumsPost 32 s r most g w) := by
  obtain ⟨i0, hi0, hz0, hz1, hz2⟩ := infoI
  have hv := byteV_lt s r
  have hg := hk.lt
  have hby := Lib.hid (rbyte_any s r g w hk hs)
  have hL : Hid (numsL s most r = if (itN s (byteV s r) (numsA s most r)).bad = true then [] else numsOf s (byteV s r) (numsA s most r)) := Lib.hid rfl
  have hRR : Hid (numsR s most r = itN s (byteV s r) (numsA s most r)) := Lib.hid rfl
  clear hk
  by_cases h2 : most < (byteV s r : Int)
  · have hA := Lib.hid (numsA_much h2)
    generalize numsA s most r = R2 at *
    generalize byteR s r = R1 at *
    generalize byteV s r = n at *
    go_enter Try.func19, Try.ntmps19
    go_wp2_with (go_at_call 14; go_must ((with_reducible refine hby.out.mono ?_); rintro e w1 ⟨rfl, hk1, hb1⟩; obtain ⟨-, -, c2, hf⟩ := hk1.three; have hg1 := hk1.lt))
    have hk2 : Bk (w1.setCell ⟨g, 2, none⟩ (.bool true)) g 32 (frV s R2) := by rw [hA.out]; exact hk1.bad true
    have hb2 : But g w (w1.setCell ⟨g, 2, none⟩ (.bool true)) := hb1.trans (But.set _ _ _)
    clear hA hk1 hb1 c2 hf hby hg1
    generalize (w1.setCell ⟨g, 2, none⟩ (.bool true)) = W0 at *
    go_loopw [6, 7] (fun v c wr => ∃ i : Nat, i ≤ n ∧ c = .int .i64 i ∧ wr.ownsRow w.heap.size 3 1 v i ((numsOf s i R2).map (.int .i64)) ∧ Bk wr g 32 (frV s (itN s i R2)) ∧ But g w wr) (fun _ c _ => n - (intOf c).toNat)
    case atStart => exact ⟨0, Nat.zero_le _, rfl, ⟨rfl, .inl ⟨rfl, rfl⟩⟩, hk2, hb2⟩
    case round =>
      clear hk2 hb2
      obtain ⟨i, hi, rfl, hown, hk, hb⟩ := hrel
      obtain ⟨-, -, c2, -⟩ := hk.three
      have hown' := Lib.hid hown
      have hk' := Lib.hid hk
      cases hbad : (itN s i R2).bad with
      | true =>
        rw [hbad] at c2
        have hbad' := Lib.hid hbad
        have hst := Lib.hid (itN_stays hbad hi)
        clear hbad hk hown
        by_cases hlt : i < n
        all_goals
          go_wp2
          go_ret
          refine ⟨_, rfl, ?_, by rw [hRR.out, hst.out]; exact hk'.out, hb⟩
          rw [hL.out, hst.out, if_pos hbad'.out]
          exact ⟨rfl, .inl ⟨rfl, rfl⟩⟩
      | false =>
        rw [hbad] at c2
        have hbad' := Lib.hid hbad
        by_cases hlt : i < n
        · have hnum := Lib.hid (rnum_any s (itN s i R2) g wr hk hs)
          have hsucc := Lib.hid (numsOf_succ s i R2)
          have hitn : Hid (itN s (i + 1) R2 = numR s (itN s i R2)) := Lib.hid rfl
          clear hbad hk hown
          have q1 : i + 1 ≤ maxLen := by unfold maxLen; omega
          have q2 : (i + 1) * 8 ≤ 140737488355328 := by omega
          go_wp2_with (first
            | (go_at_call 16; go_must ((with_reducible refine hnum.out.mono ?_); rintro e w2 ⟨rfl, hk3, hb3⟩; have ho3 := own_keep hown'.out (w' := w2) (fun k hk1 hk2 => hb3.block k hk1 (by have := own_ge hown'.out hk2; omega))))
            | (at_builtin; go_must (refine append_one rfl (.tmp 28) (.tmp 31) _ rfl w.heap.size 3 i0 _ 8 Try.underlying22 hi0 hz0 hz1 hz2 rfl _ i _ rfl (ho3.alloc _) w2.heap.size (.int .i64 (numV s (itN s i R2))) rfl (Bk.new _ _ _) rfl q1 q2 (by simp; exact Nat.le_succ_of_le (hb.trans hb3).size) ?_; intro v' w4 hown4 hgr)))
          go_roundw
          case rel => exact ⟨i + 1, by omega, by go_num, by rw [hsucc.out, List.map_append]; exact hown4, by rw [hitn.out]; exact (hk3.alloc _).grown hgr (fun e => own_ne ho3 hg e.symm), (((hb.trans hb3).alloc _).grown hgr (fun k hk => own_ge ho3 hk))⟩
          case measure => simp [intOf]; omega
        · obtain rfl : i = n := by omega
          clear hbad hk hown
          go_wp2
          go_ret
          refine ⟨_, rfl, ?_, by rw [hRR.out]; exact hk'.out, hb⟩
          rw [hL.out, if_neg (by rw [hbad'.out]; decide), numsOf_length]
          exact hown'.out
  · have hA := Lib.hid (numsA_not h2)
    generalize numsA s most r = R2 at *
    generalize byteR s r = R1 at *
    generalize byteV s r = n at *
    go_enter Try.func19, Try.ntmps19
    go_wp2_with (go_at_call 14; go_must ((with_reducible refine hby.out.mono ?_); rintro e w1 ⟨rfl, hk1, hb1⟩; obtain ⟨-, -, c2, hf⟩ := hk1.three; have hg1 := hk1.lt))
    have hk2 : Bk w1 g 32 (frV s R2) := by rw [hA.out]; exact hk1
    have hb2 : But g w w1 := hb1
    clear hA hk1 hb1 c2 hf hby hg1
    go_loopw [6, 7] (fun v c wr => ∃ i : Nat, i ≤ n ∧ c = .int .i64 i ∧ wr.ownsRow w.heap.size 3 1 v i ((numsOf s i R2).map (.int .i64)) ∧ Bk wr g 32 (frV s (itN s i R2)) ∧ But g w wr) (fun _ c _ => n - (intOf c).toNat)
    case atStart => exact ⟨0, Nat.zero_le _, rfl, ⟨rfl, .inl ⟨rfl, rfl⟩⟩, hk2, hb2⟩
    case round =>
      clear hk2 hb2
      obtain ⟨i, hi, rfl, hown, hk, hb⟩ := hrel
      obtain ⟨-, -, c2, -⟩ := hk.three
      have hown' := Lib.hid hown
      have hk' := Lib.hid hk
      cases hbad : (itN s i R2).bad with
      | true =>
        rw [hbad] at c2
        have hbad' := Lib.hid hbad
        have hst := Lib.hid (itN_stays hbad hi)
        clear hbad hk hown
        by_cases hlt : i < n
        all_goals
          go_wp2
          go_ret
          refine ⟨_, rfl, ?_, by rw [hRR.out, hst.out]; exact hk'.out, hb⟩
          rw [hL.out, hst.out, if_pos hbad'.out]
          exact ⟨rfl, .inl ⟨rfl, rfl⟩⟩
      | false =>
        rw [hbad] at c2
        have hbad' := Lib.hid hbad
        by_cases hlt : i < n
        · have hnum := Lib.hid (rnum_any s (itN s i R2) g wr hk hs)
          have hsucc := Lib.hid (numsOf_succ s i R2)
          have hitn : Hid (itN s (i + 1) R2 = numR s (itN s i R2)) := Lib.hid rfl
          clear hbad hk hown
          have q1 : i + 1 ≤ maxLen := by unfold maxLen; omega
          have q2 : (i + 1) * 8 ≤ 140737488355328 := by omega
          go_wp2_with (first
            | (go_at_call 16; go_must ((with_reducible refine hnum.out.mono ?_); rintro e w2 ⟨rfl, hk3, hb3⟩; have ho3 := own_keep hown'.out (w' := w2) (fun k hk1 hk2 => hb3.block k hk1 (by have := own_ge hown'.out hk2; omega))))
            | (at_builtin; go_must (refine append_one rfl (.tmp 28) (.tmp 31) _ rfl w.heap.size 3 i0 _ 8 Try.underlying22 hi0 hz0 hz1 hz2 rfl _ i _ rfl (ho3.alloc _) w2.heap.size (.int .i64 (numV s (itN s i R2))) rfl (Bk.new _ _ _) rfl q1 q2 (by simp; exact Nat.le_succ_of_le (hb.trans hb3).size) ?_; intro v' w4 hown4 hgr)))
          go_roundw
          case rel => exact ⟨i + 1, by omega, by go_num, by rw [hsucc.out, List.map_append]; exact hown4, by rw [hitn.out]; exact (hk3.alloc _).grown hgr (fun e => own_ne ho3 hg e.symm), (((hb.trans hb3).alloc _).grown hgr (fun k hk => own_ge ho3 hk))⟩
          case measure => simp [intOf]; omega
        · obtain rfl : i = n := by omega
          clear hbad hk hown
          go_wp2
          go_ret
          refine ⟨_, rfl, ?_, by rw [hRR.out]; exact hk'.out, hb⟩
          rw [hL.out, if_neg (by rw [hbad'.out]; decide), numsOf_length]
          exact hown'.out

end Go.Proofs.Ytoolgbeiphdkdaa
