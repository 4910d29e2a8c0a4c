/-
  What pool.Ready answers, in whatever memory, of tasks whose commands may be. No conditions but those that stand there.
-/
import Derived.Test.YtldljohholgmoaaZPooCp
import Derived.Test.YtldljohholgmoaaZPooR
import Derived.Test.YtldljohholgmoaaZLckBy
namespace Go.Proofs.Ytldljohholgmoaa
open Go.RowKit

theorem ready_whoB (x : CmL) (u : Who) (A : Option Addr) (n k : Nat) (s : Int) (W : World) (hl : LkSl W A n k (lksW u n)) (hu : u.length ≤ 1000) (hk : CmLk W x.c x.ra x.nr x.rc x.wa x.nw x.wc n) : Calls Try.prog 42 #[.slice A n k, cmV x.ra x.nr x.rc x.wa x.nw x.wc x.aa x.na x.ac x.c.fuel x.ca x.nc x.cc, .int .i64 s] W fun e w' => e = .returned (.bool (readyL (lksW u n) x.c s)) ∧ Below W.heap.size W w' :=
  lready_any x.c x.ra x.nr x.rc x.wa x.nw x.wc x.aa x.na x.ac x.c.fuel x.ca x.nc x.cc _ A n k s W hl (lksW_gr u n) (fun b => by have := lksW_len u n b; omega) hk

set_option maxHeartbeats 4000000 in
set_option maxRecDepth 100000 in
theorem pready_any (l : List TkL) (A : Option Addr) (n c : Nat) (u : Who) (WA : Option Addr) (nb wc : Nat) (w : World) (h : Tks w A c l) (hN : l.length = n) (hz : n ≤ 1000) (hl : LkSl w WA nb wc (lksW u nb)) (hu : u.length ≤ 1000) (hm : ∀ t ∈ l, MayBe t.x.c ∧ fitsT t.x.c nb) :
    Calls Try.prog 22 #[.slice A n c, .slice WA nb wc] w fun e w' => ∃ A' m k, e = .returned (.slice A' m k) ∧ OwnI w.heap.size w' A' m k (readiesT (lksW u nb) l) ∧ Below w.heap.size w w' := by
  obtain ⟨i0, hi0, hz0, hz1, hz2⟩ := infoI
  have H := Lib.hid h
  have HN := Lib.hid hN
  have HL := Lib.hid hl
  have HM := Lib.hid hm
  have hnc : n ≤ c := by have := h.cap; omega
  have ON : Hid (OwnI w.heap.size w none 0 0 (readiesT (lksW u nb) (l.take 0))) := Lib.hid ⟨by simp [readiesT], by simp [readiesT], .inl ⟨rfl, rfl⟩⟩
  obtain ⟨LL, hLL⟩ : ∃ LL, LL = lksW u nb := ⟨_, rfl⟩
  have HLL := Lib.hid hLL
  rw [← hLL] at ON ⊢
  clear h hN hl hm hLL
  go_enter Try.func22, Try.ntmps22
  go_wp2
  go_loopw [5, 10] (fun ou cc wr => ∃ (i m k : Nat) (A' : Option Addr), i ≤ n ∧ m ≤ i ∧ cc = .int .i64 i ∧ ou = .slice A' m k ∧ Hid (OwnI w.heap.size wr A' m k (readiesT LL (l.take i))) ∧ Hid (Below w.heap.size w wr)) (fun _ cc _ => n - (intOf cc).toNat)
  case atStart => exact ⟨0, 0, 0, none, Nat.zero_le _, Nat.le_refl _, rfl, rfl, ON, Lib.hid (Below.refl _ _)⟩
  case round =>
    obtain ⟨i, m, k, A', hin, hmi, rfl, rfl, HO, HB⟩ := hrel
    have hzw := HB.out.size
    by_cases hlt : i < n
    · have d1 : (i : Int) < (n : Int) := by omega
      have d2 : (i : Int) < (c : Int) := by omega
      obtain ⟨t, ht⟩ := tk_at (l := l) (i := i) (by rw [HN.out]; exact hlt)
      have htm := List.mem_of_getElem? ht
      obtain ⟨b, off, rfl, hat, -⟩ := (H.out.below HB.out).at ht
      have HR := Lib.hid hat.all
      have hbl := hat.lt
      have hT := readiesT_take (L := LL) ht
      have KZ := Lib.hid (Bk.new wr 41 tkZ)
      have kt := KZ.out.setRow (tkA t)
      have bt := below_row (below_alloc1 wr (.cells tkZ 41)) (Nat.le_refl _) (tkA t)
      obtain ⟨wt, hwt⟩ : ∃ wt, wt = (wr.alloc (.cells tkZ 41)).setRow wr.heap.size (tkA t) := ⟨_, rfl⟩
      rw [← hwt] at kt bt
      have HWT := Lib.hid hwt.symm
      have hsz := bt.size
      have BT := Lib.hid (HB.out.trans (bt.mono hzw))
      have CC : Hid (∀ X, Below wt.heap.size wt X → X.cell? ⟨wr.heap.size, 0, none⟩ = some (.int .i64 t.s) ∧ X.cell? ⟨wr.heap.size, 1, none⟩ = some (.slice t.x.ra t.x.nr t.x.rc) ∧ X.cell? ⟨wr.heap.size, 2, none⟩ = some (.slice t.x.wa t.x.nw t.x.wc) ∧ X.cell? ⟨wr.heap.size, 3, none⟩ = some (.slice t.x.aa t.x.na t.x.ac) ∧ X.cell? ⟨wr.heap.size, 4, none⟩ = some (.int .i64 t.x.c.fuel) ∧ X.cell? ⟨wr.heap.size, 5, none⟩ = some (.slice t.x.ca t.x.nc t.x.cc) ∧ X.cell? ⟨wr.heap.size, 17, none⟩ = some (.int .i64 t.wk) ∧ wr.heap.size < X.heap.size) := Lib.hid (fun X hX => by
        have hk := kt.below hX
        exact ⟨hk.cell 0, hk.cell 1, hk.cell 2, hk.cell 3, hk.cell 4, hk.cell 5, hk.cell 17, hk.lt⟩)
      obtain ⟨z0, z1, z2, z3, z4, z5, z17, zl⟩ := CC.out wt (Below.refl _ _)
      have OT := Lib.hid (HO.out.below bt)
      by_cases hw : t.wk < 0
      · have e0 : decide (t.wk < 0) = true := decide_eq_true hw
        have hrd : Hid (Calls Try.prog 42 #[.slice WA nb wc, cmV t.x.ra t.x.nr t.x.rc t.x.wa t.x.nw t.x.wc t.x.aa t.x.na t.x.ac t.x.c.fuel t.x.ca t.x.nc t.x.cc, .int .i64 t.s] wt fun e X' => e = .returned (.bool (readyL LL t.x.c t.s)) ∧ Below wt.heap.size wt X') := Lib.hid (by
          rw [HLL.out]
          exact ready_whoB t.x u WA nb wc t.s wt (HL.out.below BT.out) hu (CmL.lk ((H.out.2 t htm).cmd.below BT.out) (HM.out t htm).1 (HM.out t htm).2))
        have hRR : readyT LL t = readyL LL t.x.c t.s := by unfold readyT; rw [e0, Bool.true_and]
        rw [hRR] at hT
        generalize readyL LL t.x.c t.s = r at *
        have HT := Lib.hid hT
        clear hat ht htm hT hRR hwt kt bt
        cases r with
        | false =>
          rw [if_neg (by decide)] at HT
          go_wp2_with (first
            | (with_reducible refine ld_tskm b (off + i * 18) HR.out _ rfl rfl rfl ?_)
            | (with_reducible refine st_tsk wr.heap.size KZ.out rfl t _ _ rfl rfl rfl rfl ?_; rw [HWT.out])
            | (go_at_call 42; go_must ((with_reducible refine hrd.out.mono ?_); rintro e w2 ⟨rfl, hb2⟩; have B2 := Lib.hid (BT.out.trans (hb2.mono (Nat.le_trans hzw hsz))); have O2 : Hid (OwnI w.heap.size w2 A' m k (readiesT LL (l.take (i + 1)))) := Lib.hid (by rw [HT.out]; exact OT.out.below hb2); clear hb2)))
          go_roundw
          case rel => exact ⟨i + 1, m, k, A', by omega, by omega, by go_num, rfl, O2, B2⟩
          case measure => simp [intOf]; omega
        | true =>
          rw [if_pos rfl] at HT
          go_wp2_with (first
            | (with_reducible refine ld_tskm b (off + i * 18) HR.out _ rfl rfl rfl ?_)
            | (with_reducible refine st_tsk wr.heap.size KZ.out rfl t _ _ rfl rfl rfl rfl ?_; rw [HWT.out])
            | (go_at_call 42; go_must ((with_reducible refine hrd.out.mono ?_); rintro e w2 ⟨rfl, hb2⟩; have B2 := Lib.hid (BT.out.trans (hb2.mono (Nat.le_trans hzw hsz))); have O2 := Lib.hid (OT.out.below hb2); clear z0 z1 z2 z3 z4 z5 z17 zl; obtain ⟨z0, z1, z2, z3, z4, z5, z17, zl⟩ := CC.out w2 hb2; have BA := below_alloc1 w2 (.cells #[.int .i64 t.s] 3); have O1 := Lib.hid (own_below O2.out.2 BA); have C1 := Lib.hid (B2.out.trans (BA.mono B2.out.size)); have V1 := Lib.hid (Bk.new w2 3 #[.int .i64 t.s]); have Z1 := C1.out.size; have HLm := Lib.hid O2.out.1; clear hb2 BA))
            | (at_builtin; go_must (refine append_one rfl _ _ _ rfl w.heap.size 3 i0 _ 8 Try.underlying23 hi0 hz0 hz1 hz2 rfl _ m _ rfl O1.out w2.heap.size (.int .i64 t.s) rfl V1.out rfl (by unfold maxLen; omega) (by omega) Z1 ?_; intro v' w3 hown hgr; have C2 := Lib.hid (C1.out.grown hgr Z1 (fun b hb => own_ge O1.out hb)); obtain ⟨A2, k2, rfl, -⟩ := Sl.own hown; have O3 : Hid (OwnI w.heap.size w3 A2 (m + 1) k2 (readiesT LL (l.take (i + 1)))) := Lib.hid ⟨by rw [HT.out, List.length_append, HLm.out]; rfl, by rw [HT.out, List.map_append]; exact hown⟩; clear hown hgr)))
          go_roundw
          case rel => exact ⟨i + 1, m + 1, k2, A2, by omega, by omega, by go_num, rfl, O3, C2⟩
          case measure => simp [intOf]; omega
      · have e0 : decide (t.wk < 0) = false := decide_eq_false hw
        have hRR : readyT LL t = false := by unfold readyT; rw [e0, Bool.false_and]
        rw [hRR, if_neg (by decide)] at hT
        have O2 : Hid (OwnI w.heap.size wt A' m k (readiesT LL (l.take (i + 1)))) := Lib.hid (by rw [hT]; exact OT.out)
        clear hat ht htm hT hRR hwt kt bt
        go_wp2_with (first
          | (with_reducible refine ld_tskm b (off + i * 18) HR.out _ rfl rfl rfl ?_)
          | (with_reducible refine st_tsk wr.heap.size KZ.out rfl t _ _ rfl rfl rfl rfl ?_; rw [HWT.out]))
        go_roundw
        case rel => exact ⟨i + 1, m, k, A', by omega, by omega, by go_num, rfl, O2, BT⟩
        case measure => simp [intOf]; omega
    · obtain rfl : i = n := by omega
      have hO := HO.out
      rw [← HN.out, List.take_length] at hO
      have HO2 := Lib.hid hO
      clear hlt hO
      go_wp2
      go_ret
      exact ⟨_, _, _, rfl, HO2.out, HB.out⟩

end Go.Proofs.Ytldljohholgmoaa
