/-
  What the reference's Read of layer 6 answers, in whatever memory: so many instructions of a reader, for strings that have at most 2^62 bytes, whatever place, and at most 2^20 instructions.
-/
import Derived.Test.YtlffdaiideoijaaDoorInsC
namespace Go.Proofs.YtlffdaiideoijaaDoor
open Go.RowKit

theorem own_far {w : World} {B : Nat} {e : TypeId} {size n : Nat} {v : Value} {xs : List Value} (h : w.ownsRow B e size v n xs) {p : Addr} (hp : ∀ k, v.ownBlock = some k → k ≠ p.block) (u : Value) : (w.setCell p u).ownsRow B e size v n xs :=
  own_keep h fun k _ he => Below.heap_setCell w p u k (hp k he)

theorem ins_of0 {s : ByteArray} {r : Rd} (ht : takesN (byteV s r : Nat) = 0) : insV s r = ⟨(byteV s r : Nat), 0, 0⟩ ∧ insR s r = byteR s r := by
  unfold insV insR
  rw [if_neg (by omega), if_neg (by omega), if_neg (by omega), if_neg (by omega)]
  exact ⟨rfl, rfl⟩
theorem ins_of1 {s : ByteArray} {r : Rd} (ht : takesN (byteV s r : Nat) = 1) : insV s r = ⟨(byteV s r : Nat), numV s (byteR s r), 0⟩ ∧ insR s r = numR s (byteR s r) := by
  unfold insV insR
  rw [if_pos (by omega), if_neg (by omega), if_neg (by omega), if_pos (by omega)]
  exact ⟨rfl, rfl⟩
theorem ins_of2 {s : ByteArray} {r : Rd} (ht : takesN (byteV s r : Nat) = 2) : insV s r = ⟨(byteV s r : Nat), numV s (byteR s r), numV s (numR s (byteR s r))⟩ ∧ insR s r = numR s (numR s (byteR s r)) := by
  unfold insV insR
  rw [if_pos (by omega), if_pos (by omega), if_pos (by omega)]
  exact ⟨rfl, rfl⟩

theorem rdI_step {s : ByteArray} {N i : Nat} {r0 ri : Rd} {li : List Ins} {x : Ins} {a : Int} {b rt : Bool} (h : rdI s N r0 [] = rdI s (N - i) ri li) (hlt : i < N) (hx : insV s ri = x) (hz : insR s ri = ⟨a, b⟩) (hrt : decide (rightN x) = rt) :
    match b || !rt with
    | true => rdI s N r0 [] = (none, ⟨a, true⟩)
    | false => rdI s N r0 [] = rdI s (N - (i + 1)) ⟨a, b⟩ (li ++ [x]) := by
  obtain ⟨k, hNk⟩ : ∃ k, N - i = k + 1 := ⟨N - i - 1, by omega⟩
  have hNk' : N - (i + 1) = k := by omega
  rw [hNk] at h
  subst hx
  cases b with
  | true => exact h.trans (by rw [rdI_no (.inl (by rw [hz])), hz])
  | false =>
    cases rt with
    | false => exact h.trans (by rw [rdI_no (.inr (by simpa using hrt)), hz])
    | true => exact h.trans (by rw [hNk', rdI_yes (by rw [hz]) (by simpa using hrt), hz])

set_option maxHeartbeats 32000000 in
theorem rread_nat (s : ByteArray) (N : Nat) (r0 : Rd) (g : Nat) (w : World) (hk : Bk w g 33 (frV s r0)) (hs : s.size ≤ 4611686018427387904) (hN1 : N ≤ 1048576) :
    Calls Tryd.prog 13 #[.pointer (some ⟨g, 0, none⟩), .int .i64 (N : Nat)] w (ReadPost 33 s (rdI s N r0 []) g w) := by
  obtain ⟨i0, hi0, hz0, hz1, hz2⟩ := infoIns
  have hgw := hk.lt
  have hk' := Lib.hid hk
  clear hk
  go_enter Tryd.func13, Tryd.ntmps13
  go_wp2
  go_loopw [6, 7] (fun v c wr => ∃ i ri li, i ≤ N ∧ c = .int .i64 ((i : Nat) : Int) ∧ li.length = i ∧ Hid (rdI s N r0 [] = rdI s (N - i) ri li) ∧ wr.ownsRow w.heap.size 26 3 v i (inssW li) ∧ Bk wr g 33 (frV s ri) ∧ But g w wr) (fun _ c _ => N - (intOf c).toNat)
  case atStart => exact ⟨0, r0, [], Nat.zero_le _, rfl, rfl, Lib.hid rfl, ⟨rfl, .inl ⟨rfl, rfl⟩⟩, hk'.out, But.refl _ _⟩
  case round =>
    obtain ⟨i, ri, li, hi, rfl, hli, hrd, hown, hk, hb⟩ := hrel
    by_cases hlt : i < N
    · have d0 : (i : Int) < (N : Int) := by omega
      have q1 : i + 1 ≤ maxLen := by unfold maxLen; omega
      have q2 : (i + 1) * 24 ≤ 140737488355328 := by omega
      have hvl : Hid (∀ k, Value.ownBlock _ = some k → k < wr.heap.size) := Lib.hid (fun k hk => own_lt hown hk)
      have hO := Lib.hid hown
      have hszr := hb.size
      have hgr0 : g < wr.heap.size := hk.lt
      have htw : Hid (∀ W : World, _) := Lib.hid (fun W => rtakes_any (byteV s ri : Nat) W)
      have hby := Lib.hid (rbyte_any s ri g wr hk hs)
      have hB := Lib.hid hb
      clear hown hk hb
      rcases takes_two (byteV s ri : Nat) with ht | ht | ht
      · have hst := fun a b rt hz hrt => rdI_step (a := a) (b := b) (rt := rt) hrd.out hlt (ins_of0 ht).1 ((ins_of0 ht).2.trans hz) hrt
        have hri : Hid (∀ (W : World) rt, decide (rightN ⟨(byteV s ri : Nat), 0, 0⟩) = rt → _) := Lib.hid (fun W rt h => rright_any ⟨(byteV s ri : Nat), 0, 0⟩ rt h W)
        have htk : Hid (∀ W : World, Calls Tryd.prog 15 #[.int .i64 (byteV s ri : Nat)] W fun e w' => e = .returned (.int .i64 0) ∧ W = w') := Lib.hid (fun W => by have := htw.out W; rw [ht] at this; exact this)
        clear ht hrd htw
        obtain ⟨rt, hrt⟩ : ∃ rt, decide (rightN ⟨(byteV s ri : Nat), 0, 0⟩) = rt := ⟨_, rfl⟩
        obtain ⟨az, bz, hz⟩ : ∃ a b, byteR s ri = ⟨a, b⟩ := ⟨_, _, rfl⟩
        have hst1 := Lib.hid (hst az bz rt hz hrt)
        have hri1 : Hid (∀ W : World, _) := Lib.hid (fun W => hri.out W rt hrt)
        rw [hz] at hby
        clear hst hri hz hrt
        generalize byteV s ri = op at *
        cases bz
        · cases rt
          · go_wp2_with (first
            | (go_at_call 24; go_must ((with_reducible refine hby.out.mono ?_); rintro e w1 ⟨rfl, hk1, hb1⟩; have hsz := hb1.size; have O1 := Lib.hid (own_below (own_but hO.out hb1 hgw) ((Below.refl w1.heap.size w1).alloc (Nat.le_refl _) (IObj ⟨op, 0, 0⟩))); have X1 := Lib.hid (Bk.new w1 26 (iCells ⟨op, 0, 0⟩)); have K1 := Lib.hid (hk1.alloc (IObj ⟨op, 0, 0⟩)); have B1 := Lib.hid ((hB.out.trans hb1).trans (But.of_below ((Below.refl w1.heap.size w1).alloc (Nat.le_refl _) (IObj ⟨op, 0, 0⟩)))); obtain ⟨-, -, c2, cf⟩ := K1.out.frs; have hg1 := K1.out.lt; simp only at c2; clear hk1 hb1))
            | (go_at_call 15; go_must ((with_reducible refine (htk.out _).mono ?_); rintro e w2 ⟨rfl, rfl⟩))
            | (go_at_call 9; go_must ((with_reducible refine (hri1.out _).mono ?_); rintro e w3 ⟨rfl, hb3⟩; have K3 := Lib.hid (K1.out.below hb3); have O3 := Lib.hid (own_below O1.out hb3); have X3 := Lib.hid (X1.out.below hb3); have B3 := Lib.hid (B1.out.trans (But.of_below hb3)); obtain ⟨-, -, c3, cf3⟩ := K3.out.frs; have hg3 := K3.out.lt; obtain ⟨y0, y1, y2, yf⟩ := Bk.three (show Bk w3 w1.heap.size 26 (iCells ⟨op, 0, 0⟩) from X3.out); simp only at c3 y0 y1 y2; clear c2 cf)))
            go_ret2
            rw [show rdI s N r0 [] = (none, ⟨az, true⟩) from hst1.out]
            exact ⟨K3.out.bad true, B3.out.trans (But.set _ _ _), rfl⟩
          · go_wp2_with (first
            | (go_at_call 24; go_must ((with_reducible refine hby.out.mono ?_); rintro e w1 ⟨rfl, hk1, hb1⟩; have hsz := hb1.size; have O1 := Lib.hid (own_below (own_but hO.out hb1 hgw) ((Below.refl w1.heap.size w1).alloc (Nat.le_refl _) (IObj ⟨op, 0, 0⟩))); have X1 := Lib.hid (Bk.new w1 26 (iCells ⟨op, 0, 0⟩)); have K1 := Lib.hid (hk1.alloc (IObj ⟨op, 0, 0⟩)); have B1 := Lib.hid ((hB.out.trans hb1).trans (But.of_below ((Below.refl w1.heap.size w1).alloc (Nat.le_refl _) (IObj ⟨op, 0, 0⟩)))); obtain ⟨-, -, c2, cf⟩ := K1.out.frs; have hg1 := K1.out.lt; simp only at c2; clear hk1 hb1))
            | (go_at_call 15; go_must ((with_reducible refine (htk.out _).mono ?_); rintro e w2 ⟨rfl, rfl⟩))
            | (go_at_call 9; go_must ((with_reducible refine (hri1.out _).mono ?_); rintro e w3 ⟨rfl, hb3⟩; have K3 := Lib.hid (K1.out.below hb3); have O3 := Lib.hid (own_below O1.out hb3); have X3 := Lib.hid (X1.out.below hb3); have B3 := Lib.hid (B1.out.trans (But.of_below hb3)); obtain ⟨-, -, c3, cf3⟩ := K3.out.frs; have hg3 := K3.out.lt; obtain ⟨y0, y1, y2, yf⟩ := Bk.three (show Bk w3 w1.heap.size 26 (iCells ⟨op, 0, 0⟩) from X3.out); simp only at c3 y0 y1 y2; clear c2 cf))
            | (at_builtin; go_must (refine append_row rfl (.tmp 43) (.tmp 45) _ rfl w.heap.size 26 i0 _ 3 24 Tryd.underlying22 hi0 hz0 hz1 hz2 rfl (by decide) _ i _ rfl (own_below O3.out ((Below.refl _ _).alloc (Nat.le_refl _) (IObj ⟨op, 0, 0⟩))) w3.heap.size (iCells ⟨op, 0, 0⟩) rfl (Bk.new _ _ _) rfl rfl q1 q2 (by rw [World.size_alloc]; exact Nat.le_succ_of_le B3.out.size) ?_; intro gg cap w6 hown6 hgr)))
            go_roundw
            case rel =>
              have hst2 : rdI s N r0 [] = rdI s (N - (i + 1)) ⟨az, false⟩ (li ++ [⟨op, 0, 0⟩]) := hst1.out
              refine ⟨i + 1, ⟨az, false⟩, li ++ [⟨op, 0, 0⟩], by omega, by go_num, by simp [hli], Lib.hid hst2, ?_, ?_, ?_⟩
              · rw [append_ins]; exact hown6
              · exact (K3.out.alloc _).grown hgr (Ne.symm (own_ne O3.out hgw))
              · exact (B3.out.thenBelow ((Below.refl _ _).alloc B3.out.size _)).thenBelow ((Below.refl _ _).grown hgr (by rw [World.size_alloc]; exact Nat.le_succ_of_le B3.out.size) (fun k hk => own_ge O3.out hk))
            case measure => simp [intOf]; omega
        · go_wp2_with (first
            | (go_at_call 24; go_must ((with_reducible refine hby.out.mono ?_); rintro e w1 ⟨rfl, hk1, hb1⟩; have hsz := hb1.size; have O1 := Lib.hid (own_below (own_but hO.out hb1 hgw) ((Below.refl w1.heap.size w1).alloc (Nat.le_refl _) (IObj ⟨op, 0, 0⟩))); have X1 := Lib.hid (Bk.new w1 26 (iCells ⟨op, 0, 0⟩)); have K1 := Lib.hid (hk1.alloc (IObj ⟨op, 0, 0⟩)); have B1 := Lib.hid ((hB.out.trans hb1).trans (But.of_below ((Below.refl w1.heap.size w1).alloc (Nat.le_refl _) (IObj ⟨op, 0, 0⟩)))); obtain ⟨-, -, c2, cf⟩ := K1.out.frs; have hg1 := K1.out.lt; simp only at c2; clear hk1 hb1))
            | (go_at_call 15; go_must ((with_reducible refine (htk.out _).mono ?_); rintro e w2 ⟨rfl, rfl⟩)))
          go_ret2
          rw [show rdI s N r0 [] = (none, ⟨az, true⟩) from hst1.out]
          exact ⟨K1.out.bad true, B1.out.trans (But.set _ _ _), rfl⟩
      · have hst := fun a b rt hz hrt => rdI_step (a := a) (b := b) (rt := rt) hrd.out hlt (ins_of1 ht).1 ((ins_of1 ht).2.trans hz) hrt
        have hri : Hid (∀ (W : World) rt, decide (rightN ⟨(byteV s ri : Nat), numV s (byteR s ri), 0⟩) = rt → _) := Lib.hid (fun W rt h => rright_any ⟨(byteV s ri : Nat), numV s (byteR s ri), 0⟩ rt h W)
        have hn1 : Hid (∀ W, Bk W g 33 (frV s (byteR s ri)) → _) := Lib.hid (fun W hW => rnum_any s (byteR s ri) g W hW hs)
        have htk : Hid (∀ W : World, Calls Tryd.prog 15 #[.int .i64 (byteV s ri : Nat)] W fun e w' => e = .returned (.int .i64 1) ∧ W = w') := Lib.hid (fun W => by have := htw.out W; rw [ht] at this; exact this)
        clear ht hrd htw
        obtain ⟨rt, hrt⟩ : ∃ rt, decide (rightN ⟨(byteV s ri : Nat), numV s (byteR s ri), 0⟩) = rt := ⟨_, rfl⟩
        obtain ⟨az, bz, hz⟩ : ∃ a b, numR s (byteR s ri) = ⟨a, b⟩ := ⟨_, _, rfl⟩
        have hst1 := Lib.hid (hst az bz rt hz hrt)
        have hri1 : Hid (∀ W : World, _) := Lib.hid (fun W => hri.out W rt hrt)
        rw [hz] at hn1
        clear hst hri hz hrt
        generalize numV s (byteR s ri) = N1 at *
        generalize byteR s ri = r1 at *
        generalize byteV s ri = op at *
        cases bz
        · cases rt
          · go_wp2_with (first
            | (go_at_call 24; go_must ((with_reducible refine hby.out.mono ?_); rintro e w1 ⟨rfl, hk1, hb1⟩; have hsz := hb1.size; have O1 := Lib.hid (own_below (own_but hO.out hb1 hgw) ((Below.refl w1.heap.size w1).alloc (Nat.le_refl _) (IObj ⟨op, 0, 0⟩))); have X1 := Lib.hid (Bk.new w1 26 (iCells ⟨op, 0, 0⟩)); have K1 := Lib.hid (hk1.alloc (IObj ⟨op, 0, 0⟩)); have B1 := Lib.hid ((hB.out.trans hb1).trans (But.of_below ((Below.refl w1.heap.size w1).alloc (Nat.le_refl _) (IObj ⟨op, 0, 0⟩)))); have hg0 := K1.out.lt; clear hk1 hb1))
            | (go_at_call 15; go_must ((with_reducible refine (htk.out _).mono ?_); rintro e w2 ⟨rfl, rfl⟩))
            | (go_at_call 25; go_must ((with_reducible refine (hn1.out _ K1.out).mono ?_); rintro e w4 ⟨rfl, hk4, hb4⟩; have O4 := Lib.hid (own_far (own_but O1.out hb4 hgw) (p := ⟨w1.heap.size, 1, none⟩) (fun k hk => by have := hvl.out k hk; simp; omega) (.int .i64 N1)); have X4a := Lib.hid (hb4.bk X1.out (by omega)); have X4 := Lib.hid (X4a.out.set 1 (.int .i64 N1)); have K4 := Lib.hid (hk4.far (p := ⟨w1.heap.size, 1, none⟩) (by simp; omega) (.int .i64 N1)); have B4 := Lib.hid ((B1.out.trans hb4).setNew (p := ⟨w1.heap.size, 1, none⟩) (by simp; omega) (.int .i64 N1)); obtain ⟨x0, x1, x2, xf⟩ := Bk.three X4a.out; have hx1 := X4a.out.lt; simp only at x0 x1 x2; obtain ⟨-, -, c2, cf⟩ := Bk.frs hk4; have hg4 := hk4.lt; simp only at c2; clear hk4 hb4))
            | (go_at_call 9; go_must ((with_reducible refine (hri1.out _).mono ?_); rintro e w3 ⟨rfl, hb3⟩; have K3 := Lib.hid (K4.out.below hb3); have O3 := Lib.hid (own_below O4.out hb3); have X3 := Lib.hid (X4.out.below hb3); have B3 := Lib.hid (B4.out.trans (But.of_below hb3)); obtain ⟨-, -, c3, cf3⟩ := K3.out.frs; have hg3 := K3.out.lt; obtain ⟨y0, y1, y2, yf⟩ := Bk.three (show Bk w3 w1.heap.size 26 (iCells ⟨op, N1, 0⟩) from X3.out); simp only at c3 y0 y1 y2; clear c2 cf)))
            go_ret2
            rw [show rdI s N r0 [] = (none, ⟨az, true⟩) from hst1.out]
            exact ⟨K3.out.bad true, B3.out.trans (But.set _ _ _), rfl⟩
          · go_wp2_with (first
            | (go_at_call 24; go_must ((with_reducible refine hby.out.mono ?_); rintro e w1 ⟨rfl, hk1, hb1⟩; have hsz := hb1.size; have O1 := Lib.hid (own_below (own_but hO.out hb1 hgw) ((Below.refl w1.heap.size w1).alloc (Nat.le_refl _) (IObj ⟨op, 0, 0⟩))); have X1 := Lib.hid (Bk.new w1 26 (iCells ⟨op, 0, 0⟩)); have K1 := Lib.hid (hk1.alloc (IObj ⟨op, 0, 0⟩)); have B1 := Lib.hid ((hB.out.trans hb1).trans (But.of_below ((Below.refl w1.heap.size w1).alloc (Nat.le_refl _) (IObj ⟨op, 0, 0⟩)))); have hg0 := K1.out.lt; clear hk1 hb1))
            | (go_at_call 15; go_must ((with_reducible refine (htk.out _).mono ?_); rintro e w2 ⟨rfl, rfl⟩))
            | (go_at_call 25; go_must ((with_reducible refine (hn1.out _ K1.out).mono ?_); rintro e w4 ⟨rfl, hk4, hb4⟩; have O4 := Lib.hid (own_far (own_but O1.out hb4 hgw) (p := ⟨w1.heap.size, 1, none⟩) (fun k hk => by have := hvl.out k hk; simp; omega) (.int .i64 N1)); have X4a := Lib.hid (hb4.bk X1.out (by omega)); have X4 := Lib.hid (X4a.out.set 1 (.int .i64 N1)); have K4 := Lib.hid (hk4.far (p := ⟨w1.heap.size, 1, none⟩) (by simp; omega) (.int .i64 N1)); have B4 := Lib.hid ((B1.out.trans hb4).setNew (p := ⟨w1.heap.size, 1, none⟩) (by simp; omega) (.int .i64 N1)); obtain ⟨x0, x1, x2, xf⟩ := Bk.three X4a.out; have hx1 := X4a.out.lt; simp only at x0 x1 x2; obtain ⟨-, -, c2, cf⟩ := Bk.frs hk4; have hg4 := hk4.lt; simp only at c2; clear hk4 hb4))
            | (go_at_call 9; go_must ((with_reducible refine (hri1.out _).mono ?_); rintro e w3 ⟨rfl, hb3⟩; have K3 := Lib.hid (K4.out.below hb3); have O3 := Lib.hid (own_below O4.out hb3); have X3 := Lib.hid (X4.out.below hb3); have B3 := Lib.hid (B4.out.trans (But.of_below hb3)); obtain ⟨-, -, c3, cf3⟩ := K3.out.frs; have hg3 := K3.out.lt; obtain ⟨y0, y1, y2, yf⟩ := Bk.three (show Bk w3 w1.heap.size 26 (iCells ⟨op, N1, 0⟩) from X3.out); simp only at c3 y0 y1 y2; clear c2 cf))
            | (at_builtin; go_must (refine append_row rfl (.tmp 43) (.tmp 45) _ rfl w.heap.size 26 i0 _ 3 24 Tryd.underlying22 hi0 hz0 hz1 hz2 rfl (by decide) _ i _ rfl (own_below O3.out ((Below.refl _ _).alloc (Nat.le_refl _) (IObj ⟨op, N1, 0⟩))) w3.heap.size (iCells ⟨op, N1, 0⟩) rfl (Bk.new _ _ _) rfl rfl q1 q2 (by rw [World.size_alloc]; exact Nat.le_succ_of_le B3.out.size) ?_; intro gg cap w6 hown6 hgr)))
            go_roundw
            case rel =>
              have hst2 : rdI s N r0 [] = rdI s (N - (i + 1)) ⟨az, false⟩ (li ++ [⟨op, N1, 0⟩]) := hst1.out
              refine ⟨i + 1, ⟨az, false⟩, li ++ [⟨op, N1, 0⟩], by omega, by go_num, by simp [hli], Lib.hid hst2, ?_, ?_, ?_⟩
              · rw [append_ins]; exact hown6
              · exact (K3.out.alloc _).grown hgr (Ne.symm (own_ne O3.out hgw))
              · exact (B3.out.thenBelow ((Below.refl _ _).alloc B3.out.size _)).thenBelow ((Below.refl _ _).grown hgr (by rw [World.size_alloc]; exact Nat.le_succ_of_le B3.out.size) (fun k hk => own_ge O3.out hk))
            case measure => simp [intOf]; omega
        · go_wp2_with (first
            | (go_at_call 24; go_must ((with_reducible refine hby.out.mono ?_); rintro e w1 ⟨rfl, hk1, hb1⟩; have hsz := hb1.size; have O1 := Lib.hid (own_below (own_but hO.out hb1 hgw) ((Below.refl w1.heap.size w1).alloc (Nat.le_refl _) (IObj ⟨op, 0, 0⟩))); have X1 := Lib.hid (Bk.new w1 26 (iCells ⟨op, 0, 0⟩)); have K1 := Lib.hid (hk1.alloc (IObj ⟨op, 0, 0⟩)); have B1 := Lib.hid ((hB.out.trans hb1).trans (But.of_below ((Below.refl w1.heap.size w1).alloc (Nat.le_refl _) (IObj ⟨op, 0, 0⟩)))); have hg0 := K1.out.lt; clear hk1 hb1))
            | (go_at_call 15; go_must ((with_reducible refine (htk.out _).mono ?_); rintro e w2 ⟨rfl, rfl⟩))
            | (go_at_call 25; go_must ((with_reducible refine (hn1.out _ K1.out).mono ?_); rintro e w4 ⟨rfl, hk4, hb4⟩; have O4 := Lib.hid (own_far (own_but O1.out hb4 hgw) (p := ⟨w1.heap.size, 1, none⟩) (fun k hk => by have := hvl.out k hk; simp; omega) (.int .i64 N1)); have X4a := Lib.hid (hb4.bk X1.out (by omega)); have X4 := Lib.hid (X4a.out.set 1 (.int .i64 N1)); have K4 := Lib.hid (hk4.far (p := ⟨w1.heap.size, 1, none⟩) (by simp; omega) (.int .i64 N1)); have B4 := Lib.hid ((B1.out.trans hb4).setNew (p := ⟨w1.heap.size, 1, none⟩) (by simp; omega) (.int .i64 N1)); obtain ⟨x0, x1, x2, xf⟩ := Bk.three X4a.out; have hx1 := X4a.out.lt; simp only at x0 x1 x2; obtain ⟨-, -, c2, cf⟩ := Bk.frs hk4; have hg4 := hk4.lt; simp only at c2; clear hk4 hb4)))
          go_ret2
          rw [show rdI s N r0 [] = (none, ⟨az, true⟩) from hst1.out]
          exact ⟨K4.out.bad true, B4.out.trans (But.set _ _ _), rfl⟩
      · have hst := fun a b rt hz hrt => rdI_step (a := a) (b := b) (rt := rt) hrd.out hlt (ins_of2 ht).1 ((ins_of2 ht).2.trans hz) hrt
        have hri : Hid (∀ (W : World) rt, decide (rightN ⟨(byteV s ri : Nat), numV s (byteR s ri), numV s (numR s (byteR s ri))⟩) = rt → _) := Lib.hid (fun W rt h => rright_any ⟨(byteV s ri : Nat), numV s (byteR s ri), numV s (numR s (byteR s ri))⟩ rt h W)
        have hn1 : Hid (∀ W, Bk W g 33 (frV s (byteR s ri)) → _) := Lib.hid (fun W hW => rnum_any s (byteR s ri) g W hW hs)
        have hn2 : Hid (∀ W, Bk W g 33 (frV s (numR s (byteR s ri))) → _) := Lib.hid (fun W hW => rnum_any s (numR s (byteR s ri)) g W hW hs)
        have htk : Hid (∀ W : World, Calls Tryd.prog 15 #[.int .i64 (byteV s ri : Nat)] W fun e w' => e = .returned (.int .i64 2) ∧ W = w') := Lib.hid (fun W => by have := htw.out W; rw [ht] at this; exact this)
        clear ht hrd htw
        obtain ⟨rt, hrt⟩ : ∃ rt, decide (rightN ⟨(byteV s ri : Nat), numV s (byteR s ri), numV s (numR s (byteR s ri))⟩) = rt := ⟨_, rfl⟩
        obtain ⟨az, bz, hz⟩ : ∃ a b, numR s (numR s (byteR s ri)) = ⟨a, b⟩ := ⟨_, _, rfl⟩
        have hst1 := Lib.hid (hst az bz rt hz hrt)
        have hri1 : Hid (∀ W : World, _) := Lib.hid (fun W => hri.out W rt hrt)
        rw [hz] at hn2
        clear hst hri hz hrt
        generalize numV s (numR s (byteR s ri)) = N2 at *
        generalize numV s (byteR s ri) = N1 at *
        generalize numR s (byteR s ri) = r2 at *
        generalize byteR s ri = r1 at *
        generalize byteV s ri = op at *
        have m1 : True := trivial
        cases bz
        · cases rt
          · go_wp2_with (first
            | (go_at_call 24; go_must ((with_reducible refine hby.out.mono ?_); rintro e w1 ⟨rfl, hk1, hb1⟩; have hsz := hb1.size; have O1 := Lib.hid (own_below (own_but hO.out hb1 hgw) ((Below.refl w1.heap.size w1).alloc (Nat.le_refl _) (IObj ⟨op, 0, 0⟩))); have X1 := Lib.hid (Bk.new w1 26 (iCells ⟨op, 0, 0⟩)); have K1 := Lib.hid (hk1.alloc (IObj ⟨op, 0, 0⟩)); have B1 := Lib.hid ((hB.out.trans hb1).trans (But.of_below ((Below.refl w1.heap.size w1).alloc (Nat.le_refl _) (IObj ⟨op, 0, 0⟩)))); have hg0 := K1.out.lt; clear hk1 hb1))
            | (go_at_call 15; go_must ((with_reducible refine (htk.out _).mono ?_); rintro e w2 ⟨rfl, rfl⟩))
            | (go_at_call 25; clear m1; go_must ((with_reducible refine (hn1.out _ K1.out).mono ?_); rintro e w4 ⟨rfl, hk4, hb4⟩; have O4 := Lib.hid (own_far (own_but O1.out hb4 hgw) (p := ⟨w1.heap.size, 1, none⟩) (fun k hk => by have := hvl.out k hk; simp; omega) (.int .i64 N1)); have X4a := Lib.hid (hb4.bk X1.out (by omega)); have X4 := Lib.hid (X4a.out.set 1 (.int .i64 N1)); have K4 := Lib.hid (hk4.far (p := ⟨w1.heap.size, 1, none⟩) (by simp; omega) (.int .i64 N1)); have B4 := Lib.hid ((B1.out.trans hb4).setNew (p := ⟨w1.heap.size, 1, none⟩) (by simp; omega) (.int .i64 N1)); obtain ⟨x0, x1, x2, xf⟩ := Bk.three X4a.out; have hx1 := X4a.out.lt; simp only at x0 x1 x2; clear hk4 hb4))
            | (clear x0 x1 x2 xf hx1; go_at_call 25; go_must ((with_reducible refine (hn2.out _ K4.out).mono ?_); rintro e w5 ⟨rfl, hk5, hb5⟩; have O5 := Lib.hid (own_far (own_but O4.out hb5 hgw) (p := ⟨w1.heap.size, 2, none⟩) (fun k hk => by have := hvl.out k hk; simp; omega) (.int .i64 N2)); have X5a := Lib.hid (hb5.bk X4.out (by omega)); have X5 := Lib.hid (X5a.out.set 2 (.int .i64 N2)); have K5 := Lib.hid (hk5.far (p := ⟨w1.heap.size, 2, none⟩) (by simp; omega) (.int .i64 N2)); have B5 := Lib.hid ((B4.out.trans hb5).setNew (p := ⟨w1.heap.size, 2, none⟩) (by simp; omega) (.int .i64 N2)); obtain ⟨x0, x1, x2, xf⟩ := Bk.three (show Bk w5 w1.heap.size 26 #[.int .i64 op, .int .i64 N1, .int .i64 0] from X5a.out); have hx1 := X5a.out.lt; obtain ⟨-, -, c2, cf⟩ := Bk.frs hk5; have hg5 := hk5.lt; simp only at c2; clear hk5 hb5))
            | (go_at_call 9; go_must ((with_reducible refine (hri1.out _).mono ?_); rintro e w3 ⟨rfl, hb3⟩; have K3 := Lib.hid (K5.out.below hb3); have O3 := Lib.hid (own_below O5.out hb3); have X3 := Lib.hid (X5.out.below hb3); have B3 := Lib.hid (B5.out.trans (But.of_below hb3)); obtain ⟨-, -, c3, cf3⟩ := K3.out.frs; have hg3 := K3.out.lt; obtain ⟨y0, y1, y2, yf⟩ := Bk.three (show Bk w3 w1.heap.size 26 (iCells ⟨op, N1, N2⟩) from X3.out); simp only at c3 y0 y1 y2; clear c2 cf)))
            go_ret2
            rw [show rdI s N r0 [] = (none, ⟨az, true⟩) from hst1.out]
            exact ⟨K3.out.bad true, B3.out.trans (But.set _ _ _), rfl⟩
          · go_wp2_with (first
            | (go_at_call 24; go_must ((with_reducible refine hby.out.mono ?_); rintro e w1 ⟨rfl, hk1, hb1⟩; have hsz := hb1.size; have O1 := Lib.hid (own_below (own_but hO.out hb1 hgw) ((Below.refl w1.heap.size w1).alloc (Nat.le_refl _) (IObj ⟨op, 0, 0⟩))); have X1 := Lib.hid (Bk.new w1 26 (iCells ⟨op, 0, 0⟩)); have K1 := Lib.hid (hk1.alloc (IObj ⟨op, 0, 0⟩)); have B1 := Lib.hid ((hB.out.trans hb1).trans (But.of_below ((Below.refl w1.heap.size w1).alloc (Nat.le_refl _) (IObj ⟨op, 0, 0⟩)))); have hg0 := K1.out.lt; clear hk1 hb1))
            | (go_at_call 15; go_must ((with_reducible refine (htk.out _).mono ?_); rintro e w2 ⟨rfl, rfl⟩))
            | (go_at_call 25; clear m1; go_must ((with_reducible refine (hn1.out _ K1.out).mono ?_); rintro e w4 ⟨rfl, hk4, hb4⟩; have O4 := Lib.hid (own_far (own_but O1.out hb4 hgw) (p := ⟨w1.heap.size, 1, none⟩) (fun k hk => by have := hvl.out k hk; simp; omega) (.int .i64 N1)); have X4a := Lib.hid (hb4.bk X1.out (by omega)); have X4 := Lib.hid (X4a.out.set 1 (.int .i64 N1)); have K4 := Lib.hid (hk4.far (p := ⟨w1.heap.size, 1, none⟩) (by simp; omega) (.int .i64 N1)); have B4 := Lib.hid ((B1.out.trans hb4).setNew (p := ⟨w1.heap.size, 1, none⟩) (by simp; omega) (.int .i64 N1)); obtain ⟨x0, x1, x2, xf⟩ := Bk.three X4a.out; have hx1 := X4a.out.lt; simp only at x0 x1 x2; clear hk4 hb4))
            | (clear x0 x1 x2 xf hx1; go_at_call 25; go_must ((with_reducible refine (hn2.out _ K4.out).mono ?_); rintro e w5 ⟨rfl, hk5, hb5⟩; have O5 := Lib.hid (own_far (own_but O4.out hb5 hgw) (p := ⟨w1.heap.size, 2, none⟩) (fun k hk => by have := hvl.out k hk; simp; omega) (.int .i64 N2)); have X5a := Lib.hid (hb5.bk X4.out (by omega)); have X5 := Lib.hid (X5a.out.set 2 (.int .i64 N2)); have K5 := Lib.hid (hk5.far (p := ⟨w1.heap.size, 2, none⟩) (by simp; omega) (.int .i64 N2)); have B5 := Lib.hid ((B4.out.trans hb5).setNew (p := ⟨w1.heap.size, 2, none⟩) (by simp; omega) (.int .i64 N2)); obtain ⟨x0, x1, x2, xf⟩ := Bk.three (show Bk w5 w1.heap.size 26 #[.int .i64 op, .int .i64 N1, .int .i64 0] from X5a.out); have hx1 := X5a.out.lt; obtain ⟨-, -, c2, cf⟩ := Bk.frs hk5; have hg5 := hk5.lt; simp only at c2; clear hk5 hb5))
            | (go_at_call 9; go_must ((with_reducible refine (hri1.out _).mono ?_); rintro e w3 ⟨rfl, hb3⟩; have K3 := Lib.hid (K5.out.below hb3); have O3 := Lib.hid (own_below O5.out hb3); have X3 := Lib.hid (X5.out.below hb3); have B3 := Lib.hid (B5.out.trans (But.of_below hb3)); obtain ⟨-, -, c3, cf3⟩ := K3.out.frs; have hg3 := K3.out.lt; obtain ⟨y0, y1, y2, yf⟩ := Bk.three (show Bk w3 w1.heap.size 26 (iCells ⟨op, N1, N2⟩) from X3.out); simp only at c3 y0 y1 y2; clear c2 cf))
            | (at_builtin; go_must (refine append_row rfl (.tmp 43) (.tmp 45) _ rfl w.heap.size 26 i0 _ 3 24 Tryd.underlying22 hi0 hz0 hz1 hz2 rfl (by decide) _ i _ rfl (own_below O3.out ((Below.refl _ _).alloc (Nat.le_refl _) (IObj ⟨op, N1, N2⟩))) w3.heap.size (iCells ⟨op, N1, N2⟩) rfl (Bk.new _ _ _) rfl rfl q1 q2 (by rw [World.size_alloc]; exact Nat.le_succ_of_le B3.out.size) ?_; intro gg cap w6 hown6 hgr)))
            go_roundw
            case rel =>
              have hst2 : rdI s N r0 [] = rdI s (N - (i + 1)) ⟨az, false⟩ (li ++ [⟨op, N1, N2⟩]) := hst1.out
              refine ⟨i + 1, ⟨az, false⟩, li ++ [⟨op, N1, N2⟩], by omega, by go_num, by simp [hli], Lib.hid hst2, ?_, ?_, ?_⟩
              · rw [append_ins]; exact hown6
              · exact (K3.out.alloc _).grown hgr (Ne.symm (own_ne O3.out hgw))
              · exact (B3.out.thenBelow ((Below.refl _ _).alloc B3.out.size _)).thenBelow ((Below.refl _ _).grown hgr (by rw [World.size_alloc]; exact Nat.le_succ_of_le B3.out.size) (fun k hk => own_ge O3.out hk))
            case measure => simp [intOf]; omega
        · go_wp2_with (first
            | (go_at_call 24; go_must ((with_reducible refine hby.out.mono ?_); rintro e w1 ⟨rfl, hk1, hb1⟩; have hsz := hb1.size; have O1 := Lib.hid (own_below (own_but hO.out hb1 hgw) ((Below.refl w1.heap.size w1).alloc (Nat.le_refl _) (IObj ⟨op, 0, 0⟩))); have X1 := Lib.hid (Bk.new w1 26 (iCells ⟨op, 0, 0⟩)); have K1 := Lib.hid (hk1.alloc (IObj ⟨op, 0, 0⟩)); have B1 := Lib.hid ((hB.out.trans hb1).trans (But.of_below ((Below.refl w1.heap.size w1).alloc (Nat.le_refl _) (IObj ⟨op, 0, 0⟩)))); have hg0 := K1.out.lt; clear hk1 hb1))
            | (go_at_call 15; go_must ((with_reducible refine (htk.out _).mono ?_); rintro e w2 ⟨rfl, rfl⟩))
            | (go_at_call 25; clear m1; go_must ((with_reducible refine (hn1.out _ K1.out).mono ?_); rintro e w4 ⟨rfl, hk4, hb4⟩; have O4 := Lib.hid (own_far (own_but O1.out hb4 hgw) (p := ⟨w1.heap.size, 1, none⟩) (fun k hk => by have := hvl.out k hk; simp; omega) (.int .i64 N1)); have X4a := Lib.hid (hb4.bk X1.out (by omega)); have X4 := Lib.hid (X4a.out.set 1 (.int .i64 N1)); have K4 := Lib.hid (hk4.far (p := ⟨w1.heap.size, 1, none⟩) (by simp; omega) (.int .i64 N1)); have B4 := Lib.hid ((B1.out.trans hb4).setNew (p := ⟨w1.heap.size, 1, none⟩) (by simp; omega) (.int .i64 N1)); obtain ⟨x0, x1, x2, xf⟩ := Bk.three X4a.out; have hx1 := X4a.out.lt; simp only at x0 x1 x2; clear hk4 hb4))
            | (clear x0 x1 x2 xf hx1; go_at_call 25; go_must ((with_reducible refine (hn2.out _ K4.out).mono ?_); rintro e w5 ⟨rfl, hk5, hb5⟩; have O5 := Lib.hid (own_far (own_but O4.out hb5 hgw) (p := ⟨w1.heap.size, 2, none⟩) (fun k hk => by have := hvl.out k hk; simp; omega) (.int .i64 N2)); have X5a := Lib.hid (hb5.bk X4.out (by omega)); have X5 := Lib.hid (X5a.out.set 2 (.int .i64 N2)); have K5 := Lib.hid (hk5.far (p := ⟨w1.heap.size, 2, none⟩) (by simp; omega) (.int .i64 N2)); have B5 := Lib.hid ((B4.out.trans hb5).setNew (p := ⟨w1.heap.size, 2, none⟩) (by simp; omega) (.int .i64 N2)); obtain ⟨x0, x1, x2, xf⟩ := Bk.three (show Bk w5 w1.heap.size 26 #[.int .i64 op, .int .i64 N1, .int .i64 0] from X5a.out); have hx1 := X5a.out.lt; obtain ⟨-, -, c2, cf⟩ := Bk.frs hk5; have hg5 := hk5.lt; simp only at c2; clear hk5 hb5)))
          go_ret2
          rw [show rdI s N r0 [] = (none, ⟨az, true⟩) from hst1.out]
          exact ⟨K5.out.bad true, B5.out.trans (But.set _ _ _), rfl⟩
    · have d0 : ¬ (i : Int) < (N : Int) := by omega
      obtain rfl : i = N := by omega
      have hown' := Lib.hid hown
      have hk2 := Lib.hid hk
      clear hown hk
      go_wp2
      go_ret2
      rw [hrd.out, Nat.sub_self]
      exact ⟨hk2.out, hb, _, rfl, by rw [hli]; exact hown'.out⟩

theorem rread_any (s : ByteArray) (n : Int) (r0 : Rd) (g : Nat) (w : World) (hk : Bk w g 33 (frV s r0)) (hs : s.size ≤ 4611686018427387904) (hn : n ≤ 1048576) :
    Calls Tryd.prog 13 #[.pointer (some ⟨g, 0, none⟩), .int .i64 n] w (ReadPost 33 s (rdI s n.toNat r0 []) g w) := by
  by_cases h0 : 0 ≤ n
  · obtain ⟨N, rfl⟩ := Int.eq_ofNat_of_zero_le h0
    rw [Int.toNat_natCast]
    exact rread_nat s N r0 g w hk hs (by omega)
  · rw [show n.toNat = 0 by omega]
    have d0 : ¬ (0 : Int) < n := by omega
    clear h0 hn
    have hk' := Lib.hid hk
    clear hk
    go_enter Tryd.func13, Tryd.ntmps13
    go_wp2
    go_loop [6, 7] (fun v c => v = .slice none 0 0 ∧ c = .int .i64 0) (fun _ _ => 0)
    case atStart => exact ⟨rfl, rfl⟩
    case round =>
      obtain ⟨rfl, rfl⟩ := hrel
      go_wp2
      go_ret2
      exact ⟨hk'.out, But.refl _ _, _, rfl, ⟨rfl, .inl ⟨rfl, rfl⟩⟩⟩

end Go.Proofs.YtlffdaiideoijaaDoor
