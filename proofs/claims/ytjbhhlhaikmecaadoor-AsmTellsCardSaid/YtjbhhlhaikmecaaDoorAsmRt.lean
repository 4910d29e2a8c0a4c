/-
  What the reference's Tell of layer 5 answers, in whatever memory, of instructions that may be told: their text.
-/
import Derived.Test.YtjbhhlhaikmecaaDoorAsmT
import Derived.Test.YtjbhhlhaikmecaaDoorAsmRa
import Derived.Deep.DeepCutAuto
import Derived.Deep.CutBlock
import Derived.Deep.QuietTactic
import Derived.BigQuiet
import Derived.IntWalk
namespace Go.Proofs.YtjbhhlhaikmecaaDoor
open Go.RowKit

theorem rdigitsQ (n : Int) (h : -1099511627776 ≤ n ∧ n ≤ 1099511627776) (w : World) : Calls Tryd.prog 36 #[.int .i64 n] w fun e w' => e = .returned (.string (strL (decZ n))) ∧ w' = w :=
  (rdigitsZ n h.1 h.2 w).mono fun _ _ ⟨a, b⟩ => ⟨a, b.symm⟩

theorem line_text0 {i : Nat} {x : Ins} (hj : ¬ jumpsN x.op) (ht : takesN x.op = 0) : textT (lineT i x) = wordN x.op ++ [10] := by
  rw [text_nums hj, numsOf, ht]; simp [numsTx]
theorem line_text1 {i : Nat} {x : Ins} (hj : ¬ jumpsN x.op) (ht : takesN x.op = 1) : textT (lineT i x) = wordN x.op ++ [32] ++ decZ x.a ++ [10] := by
  rw [text_nums hj, numsOf, ht]; simp [numsTx]
theorem line_text2 {i : Nat} {x : Ins} (hj : ¬ jumpsN x.op) (ht : takesN x.op = 2) : textT (lineT i x) = wordN x.op ++ [32] ++ decZ x.a ++ [32] ++ decZ x.b ++ [10] := by
  rw [text_nums hj, numsOf, ht]; simp [numsTx]

set_option maxRecDepth 100000 in
set_option maxHeartbeats 16000000 in
theorem rtell_any (l : List Ins) (ht : tellable l) (A : Option Addr) (c : Nat) (w : World) (h : Inss w A c l) :
    Calls Tryd.prog 20 #[.slice A l.length c] w fun e w' => e = .returned (.string (strL (tellN l))) ∧ Below w.heap.size w w' := by
  have hlen := ht.len
  have ht' := Lib.hid ht
  have h' := Lib.hid h
  have hcap := h.2.1
  obtain ⟨N, hN⟩ : ∃ N, N = l.length := ⟨_, rfl⟩
  have hN' := Lib.hid hN
  rw [← hN] at hlen hcap ⊢
  clear ht h hN
  go_enter Tryd.func20, Tryd.ntmps20
  go_wp2
  go_loopw [3, 4] (fun cs ci wr => ∃ i : Nat, i ≤ N ∧ ci = .int .i64 i ∧ cs = .string (strL (textT (upToT l i))) ∧ Below w.heap.size w wr) (fun _ ci _ => N + 1 - (intOf ci).toNat)
  case atStart => exact ⟨0, Nat.zero_le _, rfl, rfl, Below.refl _ _⟩
  case round =>
    obtain ⟨i, hi, rfl, rfl, hb⟩ := hrel
    have htl := upTo_len ht'.out i (by rw [← hN'.out]; exact hi)
    have d0 : (i : Int) ≤ (N : Int) := by omega
    have hmt := mark_text l i
    have hml := mark_len l i
    obtain ⟨S1, hS1⟩ : ∃ S1, S1 = strL (textT (upToT l i) ++ textT (markT l i)) := ⟨_, rfl⟩
    have zS : S1.size ≤ 2600 := by rw [hS1, strL_size, List.length_append]; omega
    have z0 : (strL (textT (upToT l i))).size ≤ 2600 := by rw [strL_size]; omega
    have hS1' := Lib.hid hS1
    clear hS1 htl hml
    go_upto_block 2 with fail
    go_cut [3] (fun s3 wc => s3 = .string S1 ∧ wc = wr)
    case first =>
      have hyes : Hid (aimAt l i → strL (textT (upToT l i)) ++ strL (labelN i) ++ ⟨#[58, 10]⟩ = S1) := Lib.hid (fun ha => by
        rw [hS1'.out, hmt, if_pos ha, show (⟨#[58, 10]⟩ : ByteArray) = strL [58, 10] from rfl, strL_app, strL_app, List.append_assoc])
      have hno : Hid (¬ aimAt l i → strL (textT (upToT l i)) = S1) := Lib.hid (fun ha => by rw [hS1'.out, hmt, if_neg ha, List.append_nil])
      clear hS1' hmt
      generalize strL (textT (upToT l i)) = S0 at *
      go_wp2_with fail
      go_loop [3, 5] (fun cs ck => ∃ k : Nat, k ≤ i ∧ ck = .int .i64 k ∧ cs = .string S0 ∧ Hid (∀ j, j < k → ¬ (jumpsN (insAt l j).op ∧ (j : Int) + 1 + (insAt l j).a = i))) (fun _ ck => i - (intOf ck).toNat)
      case atStart => exact ⟨0, Nat.zero_le _, rfl, rfl, Lib.hid (fun j hj => by omega)⟩
      case round =>
        obtain ⟨k, hk, rfl, rfl, HN⟩ := hrel
        by_cases hlt : k < i
        · have hil : k < l.length := by rw [← hN'.out]; omega
          obtain ⟨b, off, rfl, hbl, x0, x1, x2⟩ := (h'.out.below hb).cellAt hil
          have hga := (ht'.out.good k hil).a
          have q0 : (k : Int) < (i : Int) := by omega
          have q1 : (k : Int) < (N : Int) := by omega
          have q2 : (k : Int) < (c : Int) := by omega
          have hjd : Hid (∀ b W, decide (jumpsN (insAt l k).op) = b → _) := Lib.hid (fun b W h => rjumps_is (insAt l k).op b h W)
          have hlb := Lib.hid (rlabel_any i (by omega) wr)
          have zl : (strL (labelN i)).size = 3 := by rw [strL_size]; rfl
          generalize strL (labelN i) = L at *
          by_cases hj : jumpsN (insAt l k).op
          · have hj1 := Lib.hid (hjd.out true wr (decide_eq_true hj))
            by_cases hs : (k : Int) + 1 + (insAt l k).a = i
            · have e1 : ((k : Int) + 1 + (insAt l k).a == (i : Int)) = true := by simp [hs]
              have hy := Lib.hid (hyes.out ⟨k, hlt, hil, hj, hs⟩)
              clear hjd hj hs HN hyes hno
              generalize insAt l k = x at *
              go_wp2_with (first
                | (go_at_call 25; go_must ((with_reducible refine hj1.out.mono ?_); rintro e w1 ⟨rfl, rfl⟩))
                | (go_at_call 35; go_must ((with_reducible refine hlb.out.mono ?_); rintro e w1 ⟨rfl, rfl⟩)))
              go_meet
              exact ⟨by rw [← hy.out], rfl⟩
            · have e1 : ((k : Int) + 1 + (insAt l k).a == (i : Int)) = false := by simp [hs]
              have HN2 : Hid (∀ j, j < k + 1 → ¬ (jumpsN (insAt l j).op ∧ (j : Int) + 1 + (insAt l j).a = i)) := Lib.hid (fun j hjk => by
                rcases Nat.lt_or_eq_of_le (Nat.le_of_lt_succ hjk) with q | q
                · exact HN.out j q
                · subst q; exact fun z => hs z.2)
              clear hjd hj hs HN hyes hno
              generalize insAt l k = x at e1 x0 x1 x2 hga hj1
              go_wp2_with (first
                | (go_at_call 25; go_must ((with_reducible refine hj1.out.mono ?_); rintro e w1 ⟨rfl, rfl⟩)))
              go_round
              case rel => exact ⟨k + 1, by omega, by go_num, rfl, HN2⟩
              case measure => simp [intOf]; omega
          · have hj1 := Lib.hid (hjd.out false wr (decide_eq_false hj))
            have HN2 : Hid (∀ j, j < k + 1 → ¬ (jumpsN (insAt l j).op ∧ (j : Int) + 1 + (insAt l j).a = i)) := Lib.hid (fun j hjk => by
              rcases Nat.lt_or_eq_of_le (Nat.le_of_lt_succ hjk) with q | q
              · exact HN.out j q
              · subst q; exact fun z => hj z.1)
            clear hjd hj HN hyes hno
            generalize insAt l k = x at x0 x1 x2 hga hj1
            go_wp2_with (first
              | (go_at_call 25; go_must ((with_reducible refine hj1.out.mono ?_); rintro e w1 ⟨rfl, rfl⟩)))
            go_round
            case rel => exact ⟨k + 1, by omega, by go_num, rfl, HN2⟩
            case measure => simp [intOf]; omega
        · obtain rfl : k = i := by omega
          have hn := Lib.hid (hno.out (by rintro ⟨j, h1, _, h2⟩; exact HN.out j h1 h2))
          clear HN hyes hno
          go_wp2
          go_meet
          exact ⟨by rw [hn.out], rfl⟩
    case rest =>
      obtain ⟨rfl, rfl⟩ := hcut
      clear z0 hmt
      by_cases hiN : i < N
      · have hil : i < l.length := by rw [← hN'.out]; exact hiN
        obtain ⟨b, off, rfl, hbl, x0, x1, x2⟩ := (h'.out.below hb).cellAt hil
        have hg := ht'.out.good i hil
        have hjm := ht'.out.jump i hil
        rw [← hN'.out] at hjm
        have e0 : ((i : Int) == (N : Int)) = false := by simp; omega
        have q1 : (i : Int) < (N : Int) := by omega
        have q2 : (i : Int) < (c : Int) := by omega
        have hup : Hid (strL (textT (upToT l (i + 1))) = S1 ++ strL (textT (lineT i (insAt l i)))) := Lib.hid (by rw [upTo_text, hS1'.out, strL_app])
        clear hS1'
        have hw := Lib.hid (rword_any (insAt l i).op wc)
        have hwl := wordN_len hg.op
        have zw : (strL (wordN (insAt l i).op)).size ≤ 4 := by rw [strL_size]; exact hwl
        obtain ⟨hA, hB⟩ : (-1099511627776 ≤ (insAt l i).a ∧ (insAt l i).a ≤ 1099511627776) ∧ (-1099511627776 ≤ (insAt l i).b ∧ (insAt l i).b ≤ 1099511627776) := ⟨hg.a, hg.b⟩
        have htk : Hid (∀ W : World, _) := Lib.hid (fun W => rtakes_any (insAt l i).op W)
        have htl := takes_le (insAt l i).op
        have ha1 : (strL (decZ (insAt l i).a)).size ≤ 14 := by rw [strL_size]; exact decZ_lenA hA
        have hb1 : (strL (decZ (insAt l i).b)).size ≤ 14 := by rw [strL_size]; exact decZ_lenA hB
        have hda : Hid (∀ W : World, _) := Lib.hid (fun W => rdigitsQ (insAt l i).a hA W)
        have hdb : Hid (∀ W : World, _) := Lib.hid (fun W => rdigitsQ (insAt l i).b hB W)
        clear hg hwl
        by_cases hj : jumpsN (insAt l i).op
        · have hj1 : Hid (∀ W : World, _) := Lib.hid (fun W => rjumps_is (insAt l i).op true (decide_eq_true hj) W)
          have hj2 := hjm hj
          obtain ⟨n, hn⟩ := Int.eq_ofNat_of_zero_le (show 0 ≤ (i : Int) + 1 + (insAt l i).a by omega)
          have hlb0 : ∀ W : World, _ := fun W => rlabel_any n (by omega) W
          have zl : (strL (labelN n)).size = 3 := by rw [strL_size]; rfl
          have hlx := text_jump (i := i) hj
          rw [hn, Int.toNat_natCast] at hlx
          have hfin : Hid (S1 ++ strL (wordN (insAt l i).op) ++ ⟨#[32]⟩ ++ strL (labelN n) ++ ⟨#[10]⟩ = strL (textT (upToT l (i + 1)))) := Lib.hid (by
            rw [hup.out, hlx, show (⟨#[32]⟩ : ByteArray) = strL [32] from rfl, show (⟨#[10]⟩ : ByteArray) = strL [10] from rfl, ← strL_app, ← strL_app, ← strL_app]
            simp only [ByteArray.append_assoc])
          have hlb := Lib.hid hlb0
          have hn' : (n : Int) = (i : Int) + 1 + (insAt l i).a := hn.symm
          rw [hn'] at hlb
          clear hlb0 hlx hn hn' hj hj2 hjm hup hda hdb htk htl
          generalize strL (wordN (insAt l i).op) = WD at *
          generalize strL (labelN n) = L at *
          generalize insAt l i = x at *
          go_wp2_with (first
            | (go_at_call 15; go_must ((with_reducible refine hw.out.mono ?_); rintro e w2 ⟨rfl, hb2⟩; have y0 := (hb2.cell hbl).trans x0; have y1 := (hb2.cell hbl).trans x1))
            | (go_at_call 25; go_must ((with_reducible refine (hj1.out _).mono ?_); rintro e w1 ⟨rfl, rfl⟩))
            | (go_at_call 35; go_must ((with_reducible refine (hlb.out _).mono ?_); rintro e w1 ⟨rfl, rfl⟩)))
          go_roundw
          case rel => exact ⟨i + 1, by omega, by go_num, by rw [hfin.out], bnext hb hb2⟩
          case measure => simp [intOf]; omega
        · have hj1 : Hid (∀ W : World, _) := Lib.hid (fun W => rjumps_is (insAt l i).op false (decide_eq_false hj) W)
          clear hjm
          rcases (show takesN (insAt l i).op = 0 ∨ takesN (insAt l i).op = 1 ∨ takesN (insAt l i).op = 2 by omega) with ht0 | ht0 | ht0
          · have hlx := line_text0 (i := i) hj ht0
            have hfin : Hid (S1 ++ strL (wordN (insAt l i).op) ++ ⟨#[10]⟩ = strL (textT (upToT l (i + 1)))) := Lib.hid (by
              rw [hup.out, hlx, show (⟨#[10]⟩ : ByteArray) = strL [10] from rfl, ← strL_app]
              simp only [ByteArray.append_assoc])
            rw [ht0] at htk
            clear hj hup ht0 hlx htl hda hdb
            generalize strL (wordN (insAt l i).op) = WD at *
            generalize strL (decZ (insAt l i).a) = DA at *
            generalize strL (decZ (insAt l i).b) = DB at *
            generalize insAt l i = x at *
            go_wp2_with (first
              | (go_at_call 15; go_must ((with_reducible refine hw.out.mono ?_); rintro e w2 ⟨rfl, hb2⟩; have y0 := (hb2.cell hbl).trans x0; have y1 := (hb2.cell hbl).trans x1; have y2 := (hb2.cell hbl).trans x2))
              | (go_at_call 25; go_must ((with_reducible refine (hj1.out _).mono ?_); rintro e w1 ⟨rfl, rfl⟩))
              | (go_at_call 13; go_must ((with_reducible refine (htk.out _).mono ?_); rintro e w1 ⟨rfl, rfl⟩)))
            go_roundw
            case rel => exact ⟨i + 1, by omega, by go_num, by rw [hfin.out], bnext hb hb2⟩
            case measure => simp [intOf]; omega
          · have hlx := line_text1 (i := i) hj ht0
            have hfin : Hid (S1 ++ strL (wordN (insAt l i).op) ++ ⟨#[32]⟩ ++ strL (decZ (insAt l i).a) ++ ⟨#[10]⟩ = strL (textT (upToT l (i + 1)))) := Lib.hid (by
              rw [hup.out, hlx, show (⟨#[32]⟩ : ByteArray) = strL [32] from rfl, show (⟨#[10]⟩ : ByteArray) = strL [10] from rfl, ← strL_app, ← strL_app, ← strL_app]
              simp only [ByteArray.append_assoc])
            rw [ht0] at htk
            clear hj hup ht0 hlx htl hdb
            generalize strL (wordN (insAt l i).op) = WD at *
            generalize strL (decZ (insAt l i).a) = DA at *
            generalize strL (decZ (insAt l i).b) = DB at *
            generalize insAt l i = x at *
            go_wp2_with (first
              | (go_at_call 15; go_must ((with_reducible refine hw.out.mono ?_); rintro e w2 ⟨rfl, hb2⟩; have y0 := (hb2.cell hbl).trans x0; have y1 := (hb2.cell hbl).trans x1; have y2 := (hb2.cell hbl).trans x2))
              | (go_at_call 25; go_must ((with_reducible refine (hj1.out _).mono ?_); rintro e w1 ⟨rfl, rfl⟩))
              | (go_at_call 13; go_must ((with_reducible refine (htk.out _).mono ?_); rintro e w1 ⟨rfl, rfl⟩))
              | (go_at_call 36; go_must ((with_reducible refine (hda.out _).mono ?_); rintro e w1 ⟨rfl, rfl⟩)))
            go_roundw
            case rel => exact ⟨i + 1, by omega, by go_num, by rw [hfin.out], bnext hb hb2⟩
            case measure => simp [intOf]; omega
          · have hlx := line_text2 (i := i) hj ht0
            have hfin : Hid (S1 ++ strL (wordN (insAt l i).op) ++ ⟨#[32]⟩ ++ strL (decZ (insAt l i).a) ++ ⟨#[32]⟩ ++ strL (decZ (insAt l i).b) ++ ⟨#[10]⟩ = strL (textT (upToT l (i + 1)))) := Lib.hid (by
              rw [hup.out, hlx, show (⟨#[32]⟩ : ByteArray) = strL [32] from rfl, show (⟨#[10]⟩ : ByteArray) = strL [10] from rfl, ← strL_app, ← strL_app, ← strL_app, ← strL_app, ← strL_app]
              simp only [ByteArray.append_assoc])
            rw [ht0] at htk
            clear hj hup ht0 hlx htl
            generalize strL (wordN (insAt l i).op) = WD at *
            generalize strL (decZ (insAt l i).a) = DA at *
            generalize strL (decZ (insAt l i).b) = DB at *
            generalize insAt l i = x at *
            go_wp2_with (first
              | (go_at_call 15; go_must ((with_reducible refine hw.out.mono ?_); rintro e w2 ⟨rfl, hb2⟩; have y0 := (hb2.cell hbl).trans x0; have y1 := (hb2.cell hbl).trans x1; have y2 := (hb2.cell hbl).trans x2))
              | (go_at_call 25; go_must ((with_reducible refine (hj1.out _).mono ?_); rintro e w1 ⟨rfl, rfl⟩))
              | (go_at_call 13; go_must ((with_reducible refine (htk.out _).mono ?_); rintro e w1 ⟨rfl, rfl⟩)))
            go_quiet (first | (go_at_call_of 36 (Value.int .i64 x.a); exact Calls.quiet_of_same (hda.out _)) | (go_at_call_of 36 (Value.int .i64 x.b); exact Calls.quiet_of_same (hdb.out _)))
            go_wp2
            go_roundw
            case rel => exact ⟨i + 1, by omega, by go_num, by rw [hfin.out], below_drewN (bnext hb hb2) _⟩
            case measure => simp [intOf]; omega
      · obtain rfl : i = N := by omega
        have hfin : Hid (strL (tellN l) = S1) := Lib.hid (by rw [tellN, tellT, textT_append, ← hN'.out, hS1'.out])
        clear hS1' hiN
        go_wp2
        go_ret
        rw [hfin.out]
        exact ⟨rfl, hb⟩

end Go.Proofs.YtjbhhlhaikmecaaDoor
