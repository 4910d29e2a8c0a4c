/-
  What instr.Print answers, in whatever memory that has the kinds' table: the bytes of at most 1,000 instructions that are right.
-/
import Derived.Test.YtlffdaiideoijaaDoorInsE
import Derived.Test.YtlffdaiideoijaaDoorLayF
import Derived.Test.YtlffdaiideoijaaDoorBldrB
namespace Go.Proofs.YtlffdaiideoijaaDoor
open Go.RowKit

theorem insB_take {x : Ins} {tk : Nat} (h : takesN x.op = tk) : insB x = x.op.toNat :: ([x.a, x.b].take tk).flatMap numB := by
  subst h
  rcases takes_two x.op with h | h | h
  · rw [insB0 h, h]; rfl
  · rw [insB1 h, h]; simp
  · rw [insB2 h, h]; simp

theorem two_flat (a b : Int) (k : Nat) : (([a, b].take k).flatMap numB).length ≤ 16 := by
  rw [flat_length, List.length_take]
  simp
  omega

set_option maxRecDepth 100000 in
set_option maxHeartbeats 16000000 in
theorem print_any (l : List Ins) (hr : ∀ x ∈ l, rightN x) (A : Option Addr) (c : Nat) (w : World) (h : Inss w A c l) (hn : l.length ≤ 1000) (hT : HasKinds w) :
    Calls Tryd.prog 10 #[.slice A l.length c] w fun e w' => e = .returned (.string (strL (printN l))) ∧ Below w.heap.size w w' := by
  have hc := h.2.1
  have hcl : Hid (∀ i, i < l.length → ∀ W, Below w.heap.size w W → ∃ b off, A = some ⟨b, off, none⟩ ∧ b < W.heap.size ∧ W.cell? ⟨b, off + i * 3, none⟩ = some (.int .i64 (insAt l i).op) ∧ W.cell? ⟨b, off + i * 3 + 1, none⟩ = some (.int .i64 (insAt l i).a) ∧ W.cell? ⟨b, off + i * 3 + 2, none⟩ = some (.int .i64 (insAt l i).b)) :=
    Lib.hid fun i hi W hb => (h.below hb).cellAt hi
  have hst : Hid (∀ i, i < l.length → printN (l.take (i + 1)) = printN (l.take i) ++ insB (insAt l i)) := Lib.hid (fun i hi => printN_snoc l i hi)
  have hle : Hid (∀ i, (printN (l.take i)).length ≤ 17 * l.length) := Lib.hid (fun i => printN_take_le l i)
  have hrg : Hid (∀ i, i < l.length → rightN (insAt l i)) := Lib.hid (fun i hi => hr _ (insAt_mem hi))
  have hall : Hid (printN (l.take l.length) = printN l) := Lib.hid (by rw [List.take_length])
  have h0 : Hid (printN (l.take 0) = []) := Lib.hid (by simp [printN])
  have hT' := Lib.hid hT
  clear h hr hT
  generalize l.length = N at *
  go_enter Tryd.func10, Tryd.ntmps10
  go_wp2
  go_loopw [10] (fun cc wr => ∃ i : Nat, i ≤ N ∧ cc = .int .i64 i ∧ Lib.IsBuilderF 46 5 w.heap.size w.heap.size (Lib.byteCells (u8L (printN (l.take i)))) wr ∧ Below w.heap.size w wr ∧ w.heap.size < wr.heap.size) (fun cc _ => N - (intOf cc).toNat)
  case atStart => exact ⟨0, Nat.zero_le _, rfl, by rw [h0.out]; exact builder_new w _ _, (Below.refl _ _).alloc (Nat.le_refl _) _, by rw [World.size_alloc]; omega⟩
  case round =>
    obtain ⟨i, hi, rfl, hI, hb, hsz⟩ := hrel
    have hl1 := hle.out i
    by_cases hlt : i < N
    · have d1 : (i : Int) < (N : Int) := by omega
      have d2 : (i : Int) < (c : Int) := by omega
      obtain ⟨b, off, rfl, hbl, x0, x1, x2⟩ := hcl.out i hlt wr hb
      have hrx := hrg.out i hlt
      have hs1 := hst.out i hlt
      have hB1 := Lib.hid (fun tk h => insB_take (x := insAt l i) (tk := tk) h)
      have ht3 := takes_two (insAt l i).op
      have htk : Hid (∀ W : World, HasKinds W → _) := Lib.hid (fun W hW => takes_any (insAt l i).op W hW)
      have hpl : Hid (∀ W : World, _) := Lib.hid (fun W => places_any (insAt l i) W)
      have hri : Hid (∀ W : World, HasKinds W → _) := Lib.hid (fun W hW => right_any (insAt l i) true (decide_eq_true hrx) W hW)
      obtain ⟨⟨o1, o2⟩, -, -⟩ := hrx
      generalize insAt l i = x at *
      generalize printN (l.take i) = T0 at *
      obtain ⟨o, ho⟩ := Int.eq_ofNat_of_zero_le (show 0 ≤ x.op by omega)
      have hto : x.op.toNat = o := by omega
      rw [ho] at x0 o1 o2 htk
      have hwo : ∀ W, _ := fun W hW hBW => write_one w.heap.size w.heap.size T0 o (by omega) W hW (by omega) hBW
      have hW' := Lib.hid hwo
      have hbW : Below wr.heap.size wr (wr.alloc (IObj x)) := (Below.refl _ _).alloc (Nat.le_refl _) _
      have hI1 := Lib.hid (builder_below hI hbW)
      have hb1 := Lib.hid (hb.trans (hbW.mono hb.size))
      have X1 := Lib.hid (Bk.new wr 26 (iCells x))
      have hne : wr.heap.size ≠ w.heap.size := by omega
      obtain ⟨op, xa, xb⟩ := x
      simp only at ho hto x1 x2
      subst ho
      clear hI hwo hbW
      go_wp2_with (first
        | (go_at_call 8; go_must ((with_reducible refine (hri.out _ (hT'.out.belowS hb1.out)).mono ?_); rintro e w2 ⟨rfl, hb2⟩; have I2 := Lib.hid (builder_below hI1.out hb2); have B2 := Lib.hid (hb1.out.trans (hb2.mono hb1.out.size)); have X2 := Lib.hid (X1.out.below hb2); obtain ⟨y0, y1, y2, yf⟩ := Bk.three X2.out; have hy := X2.out.lt; simp only at y0 y1 y2))
        | (go_at_call 18; go_must ((with_reducible refine (hW'.out _ I2.out B2.out.size).mono ?_); rintro e w3 ⟨rfl, hI3, hb3, ho3⟩; have I3 := Lib.hid hI3; have B3 := Lib.hid (B2.out.trans hb3); have X3 := Lib.hid (kept_bk ho3 X2.out hne (by decide)); have hsz3 : w.heap.size < w3.heap.size := Nat.lt_of_lt_of_le (by omega) hb3.size; obtain ⟨z0, z1, z2, zf⟩ := Bk.three X3.out; have hz := X3.out.lt; simp only at z0 z1 z2; clear hI3 y0 y1 y2 yf hy)))
      have hT1 : Hid (HasKinds w3.drew) := Lib.hid ((hT'.out.belowS B3.out).belowS (below_drew1 _))
      have hT2 : Hid (HasKinds (placed ⟨(o : Nat), xa, xb⟩ w3.drew)) := Lib.hid (hT1.out.belowS (placed_below _ _))
      have hP4 := Lib.hid (placed_bk ⟨(o : Nat), xa, xb⟩ w3.drew)
      have hI4 := Lib.hid (builder_below (builder_below I3.out (below_drew1 _)) (placed_below ⟨(o : Nat), xa, xb⟩ w3.drew))
      have hB4 := Lib.hid ((B3.out.trans ((below_drew1 w3).mono B3.out.size)).trans ((placed_below ⟨(o : Nat), xa, xb⟩ w3.drew).mono B3.out.size))
      have hsz4 : Hid (w.heap.size < (placed ⟨(o : Nat), xa, xb⟩ w3.drew).heap.size) := Lib.hid (Nat.lt_of_lt_of_le hsz3 (placed_below ⟨(o : Nat), xa, xb⟩ w3.drew).size)
      have hrow : w3.drew.heap.size + 1 ≠ w.heap.size := by have : w3.drew.heap.size = w3.heap.size := rfl; omega
      obtain ⟨wo, rfl⟩ : ∃ wo : World, wo = wr := ⟨_, rfl⟩
      obtain ⟨tk, hG⟩ : ∃ tk, takesN (o : Nat) = tk := ⟨_, rfl⟩
      rw [hB1.out tk hG, hto] at hs1
      rw [hG] at htk ht3
      obtain ⟨tz, htz⟩ : ∃ tz : Int, tz = tk := ⟨_, rfl⟩
      rw [← htz] at htk
      obtain ⟨K, hK⟩ : ∃ K, K = tk := ⟨_, rfl⟩
      rw [← hK] at hs1
      have hs2 := Lib.hid hs1
      clear hs1 hB1 hG hri
      rcases ht3 with rfl | rfl | rfl
      all_goals
        first
          | obtain rfl : tz = 0 := htz
          | obtain rfl : tz = 1 := htz
          | obtain rfl : tz = 2 := htz
        go_region_held3 (fun w' => w'.cell? ⟨wo.heap.size, 0, none⟩ = some (.int .i64 (o : Nat)) ∧ w'.cell? ⟨wo.heap.size, 1, none⟩ = some (.int .i64 xa) ∧ w'.cell? ⟨wo.heap.size, 2, none⟩ = some (.int .i64 xb)) (first | go_keep | (unfold placed; go_keep))
          (first
            | (go_at_call 17; refine (htk.out _ (by first | exact hT1.out | exact hT2.out)).mono ?_; rintro e w9 ⟨rfl, rfl⟩)
            | (go_at_call 16; refine (hpl.out _).mono ?_; rintro e w8 ⟨rfl, rfl⟩))
        go_wp2
        obtain ⟨W4, hW4⟩ : ∃ W4, W4 = placed ⟨(o : Nat), xa, xb⟩ w3.drew := ⟨_, rfl⟩
        rw [← hW4] at hP4 hI4 hB4 hsz4 ⊢
        have hP5 : Hid (Bk W4 (w3.heap.size + 1) 3 #[.int .i64 xa, .int .i64 xb]) := hP4
        have hrow2 : w3.heap.size + 1 ≠ w.heap.size := hrow
        clear hW4 hT1 hT2 htk hpl hP4 hrow
        obtain ⟨PB, hPB⟩ : ∃ PB, PB = w3.heap.size + 1 := ⟨_, rfl⟩
        rw [← hPB] at hP5 hrow2 ⊢
        clear hPB
        go_loopw [28] (fun cc wi => ∃ k : Nat, k ≤ K ∧ cc = .int .i64 k ∧ Lib.IsBuilderF 46 5 w.heap.size w.heap.size (Lib.byteCells (u8L (T0 ++ o :: ([xa, xb].take k).flatMap numB))) wi ∧ Below w.heap.size w wi ∧ w.heap.size < wi.heap.size ∧ Bk wi PB 3 #[.int .i64 xa, .int .i64 xb]) (fun cc _ => K - (intOf cc).toNat)
        case atStart => exact ⟨0, Nat.zero_le _, rfl, hI4.out, hB4.out, hsz4.out, hP5.out⟩
        case round =>
          clear hI4 hB4 hsz4 hP5
          obtain ⟨k, hk, rfl, hIk, hbk, hsk, hPk⟩ := hrel
          have hIk' := Lib.hid hIk
          have hPk' := Lib.hid hPk
          clear hIk
          rcases Nat.lt_or_ge k K with hkl | hkl
          · obtain ⟨y0, y1, yf⟩ := hPk.two
            have hy := hPk.lt
            have hfl := two_flat xa xb k
            clear hPk
            rcases (show k = 0 ∨ k = 1 by omega) with rfl | rfl
            all_goals
              first
                | (exfalso; omega)
                | (have hn0 := num_str xa
                   have hn1 := num_str xb
                   go_wp2_with (first
                     | (go_at_call 20; go_must ((first | with_reducible refine (hn0 _).mono ?_ | with_reducible refine (hn1 _).mono ?_); rintro e w5 ⟨rfl, hb5⟩; have I5 := Lib.hid (builder_below hIk'.out hb5); have B5 := Lib.hid (hbk.trans (hb5.mono hbk.size)); have P5 := Lib.hid (hPk'.out.below hb5); have hs5 : w.heap.size < w5.heap.size := Nat.lt_of_lt_of_le hsk hb5.size; clear hn0 hn1))
                     | (go_at_call 19; go_must ((with_reducible refine (write_any w.heap.size w.heap.size _ _ w5 I5.out (by simp only [List.length_append, List.length_cons, numB_length] at hfl ⊢; omega) (Nat.le_of_lt hs5)).mono ?_); rintro e w6 ⟨rfl, hI6, hb6, ho6⟩; have P6 := Lib.hid (kept_bk ho6 P5.out hrow2 (by decide)); have hI6' := Lib.hid hI6; clear hI6)))
                   go_roundw
                   case rel => exact ⟨_, hkl, by go_num, by simpa using hI6'.out, B5.out.trans hb6, Nat.lt_of_lt_of_le hs5 hb6.size, P6.out⟩
                   case measure => simp [intOf]; omega)
          · obtain rfl : k = K := by omega
            subst hK
            clear hkl hPk
            go_wp2
            go_roundw
            case rel => exact ⟨i + 1, by omega, by go_num, by rw [hs2.out]; exact hIk'.out, hbk, hsk⟩
            case measure => simp [intOf]; omega
    · obtain rfl : i = N := by omega
      have d1 : ¬ (i : Int) < (i : Int) := by omega
      have hI' := Lib.hid hI
      clear hI
      go_wp2_with (go_at_call 21; go_must ((with_reducible refine (Tryd.string_any w.heap.size w.heap.size _ wr hI'.out (Nat.le_of_lt hsz)).mono ?_); rintro e w4 ⟨rfl, -, hb4, -⟩))
      go_ret
      exact ⟨by rw [hall.out]; rfl, hb.trans hb4⟩

end Go.Proofs.YtlffdaiideoijaaDoor
