/-
  What the reference's Print of layer 6 answers, in whatever memory: the bytes of at most 1,000 instructions that are right.
-/
import Derived.Test.YtlffdaiideoijaaDoorInsA
import Derived.Test.YtlffdaiideoijaaDoorLayR
namespace Go.Proofs.YtlffdaiideoijaaDoor
open Go.RowKit

theorem printN_snoc (l : List Ins) (i : Nat) (h : i < l.length) : printN (l.take (i + 1)) = printN (l.take i) ++ insB (insAt l i) := by
  rw [List.take_add_one, printN, List.flatMap_append, insAt, List.getElem?_eq_getElem h]
  simp [printN]
theorem insB_le (x : Ins) : (insB x).length ≤ 17 := by
  rw [insB_length]
  rcases takes_two x.op with h | h | h <;> omega
theorem printN_le : ∀ l : List Ins, (printN l).length ≤ 17 * l.length
  | [] => by simp [printN]
  | x :: l => by
    have := printN_le l
    have := insB_le x
    rw [show printN (x :: l) = insB x ++ printN l from List.flatMap_cons, List.length_append, List.length_cons]
    omega
theorem printN_take_le (l : List Ins) (i : Nat) : (printN (l.take i)).length ≤ 17 * l.length := by
  have h1 := printN_le (l.take i)
  have h2 := List.length_take_le' i l
  omega
theorem insB0 {x : Ins} (h : takesN x.op = 0) : insB x = [x.op.toNat] := by
  rw [insB, if_neg (by omega), if_neg (by omega)]
  rfl
theorem insB1 {x : Ins} (h : takesN x.op = 1) : insB x = [x.op.toNat] ++ numB x.a := by
  rw [insB, if_pos (by omega), if_neg (by omega), List.append_nil]
  rfl
theorem insB2 {x : Ins} (h : takesN x.op = 2) : insB x = [x.op.toNat] ++ numB x.a ++ numB x.b := by
  rw [insB, if_pos (by omega), if_pos (by omega)]
  rfl

theorem conv_one (o : Nat) (W : World) :
    (convert 44 9 (.slice (some ⟨W.heap.size, 0, none⟩) 1 1)).run Tryd.prog (W.alloc (.cells #[.int .u8 (o : Int)] 5)) = .ok (.string (strL [o])) (W.alloc (.cells #[.int .u8 (o : Int)] 5)) :=
  conv_by (By.one W o) 1 1 rfl

theorem insAt_mem {l : List Ins} {i : Nat} (h : i < l.length) : insAt l i ∈ l := by
  rw [insAt, List.getElem?_eq_getElem h]
  exact List.getElem_mem _

set_option maxHeartbeats 8000000 in
theorem rprint_any (l : List Ins) (hr : ∀ x ∈ l, rightN x) (A : Option Addr) (c : Nat) (w : World) (h : Inss w A c l) (hn : l.length ≤ 1000) :
    Calls Tryd.prog 11 #[.slice A l.length c] w fun e w' => e = .returned (.string (strL (printN l))) ∧ Below w.heap.size w w' := by
  have hc := h.2.1
  have hcl : Hid (∀ i, i < l.length → ∀ W, Below w.heap.size w W → ∃ b off, A = some ⟨b, off, none⟩ ∧ b < W.heap.size ∧ W.cell? ⟨b, off + i * 3, none⟩ = some (.int .i64 (insAt l i).op) ∧ W.cell? ⟨b, off + i * 3 + 1, none⟩ = some (.int .i64 (insAt l i).a) ∧ W.cell? ⟨b, off + i * 3 + 2, none⟩ = some (.int .i64 (insAt l i).b)) :=
    Lib.hid fun i hi W hb => (h.below hb).cellAt hi
  have hst : Hid (∀ i, i < l.length → printN (l.take (i + 1)) = printN (l.take i) ++ insB (insAt l i)) := Lib.hid (fun i hi => printN_snoc l i hi)
  have hle : Hid (∀ i, (printN (l.take i)).length ≤ 17 * l.length) := Lib.hid (fun i => printN_take_le l i)
  have hrg : Hid (∀ i, i < l.length → rightN (insAt l i)) := Lib.hid (fun i hi => hr _ (insAt_mem hi))
  have hall : Hid (printN (l.take l.length) = printN l) := Lib.hid (by rw [List.take_length])
  have h0 : Hid (printN (l.take 0) = []) := Lib.hid (by simp [printN])
  clear h hr
  generalize l.length = N at *
  go_enter Tryd.func11, Tryd.ntmps11
  go_wp2
  go_loopw [3, 4] (fun v cc wr => ∃ i : Nat, i ≤ N ∧ cc = .int .i64 i ∧ v = .string (strL (printN (l.take i))) ∧ Below w.heap.size w wr) (fun _ cc _ => N - (intOf cc).toNat)
  case atStart => exact ⟨0, Nat.zero_le _, rfl, by rw [h0.out]; rfl, Below.refl _ _⟩
  case round =>
    obtain ⟨i, hi, rfl, rfl, hb⟩ := hrel
    have hl1 := hle.out i
    by_cases hlt : i < N
    · have d1 : (i : Int) < (N : Int) := by omega
      have d2 : (i : Int) < (c : Int) := by omega
      obtain ⟨b, off, rfl, hbl, x0, x1, x2⟩ := hcl.out i hlt wr hb
      obtain ⟨⟨o1, o2⟩, -, -⟩ := hrg.out i hlt
      have hs1 := hst.out i hlt
      have hB0 := insB0 (x := insAt l i)
      have hB1 := insB1 (x := insAt l i)
      have hB2 := insB2 (x := insAt l i)
      have ht3 := takes_two (insAt l i).op
      have htk : Hid (∀ W : World, _) := Lib.hid (fun W => rtakes_any (insAt l i).op W)
      have hcl2 := Lib.hid (hcl.out i hlt)
      generalize insAt l i = x at *
      obtain ⟨o, ho⟩ := Int.eq_ofNat_of_zero_le (show 0 ≤ x.op by omega)
      have hto : x.op.toNat = o := by omega
      rw [hto] at hB0 hB1 hB2
      rw [ho] at x0 o1 o2 htk
      have hcv := conv_one o
      have hsz0 : (strL (printN (l.take i))).size ≤ 17000 := by rw [strL_size]; omega
      have hsz1 : (strL [o]).size = 1 := by rw [strL_size]; rfl
      have hsza : (strL (numB x.a)).size = 8 := by rw [strL_size, numB_length]
      have hszb : (strL (numB x.b)).size = 8 := by rw [strL_size, numB_length]
      rcases ht3 with ht | ht | ht
      · rw [hB0 ht] at hs1
        have hTk : Hid (∀ W : World, Calls Tryd.prog 15 #[.int .i64 (o : Nat)] W fun e w' => e = .returned (.int .i64 0) ∧ W = w') := Lib.hid (fun W => by have := htk.out W; rw [← ho, ht] at this; rw [← ho]; exact this)
        have hs2 := Lib.hid hs1
        have hfin : Hid (strL (printN (l.take i)) ++ strL [o] = strL (printN (l.take (i + 1)))) := Lib.hid (by rw [hs2.out, strL_append])
        generalize strL (printN (l.take i)) = S at *
        generalize strL [o] = So at *
        clear hs1 hB0 hB1 hB2 ht htk ho hto hst hle hrg hall h0 hcl
        have hb0 := Lib.hid (bnext hb ((Below.refl wr.heap.size wr).alloc (Nat.le_refl _) (.cells #[.int .u8 (o : Int)] 5)))
        go_wp2_with (first
          | (go_at_call 15; go_must ((with_reducible refine (hTk.out _).mono ?_); rintro e w1 ⟨rfl, rfl⟩)))
        go_roundw
        case rel => exact ⟨i + 1, by omega, by go_num, by rw [← hfin.out], hb0.out⟩
        case measure => simp [intOf]; omega
      · rw [hB1 ht] at hs1
        have hTk : Hid (∀ W : World, Calls Tryd.prog 15 #[.int .i64 (o : Nat)] W fun e w' => e = .returned (.int .i64 1) ∧ W = w') := Lib.hid (fun W => by have := htk.out W; rw [← ho, ht] at this; rw [← ho]; exact this)
        have hs2 := Lib.hid hs1
        have hfin : Hid (strL (printN (l.take i)) ++ strL [o] ++ strL (numB x.a) = strL (printN (l.take (i + 1)))) := Lib.hid (by rw [hs2.out, strL_append, strL_append, List.append_assoc])
        generalize strL (printN (l.take i)) = S at *
        generalize strL [o] = So at *
        have hn1 := Lib.hid (rnum_str x.a)
        generalize strL (numB x.a) = Sa at *
        clear hs1 hB0 hB1 hB2 ht htk ho hto hst hle hrg hall h0 hcl
        have hb0 := Lib.hid (bnext hb ((Below.refl wr.heap.size wr).alloc (Nat.le_refl _) (.cells #[.int .u8 (o : Int)] 5)))
        go_wp2_with (first
          | (go_at_call 15; go_must ((with_reducible refine (hTk.out _).mono ?_); rintro e w1 ⟨rfl, rfl⟩))
          | (go_at_call 22; go_must ((with_reducible refine (hn1.out _).mono ?_); rintro e w5 ⟨rfl, hb5⟩; have B5 := Lib.hid (bnext hb0.out hb5); clear hb5)))
        go_roundw
        case rel => exact ⟨i + 1, by omega, by go_num, by rw [← hfin.out], B5.out⟩
        case measure => simp [intOf]; omega
      · rw [hB2 ht] at hs1
        have hTk : Hid (∀ W : World, Calls Tryd.prog 15 #[.int .i64 (o : Nat)] W fun e w' => e = .returned (.int .i64 2) ∧ W = w') := Lib.hid (fun W => by have := htk.out W; rw [← ho, ht] at this; rw [← ho]; exact this)
        have hs2 := Lib.hid hs1
        have hfin : Hid (strL (printN (l.take i)) ++ strL [o] ++ strL (numB x.a) ++ strL (numB x.b) = strL (printN (l.take (i + 1)))) := Lib.hid (by rw [hs2.out, strL_append, strL_append, strL_append, List.append_assoc, List.append_assoc, List.append_assoc])
        generalize strL (printN (l.take i)) = S at *
        generalize strL [o] = So at *
        have hn1 := Lib.hid (rnum_str x.a)
        have hn2 := Lib.hid (rnum_str x.b)
        generalize strL (numB x.a) = Sa at *
        generalize strL (numB x.b) = Sb at *
        clear hs1 hB0 hB1 hB2 ht htk ho hto hst hle hrg hall h0 hcl
        have hb0 := Lib.hid (bnext hb ((Below.refl wr.heap.size wr).alloc (Nat.le_refl _) (.cells #[.int .u8 (o : Int)] 5)))
        have m1 : True := trivial
        go_wp2_with (first
          | (go_at_call 15; go_must ((with_reducible refine (hTk.out _).mono ?_); rintro e w1 ⟨rfl, rfl⟩))
          | (go_at_call 22; clear m1; go_must ((with_reducible refine (hn1.out _).mono ?_); rintro e w5 ⟨rfl, hb5⟩; have B5 := Lib.hid (bnext hb0.out hb5); obtain ⟨b5, off5, hA5, hbl5, y0, y1, y2⟩ := hcl2.out w5 B5.out; injection hA5 with hA5; injection hA5 with hA5 hA6; subst hA5; subst hA6; clear hb5))
          | (go_at_call 22; go_must ((with_reducible refine (hn2.out _).mono ?_); rintro e w6 ⟨rfl, hb6⟩; have B6 := Lib.hid (bnext B5.out hb6))))
        go_roundw
        case rel => exact ⟨i + 1, by omega, by go_num, by rw [← hfin.out], B6.out⟩
        case measure => simp [intOf]; omega
    · obtain rfl : i = N := by omega
      have d1 : ¬ (i : Int) < (i : Int) := by omega
      go_wp2
      go_ret
      exact ⟨by rw [hall.out]; rfl, hb⟩

end Go.Proofs.YtlffdaiideoijaaDoor
