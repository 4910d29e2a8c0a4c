/-
  What proof's fits, rises, emits and share answer (with slices.Index, Contains, IndexFunc, ContainsFunc), in whatever memory, of lists of at most 2^40 numbers. No conditions but those that stand there.
-/
import Derived.Test.YtlhipaecndgonaaDoorPrfA
import Derived.Test.YtlhipaecndgonaaDoorPrfQ
import Derived.Test.YtlhipaecndgonaaDoorAsmW
namespace Go.Proofs.YtlhipaecndgonaaDoor
open Go.RowKit

/-- a command's value: four slices and its fuel. -/
abbrev cmV (ra : Option Addr) (nr rc : Nat) (wa : Option Addr) (nw wc : Nat) (aa : Option Addr) (na ac : Nat) (fuel : Int) (ca : Option Addr) (nc cc : Nat) : Value :=
  .agg #[.slice ra nr rc, .slice wa nw wc, .slice aa na ac, .int .i64 fuel, .slice ca nc cc]

theorem fits_any (ra : Option Addr) (nr rc : Nat) (wa : Option Addr) (nw wc : Nat) (aa : Option Addr) (na ac : Nat) (fuel : Int) (ca : Option Addr) (nc cc : Nat) (w : World) (h1 : nr ≤ 1099511627776) (h2 : nw ≤ 1099511627776) (h3 : na ≤ 1099511627776) (h4 : nc ≤ 1099511627776)
    (b : Bool) (hb : decide (nr + nw ≤ 8 ∧ na ≤ 8 ∧ 1 ≤ nc ∧ nc ≤ 64 ∧ 1 ≤ fuel ∧ fuel ≤ 200) = b) :
    Calls Tryd.prog 11 #[cmV ra nr rc wa nw wc aa na ac fuel ca nc cc] w fun e w' => e = .returned (.bool b) ∧ Below w.heap.size w w' := by
  have hb0 : Hid (∀ O, Below w.heap.size w (w.alloc O)) := Lib.hid (fun O => (Below.refl _ _).alloc (Nat.le_refl _) O)
  by_cases g1 : nr + nw ≤ 8
  · have e1 : (nr : Int) + (nw : Int) ≤ 8 := by omega
    by_cases g2 : na ≤ 8
    · have e2 : (na : Int) ≤ 8 := by omega
      by_cases g3 : 1 ≤ nc ∧ nc ≤ 64
      · have i1 : Hid (∀ W : World, Calls Tryd.prog 19 #[.int .i64 1, .int .i64 64, .int .i64 (nc : Int)] W fun e w' => e = .returned (.bool true) ∧ W = w') := Lib.hid (fun W => by
          have := isFrom_any 1 64 (nc : Int) W
          rwa [decide_eq_true (by omega)] at this)
        have i2 : Hid (∀ W : World, Calls Tryd.prog 19 #[.int .i64 1, .int .i64 200, .int .i64 fuel] W fun e w' => e = .returned (.bool b) ∧ W = w') := Lib.hid (fun W => by
          have := isFrom_any 1 200 fuel W
          rw [← hb]
          simpa [g1, g2, g3] using this)
        clear hb g3
        go_enter Tryd.func11, Tryd.ntmps11
        go_wp2_with (first
          | (go_at_call 19; with_reducible refine (i1.out _).mono ?_; rintro e w1 ⟨rfl, rfl⟩)
          | (go_at_call 19; with_reducible refine (i2.out _).mono ?_; rintro e w1 ⟨rfl, rfl⟩))
        go_ret
        exact ⟨rfl, hb0.out _⟩
      · have i1 : Hid (∀ W : World, Calls Tryd.prog 19 #[.int .i64 1, .int .i64 64, .int .i64 (nc : Int)] W fun e w' => e = .returned (.bool false) ∧ W = w') := Lib.hid (fun W => by
          have := isFrom_any 1 64 (nc : Int) W
          rwa [decide_eq_false (by omega)] at this)
        obtain rfl : false = b := by rw [← hb, decide_eq_false (fun h => g3 ⟨h.2.2.1, h.2.2.2.1⟩)]
        clear hb g3
        go_enter Tryd.func11, Tryd.ntmps11
        go_wp2_with (go_at_call 19; with_reducible refine (i1.out _).mono ?_; rintro e w1 ⟨rfl, rfl⟩)
        go_ret
        exact ⟨rfl, hb0.out _⟩
    · obtain rfl : false = b := by rw [← hb, decide_eq_false (fun h => g2 h.2.1)]
      have e2 : ¬ (na : Int) ≤ 8 := by omega
      clear hb
      go_enter Tryd.func11, Tryd.ntmps11
      go_wp2
      go_ret
      exact ⟨rfl, hb0.out _⟩
  · obtain rfl : false = b := by rw [← hb, decide_eq_false (fun h => g1 h.1)]
    have e1 : ¬ (nr : Int) + (nw : Int) ≤ 8 := by omega
    clear hb
    go_enter Tryd.func11, Tryd.ntmps11
    go_wp2
    go_ret
    exact ⟨rfl, hb0.out _⟩

/-! ### rises -/
theorem drop_consI {l : List Int} {k : Nat} (h : k < l.length) : l.drop k = (l[k]?.getD 0) :: l.drop (k + 1) := by
  rw [List.drop_eq_getElem_cons h]
  simp [h]

set_option maxHeartbeats 1000000 in
theorem rises_any (l : List Int) (A : Option Addr) (N c : Nat) (w : World) (h : Ints w A c l) (hN : l.length = N) (hz : N ≤ 1099511627776) (b : Bool) (hb : decide (risesN l 0) = b) :
    Calls Tryd.prog 12 #[.slice A N c] w fun e w' => e = .returned (.bool b) ∧ w = w' := by
  have hc := h.2.1
  have h' := Lib.hid h
  have hN' := Lib.hid hN
  rw [hN] at hc
  have hb' : Hid (decide (risesN (l.drop 0) 0) = b) := Lib.hid hb
  clear h hN hb
  go_enter Tryd.func12, Tryd.ntmps12
  go_wp2
  go_loop [3, 8] (fun ll cc => ∃ (i : Nat) (z : Int), i ≤ N ∧ cc = .int .i64 i ∧ ll = .int .i64 z ∧ Hid (decide (risesN (l.drop i) (z + 1)) = b)) (fun _ cc => N - (intOf cc).toNat)
  case atStart => exact ⟨0, -1, Nat.zero_le _, rfl, rfl, hb'⟩
  case round =>
    obtain ⟨i, z, hi, rfl, rfl, HB⟩ := hrel
    by_cases hlt : i < N
    · have d1 : (i : Int) < (N : Int) := by omega
      have d2 : (i : Int) < (c : Int) := by omega
      obtain ⟨bb, off, rfl, hbl, x0⟩ := h'.out.cellAt (j := i) (by rw [hN'.out]; exact hlt)
      have HB2 : decide (z + 1 ≤ l[i]?.getD 0 ∧ risesN (l.drop (i + 1)) (l[i]?.getD 0 + 1)) = b := by
        rw [← HB.out]
        exact decide_eq_decide.2 (by rw [drop_consI (l := l) (k := i) (by rw [hN'.out]; exact hlt)]; exact Iff.rfl)
      generalize l[i]?.getD 0 = x at *
      by_cases hx : x ≤ z
      · obtain rfl : false = b := by rw [← HB2, decide_eq_false (fun h => by omega)]
        clear HB2
        go_wp2
        go_ret
        exact ⟨rfl, rfl⟩
      · have HB3 : Hid (decide (risesN (l.drop (i + 1)) (x + 1)) = b) := Lib.hid (by
          rw [← HB2]
          exact decide_eq_decide.2 ⟨fun h => ⟨by omega, h⟩, fun h => h.2⟩)
        clear HB2
        go_wp2
        go_round
        case rel => exact ⟨i + 1, x, by omega, by go_num, rfl, HB3⟩
        case measure => simp [intOf]; omega
    · obtain rfl : i = N := by omega
      obtain rfl : true = b := by
        rw [← HB.out, List.drop_eq_nil_of_le (by rw [hN'.out]; exact Nat.le_refl _)]
        exact (decide_eq_true trivial).symm
      clear hlt
      go_wp2
      go_ret
      exact ⟨rfl, rfl⟩

/-! ### emits -/
theorem emitsN_step (l : List Ins) (i : Nat) (h : i < l.length) : emitsN (l.take (i + 1)) = emitsN (l.take i) + if (insAt l i).op = 15 then 1 else 0 := by
  rw [List.take_add_one, List.getElem?_eq_getElem h]
  simp only [Option.toList_some, emitsN, List.filter_append, List.length_append, insAt, List.getElem?_eq_getElem h, Option.getD_some]
  by_cases e : (l[i]'h).op = 15 <;> simp [e]
theorem emitsN_take_le (l : List Ins) (i : Nat) : emitsN (l.take i) ≤ l.length :=
  Nat.le_trans (List.length_filter_le _ _) (by rw [List.length_take]; omega)

set_option maxHeartbeats 1000000 in
theorem emits_any (l : List Ins) (A : Option Addr) (N c : Nat) (w : World) (h : Inss w A c l) (hN : l.length = N) (hz : N ≤ 1099511627776) :
    Calls Tryd.prog 15 #[.slice A N c] w fun e w' => e = .returned (.int .i64 (emitsN l : Nat)) ∧ Below w.heap.size w w' := by
  have hc := h.2.1
  have h' := Lib.hid h
  have hN' := Lib.hid hN
  rw [hN] at hc
  have hst := Lib.hid (emitsN_step l)
  have hle := Lib.hid (emitsN_take_le l)
  have hfull : Hid (emitsN (l.take N) = emitsN l) := Lib.hid (by rw [← hN, List.take_length])
  obtain ⟨E, hE⟩ : ∃ E, E = emitsN l := ⟨_, rfl⟩
  rw [← hE] at hfull ⊢
  clear h hN hE
  go_enter Tryd.func15, Tryd.ntmps15
  go_wp2
  go_loopw [3, 8] (fun nn cc wr => ∃ (i k : Nat), i ≤ N ∧ cc = .int .i64 i ∧ nn = .int .i64 (k : Int) ∧ Hid (k = emitsN (l.take i)) ∧ Below w.heap.size w wr) (fun _ cc _ => N - (intOf cc).toNat)
  case atStart => exact ⟨0, 0, Nat.zero_le _, rfl, rfl, Lib.hid rfl, Below.refl _ _⟩
  case round =>
    obtain ⟨i, k, hi, rfl, rfl, HK, hb⟩ := hrel
    have hkl := HK.out
    have hkl2 : k ≤ 1099511627776 := by have := hle.out i; rw [hN'.out] at this; omega
    by_cases hlt : i < N
    · have d1 : (i : Int) < (N : Int) := by omega
      have d2 : (i : Int) < (c : Int) := by omega
      obtain ⟨bb, off, rfl, hbl, x0, x1, x2⟩ := (h'.out.below hb).cellAt (j := i) (by rw [hN'.out]; exact hlt)
      have hs1 := hst.out i (by rw [hN'.out]; exact hlt)
      rw [← hkl] at hs1
      clear hkl
      have hal := Lib.hid (bnext hb ((Below.refl _ _).alloc (Nat.le_refl _) (IObj (insAt l i))))
      generalize insAt l i = x at *
      obtain ⟨op, a, bq⟩ := x
      simp only at x0 x1 x2 hs1
      by_cases he : op = 15
      · subst he
        rw [if_pos rfl] at hs1
        have HK2 := Lib.hid hs1.symm
        clear hs1
        go_wp2
        go_roundw
        case rel => exact ⟨i + 1, k + 1, by omega, by go_num, by go_num, HK2, hal.out⟩
        case measure => simp [intOf]; omega
      · rw [if_neg he, Nat.add_zero] at hs1
        have HK2 := Lib.hid hs1.symm
        have e1 : (op == 15) = false := by simpa using he
        clear hs1
        go_wp2
        go_roundw
        case rel => exact ⟨i + 1, k, by omega, by go_num, rfl, HK2, hal.out⟩
        case measure => simp [intOf]; omega
    · obtain rfl : i = N := by omega
      rw [hfull.out] at hkl
      subst hkl
      clear hlt
      go_wp2
      go_ret
      exact ⟨rfl, hb⟩

end Go.Proofs.YtlhipaecndgonaaDoor
