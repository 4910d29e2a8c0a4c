/-
  What proof's share answers (with slices.Index, Contains, IndexFunc, ContainsFunc), in whatever memory, of lists of at most 2^40 numbers. No conditions but those that stand there.
-/
import Derived.Test.YtlhipaecndgonaaDoorPrfA
import Derived.Shelf.Abstract
namespace Go.Proofs.YtlhipaecndgonaaDoor
open Go.RowKit Go.Shelf

theorem notin_stepI {l : List Int} {x : Int} {i : Nat} (h : ∀ y ∈ l.take i, y ≠ x) (hi : i < l.length) (hx : l[i]?.getD 0 ≠ x) : ∀ y ∈ l.take (i + 1), y ≠ x := by
  rw [List.take_add_one, List.getElem?_eq_getElem hi]
  rw [List.getElem?_eq_getElem hi] at hx
  intro y hy
  rcases List.mem_append.1 hy with hy | hy
  · exact h y hy
  · simp at hy
    rw [hy]
    exact hx

theorem index_any (l : List Int) (x : Int) (A : Option Addr) (N c : Nat) (w : World) (h : Ints w A c l) (hN : l.length = N) (hz : N ≤ 1099511627776) (b : Bool) (hb : decide (x ∈ l) = b) :
    Calls Tryd.prog 29 #[.slice A N c, .int .i64 x] w fun e w' => ∃ j : Int, e = .returned (.int .i64 j) ∧ Hid (decide (0 ≤ j) = b) ∧ w = w' := by
  have hc := h.2.1
  have h' := Lib.hid h
  have hN' := Lib.hid hN
  rw [hN] at hc
  have hb' := Lib.hid hb
  clear h hN hb
  go_enter Tryd.func29, Tryd.ntmps29
  go_wp2
  go_loop [8] (fun cc => ∃ i : Nat, i ≤ N ∧ cc = .int .i64 i ∧ Hid (∀ y ∈ l.take i, y ≠ x)) (fun cc => N - (intOf cc).toNat)
  case atStart => exact ⟨0, Nat.zero_le _, rfl, Lib.hid (by simp)⟩
  case round =>
    obtain ⟨i, hi, rfl, HB⟩ := hrel
    by_cases hlt : i < N
    · have d1 : (i : Int) < (N : Int) := by omega
      have d2 : (i : Int) < (c : Int) := by omega
      obtain ⟨bb, off, rfl, hbl, x0⟩ := h'.out.cellAt (j := i) (by rw [hN'.out]; exact hlt)
      by_cases hx : l[i]?.getD 0 = x
      · have e1 : (x == l[i]?.getD 0) = true := by simp [hx]
        obtain rfl : true = b := by
          rw [← hb'.out]
          refine (decide_eq_true ?_).symm
          rw [← hx, List.getElem?_eq_getElem (by rw [hN'.out]; exact hlt)]
          simp
        clear hx
        generalize l[i]?.getD 0 = y at *
        go_wp2
        go_ret
        exact ⟨_, rfl, Lib.hid (by first | omega | exact decide_eq_true (by omega)), rfl⟩
      · have e1 : (x == l[i]?.getD 0) = false := by simpa using fun h => hx h.symm
        have HB2 := Lib.hid (notin_stepI HB.out (by rw [hN'.out]; exact hlt) hx)
        clear hx
        generalize l[i]?.getD 0 = y at *
        go_wp2
        go_round
        case rel => exact ⟨i + 1, by omega, by go_num, HB2⟩
        case measure => simp [intOf]; omega
    · obtain rfl : i = N := by omega
      obtain rfl : false = b := by
        rw [← hb'.out]
        refine (decide_eq_false fun hm => ?_).symm
        exact HB.out x (by rw [← hN'.out, List.take_length]; exact hm) rfl
      clear hlt
      go_wp2
      go_ret
      exact ⟨-1, rfl, Lib.hid (by first | omega | rfl), rfl⟩

theorem contains_any (l : List Int) (x : Int) (A : Option Addr) (N c : Nat) (w : World) (h : Ints w A c l) (hN : l.length = N) (hz : N ≤ 1099511627776) (b : Bool) (hb : decide (x ∈ l) = b) :
    Calls Tryd.prog 22 #[.slice A N c, .int .i64 x] w fun e w' => e = .returned (.bool b) ∧ w = w' := by
  have hi := Lib.hid (index_any l x A N c w h hN hz b hb)
  clear h hN hb
  go_enter Tryd.func22, Tryd.ntmps22
  go_wp2_with (go_at_call 29; go_must ((with_reducible refine hi.out.mono ?_); rintro e w1 ⟨j, rfl, hj, rfl⟩))
  go_ret
  exact ⟨by rw [← hj.out]; rfl, rfl⟩

/-- share's closure: is a number in the list that it holds? -/
theorem closure_any (l : List Int) (x : Int) (B : Nat) (A : Option Addr) (N c : Nat) (w : World) (h : Ints w A c l) (hB : w.cell? ⟨B, 0, none⟩ = some (.slice A N c)) (hN : l.length = N) (hz : N ≤ 1099511627776) (b : Bool) (hb : decide (x ∈ l) = b) :
    Calls Tryd.prog 21 #[.int .i64 x, .pointer (some ⟨B, 0, none⟩)] w fun e w' => e = .returned (.bool b) ∧ w = w' := by
  have hi := Lib.hid (contains_any l x A N c w h hN hz b hb)
  clear h hN hb
  go_enter Tryd.func21, Tryd.ntmps21
  go_wp2_with (go_at_call 22; go_must ((with_reducible refine hi.out.mono ?_); rintro e w1 ⟨rfl, rfl⟩))
  go_ret
  exact ⟨rfl, rfl⟩

/-- the first place at which it holds. -/
theorem indexFunc_any (l : List Int) (p : Int → Bool) (fv : Value) (B : Nat) (hfv : fv = .func (.func 21) #[] #[.pointer (some ⟨B, 0, none⟩)]) (A : Option Addr) (N c : Nat) (w : World) (h : Ints w A c l) (hN : l.length = N) (hz : N ≤ 1099511627776)
    (hp : ∀ x, Calls Tryd.prog 21 #[.int .i64 x, .pointer (some ⟨B, 0, none⟩)] w fun e w' => e = .returned (.bool (p x)) ∧ w = w') (b : Bool) (hb : l.any p = b) :
    Calls Tryd.prog 28 #[.slice A N c, fv] w fun e w' => ∃ j : Int, e = .returned (.int .i64 j) ∧ Hid (decide (0 ≤ j) = b) ∧ w = w' := by
  subst hfv
  have hc := h.2.1
  have h' := Lib.hid h
  have hN' := Lib.hid hN
  rw [hN] at hc
  have hb' := Lib.hid hb
  have hp' := Lib.hid hp
  have eg : ∀ args w, (callFunc 21 args).run Tryd.prog w = .ok (.enter 21 args) w := enters_of Tryd.func21 (by kernel_rfl) rfl
  clear h hN hb hp
  go_enter Tryd.func28, Tryd.ntmps28
  go_wp2
  go_loop [8] (fun cc => ∃ i : Nat, i ≤ N ∧ cc = .int .i64 i ∧ Hid (∀ y ∈ l.take i, p y = false)) (fun cc => N - (intOf cc).toNat)
  case atStart => exact ⟨0, Nat.zero_le _, rfl, Lib.hid (by simp)⟩
  case round =>
    obtain ⟨i, hi, rfl, HB⟩ := hrel
    by_cases hlt : i < N
    · have d1 : (i : Int) < (N : Int) := by omega
      have d2 : (i : Int) < (c : Int) := by omega
      obtain ⟨bb, off, rfl, hbl, x0⟩ := h'.out.cellAt (j := i) (by rw [hN'.out]; exact hlt)
      have hcall := hp'.out (l[i]?.getD 0)
      have hmem : l[i]?.getD 0 ∈ l := by
        rw [List.getElem?_eq_getElem (by rw [hN'.out]; exact hlt)]
        simp
      have hst : p (l[i]?.getD 0) = false → ∀ y ∈ l.take (i + 1), p y = false := fun hq => by
        have hil : i < l.length := by rw [hN'.out]; exact hlt
        rw [List.take_add_one, List.getElem?_eq_getElem hil]
        rw [List.getElem?_eq_getElem hil] at hq
        intro y hy
        rcases List.mem_append.1 hy with hy | hy
        · exact HB.out y hy
        · simp at hy
          rw [hy]
          exact hq
      cases hq : p (l[i]?.getD 0) with
      | true =>
        rw [hq] at hcall
        obtain rfl : true = b := by
          rw [← hb'.out]
          exact (List.any_eq_true.2 ⟨_, hmem, hq⟩).symm
        have hcall' := Lib.hid hcall
        clear hcall hq hmem hst
        generalize l[i]?.getD 0 = y at *
        go_wp2_with (go_at_fn 21; go_must (refine hcall'.out.mono ?_; rintro e w1 ⟨rfl, rfl⟩))
        go_ret
        exact ⟨_, rfl, Lib.hid (by first | omega | exact decide_eq_true (by omega)), rfl⟩
      | false =>
        rw [hq] at hcall
        have HB2 := Lib.hid (hst hq)
        have hcall' := Lib.hid hcall
        clear hcall hq hmem hst
        generalize l[i]?.getD 0 = y at *
        go_wp2_with (go_at_fn 21; go_must (refine hcall'.out.mono ?_; rintro e w1 ⟨rfl, rfl⟩))
        go_round
        case rel => exact ⟨i + 1, by omega, by go_num, HB2⟩
        case measure => simp [intOf]; omega
    · obtain rfl : i = N := by omega
      obtain rfl : false = b := by
        rw [← hb'.out]
        refine (List.any_eq_false.2 fun y hy => ?_).symm
        rw [HB.out y (by rw [← hN'.out, List.take_length]; exact hy)]
        decide
      clear hlt
      go_wp2
      go_ret
      exact ⟨-1, rfl, Lib.hid (by first | omega | rfl), rfl⟩

theorem containsFunc_any (l : List Int) (p : Int → Bool) (fv : Value) (B : Nat) (hfv : fv = .func (.func 21) #[] #[.pointer (some ⟨B, 0, none⟩)]) (A : Option Addr) (N c : Nat) (w : World) (h : Ints w A c l) (hN : l.length = N) (hz : N ≤ 1099511627776)
    (hp : ∀ x, Calls Tryd.prog 21 #[.int .i64 x, .pointer (some ⟨B, 0, none⟩)] w fun e w' => e = .returned (.bool (p x)) ∧ w = w') (b : Bool) (hb : l.any p = b) :
    Calls Tryd.prog 20 #[.slice A N c, fv] w fun e w' => e = .returned (.bool b) ∧ w = w' := by
  have hi := Lib.hid (indexFunc_any l p fv B hfv A N c w h hN hz hp b hb)
  clear h hN hb hp hfv
  go_enter Tryd.func20, Tryd.ntmps20
  go_wp2_with (go_at_call 28; go_must ((with_reducible refine hi.out.mono ?_); rintro e w1 ⟨j, rfl, hj, rfl⟩))
  go_ret
  exact ⟨by rw [← hj.out]; rfl, rfl⟩

/-- share: is a number of the first list in the second? -/
theorem share_any (a l : List Int) (A : Option Addr) (N c : Nat) (A2 : Option Addr) (N2 c2 : Nat) (w : World) (h : Ints w A c a) (hN : a.length = N) (hz : N ≤ 1099511627776) (h2 : Ints w A2 c2 l) (hN2 : l.length = N2) (hz2 : N2 ≤ 1099511627776) (b : Bool) (hb : decide (∀ x ∈ a, x ∉ l) = !b) :
    Calls Tryd.prog 13 #[.slice A N c, .slice A2 N2 c2] w fun e w' => e = .returned (.bool b) ∧ Below w.heap.size w w' := by
  have hb0 : Below w.heap.size w (w.alloc (.cells #[.slice A2 N2 c2] 22)) := (Below.refl _ _).alloc (Nat.le_refl _) _
  have hcell : (w.alloc (.cells #[.slice A2 N2 c2] 22)).cell? ⟨w.heap.size, 0, none⟩ = some (.slice A2 N2 c2) := (Bk.new w 22 #[.slice A2 N2 c2]).cell 0
  have hany : a.any (fun x => decide (x ∈ l)) = b := by
    cases b with
    | true =>
      have hno := of_decide_eq_false hb
      refine List.any_eq_true.2 (Classical.byContradiction fun hn => hno fun x hx hl => hn ⟨x, hx, decide_eq_true hl⟩)
    | false =>
      have hyes := of_decide_eq_true hb
      exact List.any_eq_false.2 fun x hx => by simpa using hyes x hx
  have hcf := Lib.hid (containsFunc_any a (fun x => decide (x ∈ l)) _ w.heap.size rfl A N c _ (h.below hb0) hN hz (fun x => closure_any l x w.heap.size A2 N2 c2 _ (h2.below hb0) hcell hN2 hz2 _ rfl) b hany)
  have B0 := Lib.hid hb0
  clear h hN h2 hN2 hb hb0 hcell hany
  go_enter Tryd.func13, Tryd.ntmps13
  go_wp2_with (go_at_call 20; go_must ((with_reducible refine hcf.out.mono ?_); rintro e w1 ⟨rfl, rfl⟩))
  go_ret
  exact ⟨rfl, B0.out⟩

end Go.Proofs.YtlhipaecndgonaaDoor
