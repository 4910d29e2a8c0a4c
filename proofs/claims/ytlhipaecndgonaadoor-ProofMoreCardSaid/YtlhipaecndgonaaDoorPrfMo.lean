/-
  ProofMore, walked whole: true for every command and every number, in whatever memory that has the kinds' table.
-/
import Derived.Test.YtlhipaecndgonaaDoorPrfT
import Derived.Test.YtlhipaecndgonaaDoorPrfU
namespace Go.Proofs.YtlhipaecndgonaaDoor
open Go.RowKit

theorem proofMore_main (c : Cmd) (fuel : Int) (hfu : c.fuel = fuel) (ra : Option Addr) (nr rc : Nat) (wa : Option Addr) (nw wc : Nat) (aa : Option Addr) (na ac : Nat) (ca : Addr) (nc cc : Nat) (n : Int) (w : World) (h : CmIn w c ra nr rc wa nw wc aa na ac (some ca) nc cc) (hT : HasKinds w) (hsh : nr ≤ 20 ∧ nw ≤ 20 ∧ na ≤ 20 ∧ nc ≤ 100) (hm : MayBe c) (hwi : ∀ x ∈ c.writes, inI64 x) :
    Calls Tryd.prog 3 #[cmV ra nr rc wa nw wc aa na ac fuel (some ca) nc cc, .int .i64 n] w fun e w' => e = .returned (.bool true) ∧ Below w.heap.size w w' := by
  cases nw with
  | zero => exact proofMore_none c fuel hfu ra nr rc wa wc aa na ac ca nc cc n w h hT hsh hm
  | succ m => exact proofMore_some c fuel hfu ra nr rc wa m wc aa na ac ca nc cc n w h hT hsh hm hwi

theorem proofMore_long (fuel : Int) (ra : Option Addr) (nr rc : Nat) (wa : Option Addr) (nw wc : Nat) (aa : Option Addr) (na ac : Nat) (ca : Option Addr) (nc cc : Nat) (n : Int) (w : World) (hT : HasKinds w) (hsh : ¬ (nr ≤ 20 ∧ nw ≤ 20 ∧ na ≤ 20 ∧ nc ≤ 100)) :
    Calls Tryd.prog 3 #[cmV ra nr rc wa nw wc aa na ac fuel ca nc cc, .int .i64 n] w fun e w' => e = .returned (.bool true) ∧ Below w.heap.size w w' := by
  have sh := Lib.hid (fun W => short_any ra nr rc wa nw wc aa na ac fuel ca nc cc W false (decide_eq_false hsh))
  have aw := Lib.hid (fun X (hX : Below _ w X) => awake7 X (hT.belowS hX))
  have hb0 : Below w.heap.size w (w.alloc (CmObj ra nr rc wa nw wc aa na ac fuel ca nc cc)) := (Below.refl _ _).alloc (Nat.le_refl _) _
  have B0 := Lib.hid hb0
  clear hb0 hT
  go_enter Tryd.func3, Tryd.ntmps3
  go_wp2_with (first
    | (go_at_call 7; go_must ((with_reducible refine (sh.out _).mono ?_); rintro e w1 ⟨rfl, hb1⟩; have B1 := Lib.hid (bnext B0.out hb1); clear hb1))
    | (go_at_call 9; go_must ((with_reducible refine (aw.out _ B1.out).mono ?_); rintro e w2 ⟨rfl, hb2⟩; have B2 := Lib.hid (bnext B1.out hb2); clear hb2)))
  go_ret
  exact ⟨rfl, B2.out⟩

theorem proofMore_not (c : Cmd) (fuel : Int) (hfu : c.fuel = fuel) (ra : Option Addr) (nr rc : Nat) (wa : Option Addr) (nw wc : Nat) (aa : Option Addr) (na ac : Nat) (ca : Option Addr) (nc cc : Nat) (n : Int) (w : World) (h : CmRaw w c ra nr rc wa nw wc aa na ac ca nc cc) (hT : HasKinds w) (hsh : nr ≤ 20 ∧ nw ≤ 20 ∧ na ≤ 20 ∧ nc ≤ 100) (hm : ¬ MayBe c) :
    Calls Tryd.prog 3 #[cmV ra nr rc wa nw wc aa na ac fuel ca nc cc, .int .i64 n] w fun e w' => e = .returned (.bool true) ∧ Below w.heap.size w w' := by
  have sh := Lib.hid (fun W => short_any ra nr rc wa nw wc aa na ac fuel ca nc cc W true (decide_eq_true hsh))
  have aw := Lib.hid (fun X (hX : Below _ w X) => awake7 X (hT.belowS hX))
  have hb0 : Below w.heap.size w (w.alloc (CmObj ra nr rc wa nw wc aa na ac fuel ca nc cc)) := (Below.refl _ _).alloc (Nat.le_refl _) _
  have B0 := Lib.hid hb0
  have C0 : Hid (Bk (w.alloc (CmObj ra nr rc wa nw wc aa na ac fuel ca nc cc)) w.heap.size 25 (cmC ra nr rc wa nw wc aa na ac fuel ca nc cc)) := Lib.hid (Bk.new w _ _)
  obtain ⟨z, hz⟩ : ∃ z, z = checkN c := ⟨_, rfl⟩
  have z1 : 1 ≤ (z : Int) := by
    have : checkN c ≠ 0 := fun e => hm ((check_zero c).1 e)
    omega
  have ck := Lib.hid (fun W hW => check_fu c fuel hfu ra nr rc wa nw wc aa na ac ca nc cc W ((h.into hsh).below hW) (hT.belowS hW) z hz.symm)
  clear hb0 hT h hm hz hfu
  go_enter Tryd.func3, Tryd.ntmps3
  go_wp2_with (first
    | (go_at_call 7; go_must ((with_reducible refine (sh.out _).mono ?_); rintro e w1 ⟨rfl, hb1⟩; have B1 := Lib.hid (bnext B0.out hb1); obtain ⟨c0, c1, c2, c3, c4, cf⟩ := (C0.out.below hb1).cmd; have cl := (C0.out.below hb1).lt; clear hb1))
    | (go_at_call 8; go_must ((with_reducible refine (ck.out _ B1.out).mono ?_); rintro e w2 ⟨rfl, hb2⟩; have B2 := Lib.hid (bnext B1.out hb2); clear hb2))
    | (go_at_call 9; go_must ((with_reducible refine (aw.out _ B2.out).mono ?_); rintro e w3 ⟨rfl, hb3⟩; have B3 := Lib.hid (bnext B2.out hb3); clear hb3)))
  go_ret
  exact ⟨rfl, B3.out⟩

theorem proofMore_walk (c : Cmd) (fuel : Int) (hfu : c.fuel = fuel) (ra : Option Addr) (nr rc : Nat) (wa : Option Addr) (nw wc : Nat) (aa : Option Addr) (na ac : Nat) (ca : Option Addr) (nc cc : Nat) (n : Int) (w : World) (h : CmRaw w c ra nr rc wa nw wc aa na ac ca nc cc) (hT : HasKinds w) (hwi : ∀ x ∈ c.writes, inI64 x) :
    Calls Tryd.prog 3 #[cmV ra nr rc wa nw wc aa na ac fuel ca nc cc, .int .i64 n] w fun e w' => e = .returned (.bool true) ∧ Below w.heap.size w w' := by
  by_cases hsh : nr ≤ 20 ∧ nw ≤ 20 ∧ na ≤ 20 ∧ nc ≤ 100
  · by_cases hm : MayBe c
    · have hn : 1 ≤ nc := by have := hm.few.2.2.1; have := h.lc; omega
      cases ca with
      | none =>
        have := (h.code.2.2.1 rfl).1
        have := h.lc
        omega
      | some ca => exact proofMore_main c fuel hfu ra nr rc wa nw wc aa na ac ca nc cc n w (h.into hsh) hT hsh hm hwi
    · exact proofMore_not c fuel hfu ra nr rc wa nw wc aa na ac ca nc cc n w h hT hsh hm
  · exact proofMore_long fuel ra nr rc wa nw wc aa na ac ca nc cc n w hT hsh

end Go.Proofs.YtlhipaecndgonaaDoor
