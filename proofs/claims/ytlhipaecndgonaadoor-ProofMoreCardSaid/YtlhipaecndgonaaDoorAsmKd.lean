/-
  The kinds' table in memory; what asm's isKind and Takes answer, in whatever memory that has the table. No conditions but those that stand there.
-/
import Derived.Test.YtlhipaecndgonaaDoorAsmP
import Derived.Test.YtlhipaecndgonaaDoorByt
import Derived.WalkKit
import Derived.WalkSpells
import Derived.WalkLawsBesides
import Derived.WalkSmall
import Derived.Lib.Hide
import Derived.Deep.DeepMust
import Derived.Lib.Strings
namespace Go.Proofs.YtlhipaecndgonaaDoor
open Go.RowKit

/-- the kinds' table lies in memory. -/
structure HasKinds (w : World) : Prop where
  lt : 0 < w.heap.size
  word : ∀ i, i < 18 → w.cell? ⟨0, i * 2, none⟩ = some (.string (strL (namesN.getD i [])))
  takes : ∀ i : Nat, i < 18 → w.cell? ⟨0, i * 2 + 1, none⟩ = some (.int .i64 (takesN (i : Int) : Nat))

theorem HasKinds.below {B : Nat} {w w' : World} (h : HasKinds w) (hb : Below B w w') (hB : 0 < B) : HasKinds w' :=
  ⟨Nat.lt_of_lt_of_le h.lt hb.size, fun i hi => (World.cell?_of_block (hb.block _ hB)).trans (h.word i hi), fun i hi => (World.cell?_of_block (hb.block _ hB)).trans (h.takes i hi)⟩

theorem HasKinds.belowS {w w' : World} (h : HasKinds w) (hb : Below w.heap.size w w') : HasKinds w' := h.below hb h.lt

theorem isKind_is (op : Int) (b : Bool) (h : decide (1 ≤ op ∧ op ≤ 17) = b) (w : World) :
    Calls Tryd.prog 35 #[.int .i64 op] w fun e w' => e = .returned (.bool b) ∧ w = w' := by
  by_cases h1 : 1 ≤ op
  · by_cases h2 : op < 18
    · obtain rfl : true = b := by rw [← h, decide_eq_true (show 1 ≤ op ∧ op ≤ 17 by omega)]
      clear h
      go_enter Tryd.func35, Tryd.ntmps35
      go_wp2
      go_ret
      exact ⟨rfl, rfl⟩
    · obtain rfl : false = b := by rw [← h, decide_eq_false (show ¬ (1 ≤ op ∧ op ≤ 17) by omega)]
      clear h
      go_enter Tryd.func35, Tryd.ntmps35
      go_wp2
      go_ret
      exact ⟨rfl, rfl⟩
  · obtain rfl : false = b := by rw [← h, decide_eq_false (show ¬ (1 ≤ op ∧ op ≤ 17) by omega)]
    clear h
    go_enter Tryd.func35, Tryd.ntmps35
    go_wp2
    go_ret
    exact ⟨rfl, rfl⟩

theorem takes_none {op : Int} (h : ¬ (1 ≤ op ∧ op ≤ 17)) : takesN op = 0 := by
  unfold takesN
  rw [if_neg (by omega), if_neg (by omega)]

theorem takes_any (op : Int) (w : World) (hT : HasKinds w) :
    Calls Tryd.prog 31 #[.int .i64 op] w fun e w' => e = .returned (.int .i64 (takesN op : Nat)) ∧ w = w' := by
  by_cases h : 1 ≤ op ∧ op ≤ 17
  · have hk := Lib.hid (isKind_is op true (decide_eq_true h) w)
    obtain ⟨i, rfl⟩ := Int.eq_ofNat_of_zero_le (show 0 ≤ op by omega)
    have c1 := hT.takes i (by omega)
    have d1 : (i : Int) < 18 := by omega
    clear h hT
    go_enter Tryd.func31, Tryd.ntmps31
    go_wp2_with (go_at_call 35; go_must ((with_reducible refine hk.out.mono ?_); rintro e w1 ⟨rfl, rfl⟩))
    go_ret
    exact ⟨rfl, rfl⟩
  · have hk := Lib.hid (isKind_is op false (decide_eq_false h) w)
    rw [takes_none h]
    clear h hT
    go_enter Tryd.func31, Tryd.ntmps31
    go_wp2_with (go_at_call 35; go_must ((with_reducible refine hk.out.mono ?_); rintro e w1 ⟨rfl, rfl⟩))
    go_ret
    exact ⟨rfl, rfl⟩

theorem names_lt : ∀ i, i < 18 → ∀ c ∈ namesN.getD i [], c < 256 := by decide

theorem strL_bL (s : ByteArray) : strL (bL s) = s := by
  apply ByteArray.ext
  apply Array.ext'
  simp only [strL, bL, List.map_map]
  conv => rhs; rw [← List.map_id s.data.toList]
  apply List.map_congr_left
  intro x _
  simp

theorem str_ne {a b : ByteArray} (h : a ≠ b) : (a.toList == b.toList) = false := by
  rw [beq_eq_false_iff_ne, Lib.toList_data, Lib.toList_data]
  exact fun e => h (ByteArray.ext (Array.ext' e))

end Go.Proofs.YtlhipaecndgonaaDoor
