/-
  A number's digits by the library; a place's label; where an instruction leads. In whatever memory; numbers of 2^40 at most either way.
-/
import Derived.Test.YtjbhhlhaikmecaaDoorAsmL
import Derived.Test.YtjbhhlhaikmecaaDoorShelfAsm
import Derived.Test.YtjbhhlhaikmecaaDoorShelfWr
import Derived.Lib.AppendIntMem
namespace Go.Proofs.YtjbhhlhaikmecaaDoor
open Go.RowKit

/-- the library's table of powers lies in memory. -/
def HasPow (w : World) : Prop := Lib.TabIs Tryd.prog w "internal/strconv.uint64pow10" .u64 Lib.pow10Tab
theorem HasPow.belowS {w w' : World} (h : HasPow w) (hb : Below w.heap.size w w') : HasPow w' := Lib.tabBelow_of_tabIs h w' hb

theorem below_grow (w : World) (k : Nat) (os : Array Obj) : Below w.heap.size w (Sort.grow (w.drewN k) os) := by
  have h0 : Below w.heap.size w (w.drewN k) := below_drewN (Below.refl _ _) _
  refine h0.trans ⟨rfl, rfl, rfl, ?_, fun i hi => ?_⟩
  · show (w.drewN k).heap.size ≤ ((w.drewN k).heap ++ os).size
    rw [Array.size_append]
    omega
  · show ((w.drewN k).heap ++ os)[i]? = (w.drewN k).heap[i]?
    rw [Array.getElem?_append_left (Nat.lt_of_lt_of_le hi h0.size)]

theorem decN_lib (n : Nat) : (decN n).map UInt8.ofNat = Lib.decDigits n := by
  induction n using Nat.strongRecOn with
  | ind n ih =>
    by_cases h : n < 10
    · rw [decN_small h, Lib.decDigits, dif_pos h]
      rfl
    · rw [decN_large h, Lib.decDigits, dif_neg h, List.map_append, ih (n / 10) (by omega)]
      rfl

theorem decZ_lib (n : Int) : strL (decZ n) = ⟨(Lib.itoa n).toArray⟩ := by
  unfold strL decZ Lib.itoa
  by_cases h : n < 0
  · rw [if_pos h, if_pos h, List.map_cons, decN_lib]
    rfl
  · rw [if_neg h, if_neg h, decN_lib, show n.natAbs = n.toNat by omega]

theorem itoaZ (n : Int) (h : -1099511627776 ≤ n ∧ n ≤ 1099511627776) (w : World) (hp : HasPow w) :
    Calls Tryd.prog 47 #[.int .i64 n] w fun e w' => e = .returned (.string (strL (decZ n))) ∧ Below w.heap.size w w' :=
  (Tryd.itoa_any n (by omega) (by omega) w hp).mono fun e w' ⟨he, k, os, hw⟩ => ⟨by rw [he, decZ_lib], by rw [hw]; exact below_grow w k os⟩

theorem leadsTo_any (i : Nat) (x : Ins) (w : World) (hi : i ≤ 64) (ha : -1099511627776 ≤ x.a ∧ x.a ≤ 1099511627776) :
    Calls Tryd.prog 30 #[.int .i64 (i : Nat), .agg #[.int .i64 x.op, .int .i64 x.a, .int .i64 x.b]] w fun e w' => e = .returned (.int .i64 ((i : Int) + 1 + x.a)) ∧ Below w.heap.size w w' := by
  obtain ⟨h1, h2⟩ := ha
  go_enter Tryd.func30, Tryd.ntmps30
  go_wp2
  go_ret
  exact ⟨rfl, (Below.refl _ _).alloc (Nat.le_refl _) _⟩

theorem By.of_bk {w : World} {g : Nat} {l : List Nat} (h : Bk w g 5 (u8s l).toArray) : By w g l :=
  ⟨h.lt, fun j hj => by rw [h.cell]; simp [u8s, hj], fun j _ => h.frozen j⟩

theorem conv_label (n : Nat) (w : World) :
    (convert 58 9 (.slice (some ⟨w.heap.size, 0, none⟩) 3 3)).run Tryd.prog (w.alloc (.cells #[.int .u8 120, .int .u8 (97 + (n : Int) / 26), .int .u8 (97 + (n : Int) % 26)] 5)) =
      .ok (.string (strL (labelN n))) (w.alloc (.cells #[.int .u8 120, .int .u8 (97 + (n : Int) / 26), .int .u8 (97 + (n : Int) % 26)] 5)) :=
  conv_by (l := labelN n) (By.of_bk (Bk.new w _ _)) 3 3 rfl

set_option maxRecDepth 100000 in
theorem labelOf_any (n : Nat) (w : World) (hn : n ≤ 64) :
    Calls Tryd.prog 46 #[.int .i64 (n : Nat)] w fun e w' => e = .returned (.string (strL (labelN n))) ∧ Below w.heap.size w w' := by
  have hcv := conv_label n w
  generalize strL (labelN n) = S at *
  go_enter Tryd.func46, Tryd.ntmps46
  go_wp2
  go_ret
  exact ⟨rfl, (Below.refl _ _).alloc (Nat.le_refl _) _⟩

theorem labelLine_any (n : Nat) (w : World) (hn : n ≤ 64) :
    Calls Tryd.prog 32 #[.int .i64 (n : Nat)] w fun e w' => e = .returned (.string (strL (labelN n ++ [58, 10]))) ∧ Below w.heap.size w w' := by
  have hl := Lib.hid (labelOf_any n w hn)
  have e1 : strL (labelN n) ++ (⟨#[58, 10]⟩ : ByteArray) = strL (labelN n ++ [58, 10]) := strL_app (labelN n) [58, 10]
  have e2 : (strL (labelN n)).size = 3 := by rw [strL_size]; rfl
  have e1' := Lib.hid e1
  clear e1
  generalize strL (labelN n) = S at *
  go_enter Tryd.func32, Tryd.ntmps32
  go_wp2_with (go_at_call 46; go_must ((with_reducible refine hl.out.mono ?_); rintro e w1 ⟨rfl, hb1⟩))
  go_ret
  rw [← e1'.out]
  exact ⟨rfl, hb1⟩

end Go.Proofs.YtjbhhlhaikmecaaDoor
