/-
  A block in memory: its eight cells, loaded, stored and held against another one's. No conditions but those that stand there.
-/
import Derived.Test.YtldljohholgmoaaZWords
import Derived.ChangeKeysEq
import Derived.Laws.StructEq
namespace Go.Proofs.Ytldljohholgmoaa
open Go.RowKit

/-- a block's cells. -/
def bkC (b : List Int) : Array Value := (b.map (Value.int .i64)).toArray

theorem bkC_size (b : List Int) : (bkC b).size = b.length := by simp [bkC]
theorem bkC_all (b : List Int) : (bkC b).all (·.oneCell') = true := by simp [bkC, Value.oneCell']
theorem bkC_at {b : List Int} {i : Nat} (h : i < b.length) : (bkC b)[i]? = some (.int .i64 (b[i]?.getD 0)) := by simp [bkC, h]
theorem bkC_set (b : List Int) (i : Nat) (n : Int) : (bkC b).setIfInBounds i (.int .i64 n) = bkC (b.set i n) := by
  apply Array.ext_getElem?
  intro j
  simp [bkC, List.getElem?_set]
theorem bkC_noughts : bkC (List.replicate 8 0) = #[.int .i64 0, .int .i64 0, .int .i64 0, .int .i64 0, .int .i64 0, .int .i64 0, .int .i64 0, .int .i64 0] := rfl

theorem cellsInt : Try.prog.cellsOf 3 = 1 := by kernel_rfl
theorem infoBlk8 : (Try.prog.info? 81).map (·.size) = some 8 := by kernel_rfl
theorem infoBlk {b : List Int} (h : b.length = 8) : (Try.prog.info? 81).map (·.size) = some (bkC b).size := by rw [bkC_size, h]; exact infoBlk8

/-- a block is loaded as it lies there. -/
theorem load_blk {b : List Int} (h : b.length = 8) {w : World} {g : Nat} {t : TypeId} (hk : Bk w g t (bkC b)) : (loadVar 81 ⟨g, 0, none⟩).run Try.prog w = .ok (.agg (bkC b)) w :=
  run_loadVar_row w g t 81 (bkC b) (0, 0) _ hk Try.underlying81 rfl (infoBlk h)

theorem items_blk (w : World) (d : Nat) (a b : List Int) : ∀ is : List Nat, (∀ i ∈ is, i < a.length ∧ i < b.length) →
    (Op.eqItems (d + 1) 3 1 (bkC a) (bkC b) is).run Try.prog w = .ok (is.all fun i => decide (a[i]?.getD 0 = b[i]?.getD 0)) w
  | [], _ => by simp [Op.eqItems]
  | i :: is, h => by
    have ih := items_blk w d a b is (fun j hj => h j (by simp [hj]))
    obtain ⟨h1, h2⟩ := h i (by simp)
    have p1 : (part 3 (bkC a) (i * 1)).run Try.prog w = .ok (.int .i64 (a[i]?.getD 0)) w := by
      simp [part, isAgg, run_underlying Try.underlying3, bkC_at h1]
    have p2 : (part 3 (bkC b) (i * 1)).run Try.prog w = .ok (.int .i64 (b[i]?.getD 0)) w := by
      simp [part, isAgg, run_underlying Try.underlying3, bkC_at h2]
    simp only [Op.eqItems, Sem.run_bind, p1, p2, Result.andThen_ok, run_equalIn_int w d 3 .i64 .i64 _ _ Try.underlying3, List.all_cons]
    by_cases e : a[i]?.getD 0 = b[i]?.getD 0
    · rw [beq_iff_eq.2 e, decide_eq_true e]
      simpa using ih
    · rw [beq_eq_false_iff_ne.2 e, decide_eq_false e]
      simp

/-- two blocks are the same, or not. -/
theorem eql_blk (w : World) {a b : List Int} (ha : a.length = 8) (hb : b.length = 8) :
    (binOp .eql 81 (.agg (bkC a)) (.agg (bkC b))).run Try.prog w = .ok (.bool (decide (a = b))) w := by
  cases hi : Try.prog.info? 3 with
  | none =>
    have h : (Try.prog.info? 3).isSome = true := by kernel_rfl
    rw [hi] at h
    cases h
  | some i =>
    rw [run_eql_struct, run_equalIn_array w 9999 (bkC a) (bkC b) Try.underlying81 hi, cellsInt, items_blk w 9998 a b _ (fun i hi => by simp at hi; omega)]
    have : ((List.range 8).all fun i => decide (a[i]?.getD 0 = b[i]?.getD 0)) = decide (a = b) := by
      rw [Bool.eq_iff_iff]
      simp only [List.all_eq_true, List.mem_range, decide_eq_true_eq]
      constructor
      · intro h
        apply List.ext_getElem?
        intro j
        by_cases hj : j < 8
        · have := h j hj
          rw [List.getElem?_eq_getElem (by omega), List.getElem?_eq_getElem (by omega)] at this ⊢
          simpa using this
        · rw [List.getElem?_eq_none (by omega), List.getElem?_eq_none (by omega)]
      · rintro rfl j _
        rfl
    rw [this]
    rfl

theorem Bk.setRow {w : World} {g : Nat} {t : TypeId} {cs : Array Value} (h : Bk w g t cs) (cs' : Array Value) : Bk (w.setRow g cs') g t cs' := setRow_heap w g cs cs' t (0, 0) h
theorem Bk.farRow {w : World} {g h : Nat} {t : TypeId} {cs : Array Value} (hk : Bk w g t cs) (hne : g ≠ h) (cs' : Array Value) : Bk (w.setRow h cs') g t cs := (setRow_other w h g cs' hne).trans hk
theorem below_row {B g : Nat} {a w : World} (hb : Below B a w) (h : B ≤ g) (cs : Array Value) : Below B a (w.setRow g cs) :=
  hb.trans ⟨rfl, rfl, rfl, by simp, fun k hk => setRow_other w g k cs (by omega)⟩

end Go.Proofs.Ytldljohholgmoaa
