/-
  What slices.IndexFunc and ContainsFunc of those who wait answer, with whatever predicate, in whatever memory; queue's own predicates; queue.having, told. No conditions but those that stand there.
-/
import Derived.Test.YtpaocjpjlogkgaaQQueF
import Derived.Shelf.Abstract
namespace Go.Proofs.Ytpaocjpjlogkgaa
open Go.RowKit Go.Shelf
set_option maxRecDepth 100000

theorem give1_any (x : Wnt) (s : Int) (g : Nat) (w : World) (hg : w.cell? ⟨g, 0, none⟩ = some (.int .i64 s)) (hl : g < w.heap.size) : Calls Try.prog 99 #[.agg (wnV x.seq x.excl x.has), .pointer (some ⟨g, 0, none⟩)] w fun e w' => e = .returned (.bool (decide (x.seq = s))) ∧ Below w.heap.size w w' := by
  have B0 := Lib.hid (below_alloc1 w (.cells (wnV x.seq x.excl x.has) 113))
  have hne : g ≠ w.heap.size := by omega
  go_enter Try.func99, Try.ntmps99
  go_wp2
  go_ret
  exact ⟨by simp [BEq.beq], B0.out⟩

theorem egGive : ∀ args w, (callFunc 99 args).run Try.prog w = .ok (.enter 99 args) w := enters_of Try.func99 (by kernel_rfl) rfl
end Go.Proofs.Ytpaocjpjlogkgaa
