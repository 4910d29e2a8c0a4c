/-
  What foremanref16.With and Without answer, in whatever memory. No conditions but those that stand there.
-/
import Derived.Test.YtpaocjpjlogkgaaGreatQWords
import Derived.OwnWalk
import Derived.Deep.DeepMust
import Derived.Deep.MidRow
namespace Go.Proofs.YtpaocjpjlogkgaaGreat
open Go.RowKit
set_option maxRecDepth 100000

theorem tkA_all (t : TkL) : (tkA t).all (·.oneCell') = true := all_oneCell_toArray (cs := tkC t) (tkC_one t)

section
variable {ops : Array Oper} {rest : List Oper} {o : Oper} {a : Act} {w : World} {Q : Exit → Act → World → Prop}
/-- a task is loaded whole out of a box. -/
theorem ld_tsk (g : Nat) {t : TkL} (hk : Bk w g 67 (tkA t)) (x : Operand) (hgd : o.guard = none) (ho : o.op = .load 67 x) (hx : a.eval x = .pointer (some ⟨g, 0, none⟩))
    (h : wpList Tryz.prog ops Q rest (a.put o.dst (.agg (tkA t))) w) : wpList Tryz.prog ops Q (o :: rest) a w :=
  wpList_load_row hgd _ x ho g hx _ _ (0, 0) _ hk Tryz.underlying67 rfl infoTk h
end

section
variable (l : List TkL) (A : Option Addr) (n c : Nat)

end
end Go.Proofs.YtpaocjpjlogkgaaGreat
