/-
  A block that is loaded within a statement whose order is open. No conditions but those that stand there.
-/
import Derived.Test.YtldljohholgmoaaQWords
import Derived.Test.YtldljohholgmoaaZKept
namespace Go.Proofs.Ytldljohholgmoaa
open Go.RowKit

theorem quiet_load_blk {C : World → Prop} {a : Act} {o : Oper} {K : Act → Prop} {cs : Array Value} (g : Nat) (hl : ∀ w, C w → (loadVar 81 ⟨g, 0, none⟩).run Try.prog w = .ok (.agg cs) w) (x : Operand)
    (ho : o.op = .load 81 x) (hx : a.eval x = .pointer (some ⟨g, 0, none⟩)) (hk : K (a.put o.dst (.agg cs))) : o.quiet Try.prog a C K :=
  ⟨_, fun w hw => by
    unfold Oper.quietAt execOp
    simp only [ho, hx, Instr.loadAt, Instr.sureAddr, Sem.run_bind, Sem.run_pure, Result.andThen_ok, hl w hw]
    exact ⟨rfl, rfl⟩, hk⟩

theorem kw_load {W : World} {b : List Int} (h8 : b.length = 8) {g : Nat} {t : TypeId} (hk : Bk W g t (bkC b)) : ∀ w, (∃ x : KW W, w = x.1) → (loadVar 81 ⟨g, 0, none⟩).run Try.prog w = .ok (.agg (bkC b)) w := by
  rintro _ ⟨x, rfl⟩
  exact load_blk h8 (hk.below x.2)

theorem eqGuardBlk : Try.prog.eqGuardType Try.prog.depth 81 = false := by kernel_rfl

theorem quiet_eql_blk {C : World → Prop} {a : Act} {o : Oper} {K : Act → Prop} {cs cs' : Array Value} (r : Bool) (hl : ∀ w, (binOp .eql 81 (.agg cs) (.agg cs')).run Try.prog w = .ok (.bool r) w) (x y : Operand) (t : TypeId)
    (ho : o.op = .binOp .eql 81 x y t) (hx : a.eval x = .agg cs) (hy : a.eval y = .agg cs') (hk : K (a.put o.dst (.bool r))) : o.quiet Try.prog a C K :=
  ⟨_, fun w hw => by
    unfold Oper.quietAt execOp
    simp only [ho, hx, hy, Sem.run_bind, run_eqGuard_agg w _ _ _ _ _ _ eqGuardBlk, Sem.run_pure, Result.andThen_ok, hl w]
    exact ⟨rfl, rfl⟩, hk⟩

theorem wpList_load_blk {ops : Array Oper} {rest : List Oper} {o : Oper} {a : Act} {w : World} {Q : Exit → Act → World → Prop} {cs : Array Value} (g : Nat) (hl : (loadVar 81 ⟨g, 0, none⟩).run Try.prog w = .ok (.agg cs) w) (x : Operand)
    (ho : o.op = .load 81 x) (hx : a.eval x = .pointer (some ⟨g, 0, none⟩)) (hw : Region.wanted o (yielded ops a.tmps) = true) (h : wpList Try.prog ops Q rest (a.put o.dst (.agg cs)) w) : wpList Try.prog ops Q (o :: rest) a w :=
  BigFrame.wpList_want hw fun K hK => by
    unfold Oper.wp execOp
    simp only [ho, hx, Instr.loadAt, Instr.sureAddr, Sem.run_bind, Sem.run_pure, Result.andThen_ok, hl]
    exact hK _ _ h

theorem wpList_eql_blk {ops : Array Oper} {rest : List Oper} {o : Oper} {a : Act} {w : World} {Q : Exit → Act → World → Prop} {cs cs' : Array Value} (r : Bool) (hl : ∀ w, (binOp .eql 81 (.agg cs) (.agg cs')).run Try.prog w = .ok (.bool r) w) (x y : Operand) (t : TypeId)
    (ho : o.op = .binOp .eql 81 x y t) (hx : a.eval x = .agg cs) (hy : a.eval y = .agg cs') (hw : Region.wanted o (yielded ops a.tmps) = true) (h : wpList Try.prog ops Q rest (a.put o.dst (.bool r)) w) : wpList Try.prog ops Q (o :: rest) a w :=
  BigFrame.wpList_want hw fun K hK => by
    unfold Oper.wp execOp
    simp only [ho, hx, hy, Sem.run_bind, run_eqGuard_agg w _ _ _ _ _ _ eqGuardBlk, Sem.run_pure, Result.andThen_ok, hl w]
    exact hK _ _ h

theorem op_load_blk {ρ : Operand → Value} {o : Oper} {w : World} {cs : Array Value} (g : Nat) (hl : (loadVar 81 ⟨g, 0, none⟩).run Try.prog w = .ok (.agg cs) w) (x : Operand) (ho : o.op = .load 81 x) (hx : ρ x = .pointer (some ⟨g, 0, none⟩)) :
    (execOp ρ o).run Try.prog w = .ok (.value (.agg cs)) w := by
  unfold execOp
  simp only [ho, hx, Instr.loadAt, Instr.sureAddr, Sem.run_bind, Sem.run_pure, Result.andThen_ok, hl]

theorem op_eql_blk {ρ : Operand → Value} {o : Oper} {w : World} {cs cs' : Array Value} (r : Bool) (hl : ∀ w, (binOp .eql 81 (.agg cs) (.agg cs')).run Try.prog w = .ok (.bool r) w) (x y : Operand) (t : TypeId)
    (ho : o.op = .binOp .eql 81 x y t) (hx : ρ x = .agg cs) (hy : ρ y = .agg cs') : (execOp ρ o).run Try.prog w = .ok (.value (.bool r)) w := by
  unfold execOp
  simp only [ho, hx, hy, Sem.run_bind, run_eqGuard_agg w _ _ _ _ _ _ eqGuardBlk, Sem.run_pure, Result.andThen_ok, hl w]

end Go.Proofs.Ytldljohholgmoaa
