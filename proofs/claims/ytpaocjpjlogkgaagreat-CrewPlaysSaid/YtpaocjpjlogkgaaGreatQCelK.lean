/-
  Words and contracts of this claim, 2 texts laid into one, each under its own remark. No conditions but those that stand at each.
-/
import Derived.Test.YtpaocjpjlogkgaaGreatQWords
import Derived.Test.YtpaocjpjlogkgaaGreatZKept
namespace Go.Proofs.YtpaocjpjlogkgaaGreat
set_option maxRecDepth 100000
set_option maxHeartbeats 32000000
open Go
section
open Go.RowKit
theorem eqGuardBlk:Tryz.prog.eqGuardType Tryz.prog.depth 74=false:=by kernel_rfl
theorem op_load_blk {ρ:Operand→Value} {o:Oper} {w:World} {cs:Array Value} (g:Nat) (hl:(loadVar 74 ⟨g,0,none⟩).run Tryz.prog w=.ok (.agg cs) w) (x:Operand) (ho:o.op=.load 74 x) (hx:ρ x=.pointer (some ⟨g,0,none⟩)) :
  (execOp ρ o).run Tryz.prog w=.ok (.value (.agg cs)) w:=by
 unfold execOp
 simp only [ho,hx,Instr.loadAt,Instr.sureAddr,Sem.run_bind,Sem.run_pure,Result.andThen_ok,hl]
end
section
open Go.RowKit
theorem quiet_load_at {C:World→Prop} {a:Act} {o:Oper} {K:Act→Prop} {cs:Array Value} (t:TypeId) (g off:Nat) (hl:∀ w,C w→(loadVar t ⟨g,off,none⟩).run Tryz.prog w=.ok (.agg cs) w) (x:Operand)
  (ho:o.op=.load t x) (hx:a.eval x=.pointer (some ⟨g,off,none⟩)) (hk:K (a.put o.dst (.agg cs))):o.quiet Tryz.prog a C K:=
 ⟨_,fun w hw=>by
  unfold Oper.quietAt execOp
  simp only [ho,hx,Instr.loadAt,Instr.sureAddr,Sem.run_bind,Sem.run_pure,Result.andThen_ok,hl w hw]
  exact ⟨rfl,rfl⟩,hk⟩
section
variable {ops:Array Oper} {rest:List Oper} {o:Oper} {a:Act} {w:World} {Q:Exit→Act→World→Prop}
theorem wpList_load_at {cs:Array Value} (t:TypeId) (g off:Nat) (hl:(loadVar t ⟨g,off,none⟩).run Tryz.prog w=.ok (.agg cs) w) (x:Operand)
  (ho:o.op=.load t x) (hx:a.eval x=.pointer (some ⟨g,off,none⟩)) (hw:Region.wanted o (yielded ops a.tmps)=true) (h:wpList Tryz.prog ops Q rest (a.put o.dst (.agg cs)) w):wpList Tryz.prog ops Q (o :: rest) a w:=
 BigFrame.wpList_want hw fun K hK=>by
  unfold Oper.wp execOp
  simp only [ho,hx,Instr.loadAt,Instr.sureAddr,Sem.run_bind,Sem.run_pure,Result.andThen_ok,hl]
  exact hK _ _ h
end
theorem op_load_at {ρ:Operand→Value} {o:Oper} {w:World} {cs:Array Value} (t:TypeId) (g off:Nat) (hl:(loadVar t ⟨g,off,none⟩).run Tryz.prog w=.ok (.agg cs) w) (x:Operand) (ho:o.op=.load t x) (hx:ρ x=.pointer (some ⟨g,off,none⟩)) :
  (execOp ρ o).run Tryz.prog w=.ok (.value (.agg cs)) w:=by
 unfold execOp
 simp only [ho,hx,Instr.loadAt,Instr.sureAddr,Sem.run_bind,Sem.run_pure,Result.andThen_ok,hl]
end
end Go.Proofs.YtpaocjpjlogkgaaGreat
