/-
  A value of one cell stored into a place of a block known whole. It names no function of the program. No conditions but those that stand there.
-/
import Derived.Test.YtpaocjpjlogkgaaGreatQWords
import Derived.Deep.MidRow
import Derived.WalkKit
namespace Go.Proofs.YtpaocjpjlogkgaaGreat
open Go
theorem run_store_cell1 (w:World) (g i:Nat) {t ty:TypeId} {cs:Array Value} (hk:Bk w g t cs) (hi:i < cs.size) (v:Value) (h1:v.oneCell'=true) (hinf:(Tryz.prog.info? ty).map (·.size)=some 1):(storeVar ty ⟨g,i,none⟩ v).run Tryz.prog w=.ok () (w.setCell ⟨g,i,none⟩ v):=by
 have hst:=run_storeCells_cells (P:=Tryz.prog) g i [v] 0 w (fun j hj=>by
  have:j=0:=by simpa using hj
  subst this
  rw [hk.cell,Array.getElem?_eq_getElem (by simpa using hi)]
  rfl) (fun j _=>hk.frozen _) (fun u hu=>by rw [List.mem_singleton.1 hu];exact h1)
 have hc:v.cells = #[v]:=by cases v <;> first | rfl | cases h1
 cases hq:Tryz.prog.info? ty with
 | none=>simp [hq] at hinf
 | some inf=>
  have hs:inf.size=1:=by simpa [hq] using hinf
  simp only [World.setCells] at hst
  simp [storeVar,sizeOf,typeInfo,hq,hc,hs]
  simpa using hst
theorem st_cell1 {ops:Array Oper} {rest:List Oper} {o:Oper} {a:Act} {w:World} {Q:Exit→Act→World→Prop} (g i k:Nat) {t:TypeId} {cs:Array Value} (hk:Bk w g t cs) (hs:cs.size=k) (hi:i < k) (ty:TypeId) (v:Value) (h1:v.oneCell'=true) (hinf:(Tryz.prog.info? ty).map (·.size)=some 1) (x y:Operand) (hgd:o.guard=none) (ho:o.op=.store ty x y) (hx:a.eval x=.pointer (some ⟨g,i,none⟩)) (hy:a.eval y=v)
  (h:wpList Tryz.prog ops Q rest (a.put o.dst undef) (w.setCell ⟨g,i,none⟩ v)):wpList Tryz.prog ops Q (o :: rest) a w:=
 wpList_plain hgd fun _ hK=>by
  unfold Oper.wp execOp
  simp only [ho,hx,hy,Instr.storeAt,Instr.sureAddr,Sem.run_bind,Sem.run_pure,Result.andThen_ok,run_store_cell1 w g i hk (by omega) v h1 hinf]
  exact hK _ _ h
end Go.Proofs.YtpaocjpjlogkgaaGreat
