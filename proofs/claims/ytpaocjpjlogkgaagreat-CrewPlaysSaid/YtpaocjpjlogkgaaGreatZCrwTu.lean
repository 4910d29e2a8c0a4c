/-
  A drawn statement that hands a crew on beside an error's number; the turns of three workers, as numbers. No conditions but those that stand there.
-/
import Derived.Test.YtpaocjpjlogkgaaGreatQPooV
import Derived.Test.YtpaocjpjlogkgaaGreatQQueP
import Derived.Test.YtpaocjpjlogkgaaGreatQRely
import Derived.Test.YtpaocjpjlogkgaaGreatQAddr
import Derived.Test.YtpaocjpjlogkgaaGreatQWords
import Derived.ProofKit
import Derived.Deep.Slices
import Derived.OpenShut
namespace Go.Proofs.YtpaocjpjlogkgaaGreat
open Go Go.RowKit
def errV (n no:Nat) (H:Hd) (X:Crw) (z0:CwL) (S:Nat) (r:Int):Says:=fun v w=>∃ z,v=.tuple #[.agg (cwA n no H z),.int .i64 r]∧CwIs n no X w z∧∀ G,G < S→CwOff G n no z0→CwOff G n no z
theorem errV_keep {n no:Nat} {H:Hd} {X:Crw} {z0:CwL} {S:Nat} {r:Int} (v:Value) (x y:World) (hb:Below x.heap.size x y) (h:errV n no H X z0 S r v x):errV n no H X z0 S r v y:=by
 obtain ⟨z,e,hI,ho⟩:=h
 exact ⟨z,e,hI.below hb,ho⟩
theorem cwV_keep {n no:Nat} {H:Hd} {X:Crw} {z0:CwL} {S:Nat} (v:Value) (x y:World) (hb:Below x.heap.size x y) (h:cwV n no H X z0 S v x):cwV n no H X z0 S v y:=by
 obtain ⟨z,e,hI,ho⟩:=h
 exact ⟨z,e,hI.below hb,ho⟩
theorem CwErr.says {n no:Nat} {H:Hd} {X:Crw} {z0:CwL} {S:Nat} {r:Int} {w w':World} {e:Ending} (h:CwErr n no H X z0 r w e w') (hS:S≤w.heap.size):∃ v,e=.returned v∧Below w.heap.size w w'∧errV n no H X z0 S r v w':=by
 obtain ⟨z,he,hI,hb,ho⟩:=h
 exact ⟨_,he,hb,z,rfl,hI,fun G hG=>ho G (Nat.lt_of_lt_of_le hG hS)⟩
theorem exec_st_cw {ρ:Operand→Value} {o:Oper} {w:World} (g:Nat) {cs:Array Value} (hk:Bk w g 34 cs) (hs:cs.size=13) {n no:Nat} {H:Hd} {z:CwL} (x y:Operand) (ho:o.op=.store 34 x y) (hx:ρ x=.pointer (some ⟨g,0,none⟩)) (hy:ρ y=.agg (cwA n no H z)) :
  (execOp ρ o).run Tryz.prog w=.ok .skip (w.setRow g (cwA n no H z)):=by
 unfold execOp
 simp only [ho,hx,hy,Instr.storeAt,Instr.sureAddr,Sem.run_bind,Sem.run_pure,Result.andThen_ok,run_storeVar_row w g _ 34 cs (cwA n no H z) hk infoCrw hs (cwA_one n no H z)]
end Go.Proofs.YtpaocjpjlogkgaaGreat
