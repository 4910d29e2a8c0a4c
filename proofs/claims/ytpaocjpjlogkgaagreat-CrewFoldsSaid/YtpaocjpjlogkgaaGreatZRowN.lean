/-
  Statements whose order is open that append a list to an empty one of their own. No conditions but those that stand there.
-/
import Derived.Test.YtpaocjpjlogkgaaGreatQRely
import Derived.Test.YtpaocjpjlogkgaaGreatQWords
import Derived.Deep.DeepMust
import Derived.Deep.MidRow
namespace Go.Proofs.YtpaocjpjlogkgaaGreat
open Go Go.RowKit
attribute [local go_sem] look findAt
attribute [local simp] depsOf isV Region.binds
def noneV (B:Nat) (e:TypeId):Says:=fun v w=>∃ g,v=.slice (some ⟨g,0,none⟩) 0 0∧w.ownsRow B e 1 (.slice (some ⟨g,0,none⟩) 0 0) 0 []
def listV (B:Nat) (e:TypeId) (n:Nat) (xs:List Value):Says:=fun v w=>∃ A c,v=.slice A n c∧w.ownsRow B e 1 (.slice A n c) n xs∧(n=0→c=0)
section
variable {B:Nat} {e:TypeId}
theorem noneV_below (v:Value) (x y:World) (hb:Below x.heap.size x y) (h:noneV B e v x):noneV B e v y:=by
 obtain ⟨g,rfl,ho⟩:=h
 exact ⟨g,rfl,own_below ho hb⟩
theorem listV_below {n:Nat} {xs:List Value} (v:Value) (x y:World) (hb:Below x.heap.size x y) (h:listV B e n xs v x):listV B e n xs v y:=by
 obtain ⟨A,c,rfl,ho,h0⟩:=h
 exact ⟨A,c,rfl,own_below ho hb,h0⟩
end
theorem below_setRow_same {w:World} {g:Nat} {e:TypeId} {cs:Array Value} (h:Bk w g e cs):Below w.heap.size w (w.setRow g cs):=
 ⟨rfl,rfl,rfl,by simp,fun k hk=>by
  by_cases e':k=g
  ·subst e'
   exact (setRow_heap w k cs cs e _ h).trans h.symm
  ·exact setRow_other w g k cs e'⟩
theorem run_append_none {P:Program} (w:World) (t ty:TypeId) (B:Nat) (e:TypeId) (i:TypeInfo) (z:Value) (bytes:Nat) (ht:P.underlying t=some (.slice e)) (hi:P.info? e=some i) (hz:i.zero=some z)
  (hsize:i.size=1) (hby:i.bytes=bytes) (hzs:z.cells.size=1) (hB:B≤w.heap.size)
  (g:Nat) (ho:w.ownsRow B e 1 (.slice (some ⟨g,0,none⟩) 0 0) 0 []) (A:Option Addr) (n c:Nat) (xs:List Value) (hr:Sl w 1 A n c xs) (h1:∀ u∈xs,u.oneCell'=true) (hn:n≤maxLen) (hbytes:n * bytes≤140737488355328) :
  ∃ v w',(Builtin.append_ #[t,t] ty #[.slice (some ⟨g,0,none⟩) 0 0,.slice A n c]).run P w=.ok v w'∧Below w.heap.size w w'∧listV B e n xs v w':=by
 have hcur:∃ cur,Bk w g e cur∧cur.size=0:=by
  rcases ho.2 with ⟨h,_⟩ | ⟨g',cap,cur,hv,hb,hg,hnc,hcm,hcs,_⟩
  ·cases h
  ·injection hv with h1 _ h3
   injection h1 with h1
   injection h1 with h1
   subst h1
   subst h3
   exact ⟨cur,hg,by simpa using hcs⟩
 obtain ⟨cur,hg,hc0⟩:=hcur
 obtain rfl:cur = #[]:=Array.eq_empty_of_size_eq_zero hc0
 by_cases h0:n=0
 ·subst h0
  obtain rfl:xs=[]:=List.eq_nil_of_length_eq_zero (by simpa using hr.1)
  cases A with
  | none=>
   obtain ⟨_,rfl⟩:=hr.2.2.1 rfl
   refine ⟨.slice (some ⟨g,0,none⟩) 0 0,w,?_,Below.refl _ _,_,_,rfl,ho,fun _=>rfl⟩
   simp [Builtin.append_,run_underlying ht,sizeOf,typeInfo,hi,Builtin.lenOf,Builtin.firstCells,storeCells]
  | some a=>
   have hrun:=run_append_room (P:=P) w t ty e i ht hi g 0 0 #[] hg a 0 c [] (by simp) (by simp) (by simp) (by simp) (by simp)
   refine ⟨_,_,hrun,?_,_,_,rfl,?_,fun _=>rfl⟩
   ·simpa using below_setRow_same hg
   ·have hb:=below_setRow_same hg
    have:=own_below ho hb
    simpa using this
 ·obtain ⟨b,off,rfl,hb,hcell⟩:=hr.2.2.2 (by omega)
  have hbt:n * i.bytes≤140737488355328:=by rw [hby];exact hbytes
  have hrun:=run_append_grow (P:=P) w t ty e i z ht hi hz ⟨g,0,none⟩ 0 0 [] (by simp) (by simp) ⟨b,off,none⟩ n c xs (by rw [hsize];exact hr.1) (fun j v hj=>hr.olds _ rfl j v hj) (by omega) (by unfold maxLen at hn;omega) (growslice_fits (by omega) (by simpa using hbt))
  rw [Nat.zero_add] at hrun
  have hge:=grownCap_ge w n 0 e
  have hcm:grownCap w n 0 e≤maxLen:=grownCap_le_maxLen w n 0 e hn
  have hl:=hr.1
  rw [Nat.mul_one] at hl
  refine ⟨_,_,hrun,(below_drew1 w).alloc (by simp) _,_,_,rfl,⟨by simpa using hl,.inr ⟨w.heap.size,_,_,rfl,hB,heap_alloc_new w.drew _,hge,hcm,?_,?_⟩⟩,fun h=>absurd h h0⟩
  ·simp only [Array.size_append,List.size_toArray,size_zeroCells,hzs,hl,List.length_nil]
   omega
  ·simp only [Array.toList_append,List.nil_append,Nat.mul_one]
   rw [← hl]
   exact List.take_left
theorem exec_append {P:Program} (ρ:Operand→Value) (w:World) (o:Oper) (s x:Operand) (t:TypeId) (ho:o.op=.call { callee:=.builtin .append,args:=#[s,x],argTypes:=#[t,t] }) {v1 v2 v:Value} {w':World} (hs:ρ s=v1) (hx:ρ x=v2)
  (hr:(Builtin.append_ #[t,t] o.type #[v1,v2]).run P w=.ok v w'):(execOp ρ o).run P w=.ok (.value v) w':=by
 unfold execOp
 simp only [ho,resolve,invoke,builtin,Sem.run_bind,Sem.run_pure,Result.andThen_ok,List.map_toArray,List.map_cons,List.map_nil,hs,hx,hr]
theorem exec_none (ρ:Operand→Value) (w:World) (o:Oper) (ho:o.op=.buildSlice 49 0 #[]):(execOp ρ o).run Tryz.prog w=.ok (.value (.slice (some ⟨w.heap.size,0,none⟩) 0 0)) (w.alloc (.cells #[] 3)):=by
 unfold execOp
 simp only [ho]
 go_simp
theorem Sl.last {w:World} {b off n k c:Nat} {xs:List Value} (h:Sl w 1 (some ⟨b,off,none⟩) (k + n) c xs) (hn:0 < n):Sl w 1 (some ⟨b,off + k,none⟩) n (c - k) (xs.drop k):=by
 have hl:=h.1
 have hc:=h.2.1
 obtain ⟨b',off',e,hb,hv⟩:=h.2.2.2 (by omega)
 injection e with e
 injection e with e1 e2
 subst e1
 subst e2
 exact ⟨by simp;omega,by omega,(fun h=>by cases h),fun _=>⟨_,_,rfl,hb,fun j hj=>by rw [List.getElem?_drop,Nat.add_assoc,hv (k + j) (by omega)]⟩⟩
theorem Sl.front {w:World} {b off n k c:Nat} {xs:List Value} (h:Sl w 1 (some ⟨b,off,none⟩) (k + n) c xs) (hn:0 < n):Sl w 1 (some ⟨b,off,none⟩) k c (xs.take k):=by
 have hl:=h.1
 have hc:=h.2.1
 obtain ⟨b',off',e,hb,hv⟩:=h.2.2.2 (by omega)
 injection e with e
 injection e with e1 e2
 subst e1
 subst e2
 exact ⟨by simp;omega,by omega,(fun h=>by cases h),fun _=>⟨_,_,rfl,hb,fun j hj=>by rw [List.getElem?_take,if_pos (by omega),hv j (by omega)]⟩⟩
end Go.Proofs.YtpaocjpjlogkgaaGreat
