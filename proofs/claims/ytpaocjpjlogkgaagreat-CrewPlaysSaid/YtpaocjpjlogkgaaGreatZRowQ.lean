/-
  append to a slice that has no room, whosever; append of a list to an empty one of one's own, of elements of several cells. They name no function of the program. No conditions but those that stand there.
-/
import Derived.Test.YtpaocjpjlogkgaaGreatQRowN
import Derived.ArgAppend
import Derived.Laws.AppendOwnNone
namespace Go.Proofs.YtpaocjpjlogkgaaGreat
open Go Go.RowKit
theorem append_full {P:Program} {w:World} {ops:Array Oper} {rest:List Oper} {o:Oper} {a:Act} {Q:Exit→Act→World→Prop} (hgd:o.guard=none) (s x:Operand) (t:TypeId)
  (ho:o.op=.call { callee:=.builtin .append,args:=#[s,x],argTypes:=#[t,t] })
  (e:TypeId) (i:TypeInfo) (z:Value) (size bytes:Nat) (ht:P.underlying t=some (.slice e)) (hi:P.info? e=some i) (hz:i.zero=some z)
  (hsize:i.size=size) (hby:i.bytes=bytes) (hzs:z.cells.size=size) (hsz:0 < size)
  (A:Option Addr) (n:Nat) (xs:List Value) (hs:a.eval s=.slice A n n) (hS:Sl w size A n n xs)
  (ad:Addr) (m c:Nat) (news:List Value) (hx:a.eval x=.slice (some ad) m c) (hm:0 < m) (hl:news.length=m * size) (hnews:∀ j u,news[j]? = some u→w.cell? (ad.add j)=some u) (h1:∀ u∈news,u.oneCell'=true)
  (h63:n + m≤maxLen) (hbytes:(n + m) * bytes≤140737488355328)
  (h:∀ v' w',w'.ownsRow w.heap.size e size v' (n + m) (xs ++ news)→w.grownBy w' none→wpList P ops Q rest (a.put o.dst v') w'):wpList P ops Q (o :: rest) a w:=by
 cases A with
 | none=>
  obtain ⟨rfl,-⟩:=hS.2.2.1 rfl
  obtain rfl:xs=[]:=List.eq_nil_of_length_eq_zero (by simpa using hS.1)
  have hown:w.ownsRow w.heap.size e size (.slice none 0 0) 0 []:=⟨by simp,.inl ⟨rfl,rfl⟩⟩
  exact wpList_append_own w hgd s x t ho w.heap.size e i z size bytes ht hi hz hsize hby hzs hsz (.slice none 0 0) 0 [] hs hown ad m c news hx hl hnews h1 h63 hbytes (Nat.le_refl _) (fun v' w' h2 h3 _=>h v' w' h2 h3)
 | some b=>
  refine wpList_plain hgd fun K hK=>?_
  obtain ⟨v',w',hrun,r1,r2⟩:=run_append_arg_grows (P:=P) w t o.type e i z size bytes ht hi hz hsize hby hzs hsz b n n xs hS.1 (hS.olds b rfl) ad m c news hl hnews (by omega) h63 hbytes
  unfold Oper.wp execOp
  simp only [ho,resolve,invoke,builtin,Sem.run_bind,Sem.run_pure,Result.andThen_ok,List.map_toArray,List.map_cons,List.map_nil,hs,hx,hrun]
  exact hK _ _ (h v' w' r1 r2)
def noneK (B:Nat) (e:TypeId) (size:Nat):Says:=fun v w=>∃ g,v=.slice (some ⟨g,0,none⟩) 0 0∧w.ownsRow B e size (.slice (some ⟨g,0,none⟩) 0 0) 0 []
def listK (B:Nat) (e:TypeId) (size n:Nat) (xs:List Value):Says:=fun v w=>∃ A c,v=.slice A n c∧w.ownsRow B e size (.slice A n c) n xs
section
variable {B:Nat} {e:TypeId} {size:Nat}
theorem noneK_below (v:Value) (x y:World) (hb:Below x.heap.size x y) (h:noneK B e size v x):noneK B e size v y:=by
 obtain ⟨g,rfl,ho⟩:=h
 exact ⟨g,rfl,own_below ho hb⟩
theorem listK_below {n:Nat} {xs:List Value} (v:Value) (x y:World) (hb:Below x.heap.size x y) (h:listK B e size n xs v x):listK B e size n xs v y:=by
 obtain ⟨A,c,rfl,ho⟩:=h
 exact ⟨A,c,rfl,own_below ho hb⟩
end
theorem run_append_noneK {P:Program} (w:World) (t ty:TypeId) (B:Nat) (e:TypeId) (i:TypeInfo) (z:Value) (size bytes:Nat) (ht:P.underlying t=some (.slice e)) (hi:P.info? e=some i) (hz:i.zero=some z)
  (hsize:i.size=size) (hby:i.bytes=bytes) (hzs:z.cells.size=size) (hsz:0 < size) (hB:B≤w.heap.size)
  (g:Nat) (ho:w.ownsRow B e size (.slice (some ⟨g,0,none⟩) 0 0) 0 []) (A:Option Addr) (n c:Nat) (xs:List Value) (hr:Sl w size A n c xs) (hn:n≤maxLen) (hbytes:n * bytes≤140737488355328) :
  ∃ v w',(Builtin.append_ #[t,t] ty #[.slice (some ⟨g,0,none⟩) 0 0,.slice A n c]).run P w=.ok v w'∧Below w.heap.size w w'∧listK B e size n xs v w':=by
 have hcur:∃ cur,Bk w g e cur∧cur.size=0:=by
  rcases ho.2 with ⟨h,_⟩ | ⟨g',cap,cur,hv,hb,hg,hnc,hcm,hcs,_⟩
  ·cases h
  ·injection hv with h1 _ h3
   injection h1 with h1
   injection h1 with h1
   subst h1
   subst h3
   exact ⟨cur,hg,by simpa using hcs⟩
 obtain ⟨cur,hg,hc0⟩:=hcur
 obtain rfl:cur = #[]:=Array.eq_empty_of_size_eq_zero hc0
 by_cases h0:n=0
 ·subst h0
  obtain rfl:xs=[]:=List.eq_nil_of_length_eq_zero (by simpa using hr.1)
  cases A with
  | none=>
   obtain ⟨_,rfl⟩:=hr.2.2.1 rfl
   refine ⟨.slice (some ⟨g,0,none⟩) 0 0,w,?_,Below.refl _ _,_,_,rfl,ho⟩
   simp [Builtin.append_,run_underlying ht,sizeOf,typeInfo,hi,Builtin.lenOf,Builtin.firstCells,storeCells]
  | some a=>
   have hrun:=run_append_room (P:=P) w t ty e i ht hi g 0 0 #[] hg a 0 c [] (by simp) (by simp) (by simp) (by simp) (by simp)
   refine ⟨_,_,hrun,?_,_,_,rfl,?_⟩
   ·simpa using below_setRow_same hg
   ·have hb:=below_setRow_same hg
    have:=own_below ho hb
    simpa using this
 ·obtain ⟨b,off,rfl,hb,hcell⟩:=hr.2.2.2 (by omega)
  obtain ⟨v',w',hrun,r1,r2⟩:=run_append_arg_grows (P:=P) w t ty e i z size bytes ht hi hz hsize hby hzs hsz ⟨g,0,none⟩ 0 0 [] (by simp) (by simp) ⟨b,off,none⟩ n c xs hr.1 (fun j v hj=>hr.olds _ rfl j v hj) (by omega) (by omega) (by rw [Nat.zero_add];exact hbytes)
  rw [Nat.zero_add,List.nil_append] at r1
  have hbl:Below w.heap.size w w':=(Below.refl _ _).grown r2 (Nat.le_refl _) (fun k hk=>by cases hk)
  rcases r1.2 with ⟨rfl,hn0⟩ | ⟨g',cap,cur,rfl,hrest⟩
  ·exact ⟨_,_,hrun,hbl,none,0,by rw [hn0],by rw [hn0];exact own_lower (by rw [hn0] at r1;exact r1) hB⟩
  ·exact ⟨_,_,hrun,hbl,_,_,rfl,own_lower r1 hB⟩
theorem Sl.full {w:World} {size n c:Nat} {A:Option Addr} {xs:List Value} (h:Sl w size A n c xs):Sl w size A n n xs:=
 ⟨h.1,Nat.le_refl _,fun e=>⟨(h.2.2.1 e).1,(h.2.2.1 e).1⟩,h.2.2.2⟩
theorem Bk.news {w:World} {g:Nat} {t:TypeId} {cs:Array Value} {xs:List Value} (h:Bk w g t cs) (e:cs.toList=xs):∀ j u,xs[j]? = some u→w.cell? ((⟨g,0,none⟩:Addr).add j)=some u:=fun j u hu=>by
 rw [show (⟨g,0,none⟩:Addr).add j=⟨g,j,none⟩ by unfold Addr.add;split <;> simp_all,h.cell,← hu,← e,Array.getElem?_toList]
end Go.Proofs.YtpaocjpjlogkgaaGreat
