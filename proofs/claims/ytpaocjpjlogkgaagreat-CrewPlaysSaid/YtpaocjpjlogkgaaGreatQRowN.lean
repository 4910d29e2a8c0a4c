/-
  Words and contracts of this claim, 2 texts laid into one, each under its own remark. No conditions but those that stand at each.
-/
import Derived.Test.YtpaocjpjlogkgaaGreatQRely
import Derived.Test.YtpaocjpjlogkgaaGreatQWords
import Derived.Deep.DeepMust
import Derived.Deep.MidRow
namespace Go.Proofs.YtpaocjpjlogkgaaGreat
set_option maxRecDepth 100000
set_option maxHeartbeats 32000000
open Go
section
open Go Go.RowKit
attribute [local go_sem] look findAt
attribute [local simp] depsOf isV Region.binds
def noneV (B:Nat) (e:TypeId):Says:=fun v w=>∃ g,v=.slice (some ⟨g,0,none⟩) 0 0∧w.ownsRow B e 1 (.slice (some ⟨g,0,none⟩) 0 0) 0 []
def listV (B:Nat) (e:TypeId) (n:Nat) (xs:List Value):Says:=fun v w=>∃ A c,v=.slice A n c∧w.ownsRow B e 1 (.slice A n c) n xs∧(n=0→c=0)
section
variable {B:Nat} {e:TypeId}
theorem noneV_below (v:Value) (x y:World) (hb:Below x.heap.size x y) (h:noneV B e v x):noneV B e v y:=by
 obtain ⟨g,rfl,ho⟩:=h
 exact ⟨g,rfl,own_below ho hb⟩
theorem listV_below {n:Nat} {xs:List Value} (v:Value) (x y:World) (hb:Below x.heap.size x y) (h:listV B e n xs v x):listV B e n xs v y:=by
 obtain ⟨A,c,rfl,ho,h0⟩:=h
 exact ⟨A,c,rfl,own_below ho hb,h0⟩
end
theorem below_setRow_same {w:World} {g:Nat} {e:TypeId} {cs:Array Value} (h:Bk w g e cs):Below w.heap.size w (w.setRow g cs):=
 ⟨rfl,rfl,rfl,by simp,fun k hk=>by
  by_cases e':k=g
  ·subst e'
   exact (setRow_heap w k cs cs e _ h).trans h.symm
  ·exact setRow_other w g k cs e'⟩
theorem run_append_none {P:Program} (w:World) (t ty:TypeId) (B:Nat) (e:TypeId) (i:TypeInfo) (z:Value) (bytes:Nat) (ht:P.underlying t=some (.slice e)) (hi:P.info? e=some i) (hz:i.zero=some z)
  (hsize:i.size=1) (hby:i.bytes=bytes) (hzs:z.cells.size=1) (hB:B≤w.heap.size)
  (g:Nat) (ho:w.ownsRow B e 1 (.slice (some ⟨g,0,none⟩) 0 0) 0 []) (A:Option Addr) (n c:Nat) (xs:List Value) (hr:Sl w 1 A n c xs) (h1:∀ u∈xs,u.oneCell'=true) (hn:n≤maxLen) (hbytes:n * bytes≤140737488355328) :
  ∃ v w',(Builtin.append_ #[t,t] ty #[.slice (some ⟨g,0,none⟩) 0 0,.slice A n c]).run P w=.ok v w'∧Below w.heap.size w w'∧listV B e n xs v w':=by
 have hcur:∃ cur,Bk w g e cur∧cur.size=0:=by
  rcases ho.2 with ⟨h,_⟩ | ⟨g',cap,cur,hv,hb,hg,hnc,hcm,hcs,_⟩
  ·cases h
  ·injection hv with h1 _ h3
   injection h1 with h1
   injection h1 with h1
   subst h1
   subst h3
   exact ⟨cur,hg,by simpa using hcs⟩
 obtain ⟨cur,hg,hc0⟩:=hcur
 obtain rfl:cur = #[]:=Array.eq_empty_of_size_eq_zero hc0
 by_cases h0:n=0
 ·subst h0
  obtain rfl:xs=[]:=List.eq_nil_of_length_eq_zero (by simpa using hr.1)
  cases A with
  | none=>
   obtain ⟨_,rfl⟩:=hr.2.2.1 rfl
   refine ⟨.slice (some ⟨g,0,none⟩) 0 0,w,?_,Below.refl _ _,_,_,rfl,ho,fun _=>rfl⟩
   simp [Builtin.append_,run_underlying ht,sizeOf,typeInfo,hi,Builtin.lenOf,Builtin.firstCells,storeCells]
  | some a=>
   have hrun:=run_append_room (P:=P) w t ty e i ht hi g 0 0 #[] hg a 0 c [] (by simp) (by simp) (by simp) (by simp) (by simp)
   refine ⟨_,_,hrun,?_,_,_,rfl,?_,fun _=>rfl⟩
   ·simpa using below_setRow_same hg
   ·have hb:=below_setRow_same hg
    have:=own_below ho hb
    simpa using this
 ·obtain ⟨b,off,rfl,hb,hcell⟩:=hr.2.2.2 (by omega)
  have hbt:n * i.bytes≤140737488355328:=by rw [hby];exact hbytes
  have hrun:=run_append_grow (P:=P) w t ty e i z ht hi hz ⟨g,0,none⟩ 0 0 [] (by simp) (by simp) ⟨b,off,none⟩ n c xs (by rw [hsize];exact hr.1) (fun j v hj=>hr.olds _ rfl j v hj) (by omega) (by unfold maxLen at hn;omega) (growslice_fits (by omega) (by simpa using hbt))
  rw [Nat.zero_add] at hrun
  have hge:=grownCap_ge w n 0 e
  have hcm:grownCap w n 0 e≤maxLen:=grownCap_le_maxLen w n 0 e hn
  have hl:=hr.1
  rw [Nat.mul_one] at hl
  refine ⟨_,_,hrun,(below_drew1 w).alloc (by simp) _,_,_,rfl,⟨by simpa using hl,.inr ⟨w.heap.size,_,_,rfl,hB,heap_alloc_new w.drew _,hge,hcm,?_,?_⟩⟩,fun h=>absurd h h0⟩
  ·simp only [Array.size_append,List.size_toArray,size_zeroCells,hzs,hl,List.length_nil]
   omega
  ·simp only [Array.toList_append,List.nil_append,Nat.mul_one]
   rw [← hl]
   exact List.take_left
theorem exec_append {P:Program} (ρ:Operand→Value) (w:World) (o:Oper) (s x:Operand) (t:TypeId) (ho:o.op=.call { callee:=.builtin .append,args:=#[s,x],argTypes:=#[t,t] }) {v1 v2 v:Value} {w':World} (hs:ρ s=v1) (hx:ρ x=v2)
  (hr:(Builtin.append_ #[t,t] o.type #[v1,v2]).run P w=.ok v w'):(execOp ρ o).run P w=.ok (.value v) w':=by
 unfold execOp
 simp only [ho,resolve,invoke,builtin,Sem.run_bind,Sem.run_pure,Result.andThen_ok,List.map_toArray,List.map_cons,List.map_nil,hs,hx,hr]
theorem exec_none (ρ:Operand→Value) (w:World) (o:Oper) (ho:o.op=.buildSlice 49 0 #[]):(execOp ρ o).run Tryz.prog w=.ok (.value (.slice (some ⟨w.heap.size,0,none⟩) 0 0)) (w.alloc (.cells #[] 3)):=by
 unfold execOp
 simp only [ho]
 go_simp
theorem Sl.last {w:World} {b off n k c:Nat} {xs:List Value} (h:Sl w 1 (some ⟨b,off,none⟩) (k + n) c xs) (hn:0 < n):Sl w 1 (some ⟨b,off + k,none⟩) n (c - k) (xs.drop k):=by
 have hl:=h.1
 have hc:=h.2.1
 obtain ⟨b',off',e,hb,hv⟩:=h.2.2.2 (by omega)
 injection e with e
 injection e with e1 e2
 subst e1
 subst e2
 exact ⟨by simp;omega,by omega,(fun h=>by cases h),fun _=>⟨_,_,rfl,hb,fun j hj=>by rw [List.getElem?_drop,Nat.add_assoc,hv (k + j) (by omega)]⟩⟩
theorem Sl.front {w:World} {b off n k c:Nat} {xs:List Value} (h:Sl w 1 (some ⟨b,off,none⟩) (k + n) c xs) (hn:0 < n):Sl w 1 (some ⟨b,off,none⟩) k c (xs.take k):=by
 have hl:=h.1
 have hc:=h.2.1
 obtain ⟨b',off',e,hb,hv⟩:=h.2.2.2 (by omega)
 injection e with e
 injection e with e1 e2
 subst e1
 subst e2
 exact ⟨by simp;omega,by omega,(fun h=>by cases h),fun _=>⟨_,_,rfl,hb,fun j hj=>by rw [List.getElem?_take,if_pos (by omega),hv j (by omega)]⟩⟩
end
section
open Go Go.RowKit
theorem below_setRowK {B:Nat} {a w:World} (h:Below B a w) {g:Nat} (hg:B≤g) (cs:Array Value):Below B a (w.setRow g cs):=by
 refine ⟨h.os,h.tape,h.output,by simpa using h.size,fun k hk=>?_⟩
 rw [setRow_other w g k cs (by omega)]
 exact h.block k hk
def TurnK (B:Nat) (e:TypeId) (o:Nat) (news:List Value) (x y:World):Prop:=
 Below B x y∧∀ g t cur,B≤g→Bk x g t cur→Bk y g t cur∨(t=e∧1≤o∧∃ cur',Bk y g e cur'∧cur'.size=cur.size∧(∀ j,j < o→cur'[j]? = cur[j]?)∧∀ j,o≤j→j < o + news.length→cur'[j]? = news[j - o]?)
section
variable {B:Nat} {e:TypeId} {o:Nat} {news:List Value}
theorem TurnK.trans (x y z:World) (h:TurnK B e o news x y) (k:TurnK B e o news y z):TurnK B e o news x z:=by
 refine ⟨h.1.trans k.1,fun g t cur hg hb=>?_⟩
 rcases h.2 g t cur hg hb with h1 | ⟨ht,n1,c1,b1,s1,l1,r1⟩
 ·exact k.2 g t cur hg h1
 ·subst ht
  rcases k.2 g _ c1 hg b1 with h2 | ⟨-,-,c2,b2,s2,l2,r2⟩
  ·exact .inr ⟨rfl,n1,c1,h2,s1,l1,r1⟩
  ·exact .inr ⟨rfl,n1,c2,b2,s2.trans s1,fun j hj=>(l2 j hj).trans (l1 j hj),r2⟩
theorem TurnK.refl (x:World):TurnK B e o news x x:=⟨Below.refl _ _,fun _ _ _ _ hb=>.inl hb⟩
theorem TurnK.of {x y:World} (hB:B≤x.heap.size) (h:Below x.heap.size x y):TurnK B e o news x y:=⟨h.mono hB,fun _ _ _ _ hb=>.inl (hb.below h)⟩
theorem TurnK.zero {x y:World} {o2:Nat} {n2:List Value} (h:TurnK B e 0 news x y):TurnK B e o2 n2 x y:=by
 refine ⟨h.1,fun g t cur hg hb=>?_⟩
 rcases h.2 g t cur hg hb with h1 | ⟨-,h1,-⟩
 ·exact .inl h1
 ·omega
theorem own_turnK {k m:Nat} {x y:World} {v:Value} {xs:List Value} (h:x.ownsRow B e k v m xs) (hT:TurnK B e o news x y) (hk:1≤o→∀ j,o≤j→j < m * k→j < o + news.length∧xs[j]? = news[j - o]?):y.ownsRow B e k v m xs:=by
 refine ⟨h.1,?_⟩
 rcases h.2 with h0 | ⟨g,cap,cur,hv,hb,hg,hnc,hcm,hcs,ht⟩
 ·exact .inl h0
 ·rcases hT.2 g e cur hb hg with h1 | ⟨-,n1,c1,h1,s1,l1,r1⟩
  ·exact .inr ⟨g,cap,cur,hv,hb,h1,hnc,hcm,hcs,ht⟩
  ·refine .inr ⟨g,cap,c1,hv,hb,h1,hnc,hcm,by rw [s1];exact hcs,?_⟩
   rw [← ht]
   apply List.ext_getElem?
   intro j
   rw [List.getElem?_take,List.getElem?_take]
   by_cases hj:j < m * k
   ·rw [if_pos hj,if_pos hj,Array.getElem?_toList,Array.getElem?_toList]
    rcases Nat.lt_or_ge j o with q | q
    ·exact l1 j q
    ·obtain ⟨q1,q2⟩:=hk n1 j q hj
     rw [r1 j q q1,← q2,← ht,List.getElem?_take,if_pos hj,Array.getElem?_toList]
   ·rw [if_neg hj,if_neg hj]
end
def recV (B:Nat) (e:TypeId) (k n:Nat) (xs:List Value):Says:=fun v w=>∃ A c,v=.slice A n c∧w.ownsRow B e k (.slice A n c) n xs∧(n=0→c=0)
section
variable {B:Nat} {e:TypeId} {k n:Nat} {news:List Value}
theorem recV_turn {m:Nat} {xs:List Value} (hm:m≤n) (v:Value) (x y:World) (hT:TurnK B e (n * k) news x y) (h:recV B e k m xs v x):recV B e k m xs v y:=by
 obtain ⟨A,c,rfl,ho,h0⟩:=h
 refine ⟨A,c,rfl,own_turnK ho hT (fun _ j h1 h2=>?_),h0⟩
 have:=Nat.mul_le_mul_right k hm
 omega
theorem recV_sing {m:Nat} {xs:List Value} (hm:m * k≤k) (v:Value) (x y:World) (hT:TurnK B e (n * k) news x y) (h:recV B e k m xs v x):recV B e k m xs v y:=by
 obtain ⟨A,c,rfl,ho,h0⟩:=h
 refine ⟨A,c,rfl,own_turnK ho hT (fun h1 j h2 h3=>?_),h0⟩
 rcases Nat.eq_zero_or_pos n with q | q
 ·rw [q] at h1;omega
 ·have:1 * k≤n * k:=Nat.mul_le_mul_right k q
  omega
theorem recV_more {m:Nat} {xs:List Value} (hx:xs.length=n * k) (hl:news.length=m * k) (v:Value) (x y:World) (hT:TurnK B e (n * k) news x y) (h:recV B e k (n + m) (xs ++ news) v x):recV B e k (n + m) (xs ++ news) v y:=by
 obtain ⟨A,c,rfl,ho,h0⟩:=h
 refine ⟨A,c,rfl,own_turnK ho hT (fun _ j h1 h2=>?_),h0⟩
 rw [Nat.add_mul] at h2
 refine ⟨by omega,?_⟩
 rw [List.getElem?_append_right (by omega),hx]
end
theorem run_append_recs {P:Program} (w:World) (t ty:TypeId) (B:Nat) (e:TypeId) (i:TypeInfo) (z:Value) (size bytes:Nat) (ht:P.underlying t=some (.slice e)) (hi:P.info? e=some i) (hz:i.zero=some z)
  (hsize:i.size=size) (hby:i.bytes=bytes) (hzs:z.cells.size=size) (hsz:0 < size) (hB:B≤w.heap.size)
  (A0:Option Addr) (n c0:Nat) (xs:List Value) (hown:w.ownsRow B e size (.slice A0 n c0) n xs) (h0:n=0→c0=0)
  (A:Option Addr) (m c:Nat) (news:List Value) (hr:Sl w size A m c news) (h1:∀ u∈news,u.oneCell'=true) (h63:n + m≤maxLen) (hbytes:(n + m) * bytes≤140737488355328) :
  ∃ v' w',(Builtin.append_ #[t,t] ty #[.slice A0 n c0,.slice A m c]).run P w=.ok v' w'∧TurnK B e (n * size) news w w'∧recV B e size (n + m) (xs ++ news) v' w':=by
 subst hsize
 subst hby
 have hl:=hr.1
 have hlen:(xs ++ news).length=(n + m) * i.size:=by rw [List.length_append,hown.1,hl,Nat.add_mul]
 have grown:∀ (old:Nat),old < n + m →
   recV B e i.size (n + m) (xs ++ news) (.slice (some ⟨w.heap.size,0,none⟩) (n + m) (grownCap w (n + m) old e)) (w.drew.alloc (.cells (xs.toArray ++ news.toArray ++ Builtin.zeroCells z.cells (grownCap w (n + m) old e - (n + m))) e)) ∧
   Below w.heap.size w (w.drew.alloc (.cells (xs.toArray ++ news.toArray ++ Builtin.zeroCells z.cells (grownCap w (n + m) old e - (n + m))) e)):=by
  intro old ho
  have hge:=grownCap_ge w (n + m) old e
  have hcm:grownCap w (n + m) old e≤maxLen:=grownCap_le_maxLen w (n + m) old e h63
  refine ⟨⟨_,_,rfl,⟨hlen,.inr ⟨w.heap.size,_,_,rfl,hB,heap_alloc_new w.drew _,hge,hcm,?_,?_⟩⟩,fun h=>by omega⟩,(below_drew1 w).alloc (by simp) _⟩
  ·simp only [Array.size_append,List.size_toArray,size_zeroCells,hzs,hown.1,hl,← Nat.add_mul]
   congr 1
   omega
  ·simp only [Array.toList_append,List.append_assoc]
   rw [← List.append_assoc,← hlen]
   exact List.take_left
 by_cases hm:m=0
 ·-- nothing is appended
  subst hm
  obtain rfl:news=[]:=List.eq_nil_of_length_eq_zero (by simpa using hl)
  obtain ⟨v',w',q1,q2,q3,-,-⟩:∃ v' w',(Builtin.append_ #[t,t] ty #[.slice A0 n c0,.slice A 0 c]).run P w=.ok v' w'∧v'=.slice A0 n c0∧Below w.heap.size w w'∧True∧True:=by
   cases A with
   | none=>
    obtain ⟨_,rfl⟩:=hr.2.2.1 rfl
    refine ⟨.slice A0 n c0,w,?_,rfl,Below.refl _ _,trivial,trivial⟩
    rcases hown.2 with ⟨hv,hn⟩ | ⟨g,cap,cur,hv,hbg,hg,hnc,hcm,hcs,htake⟩
    ·injection hv with e1 e2 e3
     subst e1 e2 e3
     simp [Builtin.append_,run_underlying ht,sizeOf,typeInfo,hi,Builtin.lenOf,Builtin.firstCells]
    ·injection hv with e1 e2 e3
     subst e1 e3
     simp [Builtin.append_,run_underlying ht,sizeOf,typeInfo,hi,Builtin.lenOf,Builtin.firstCells,storeCells,hnc]
   | some a=>
    rcases hown.2 with ⟨hv,hn⟩ | ⟨g,cap,cur,hv,hbg,hg,hnc,hcm,hcs,htake⟩
    ·injection hv with e1 e2 e3
     subst e1 e2 e3
     refine ⟨.slice none 0 0,w,?_,rfl,Below.refl _ _,trivial,trivial⟩
     simp [Builtin.append_,run_underlying ht,sizeOf,typeInfo,hi,Builtin.lenOf,Builtin.firstCells,loadCells,loadCellsFrom]
    ·injection hv with e1 e2 e3
     subst e1 e3
     have hrun:=run_append_room (P:=P) w t ty e i ht hi g n c0 cur hg a 0 c [] (by simp) (by simp) (by simp) hnc (by rw [hcs];simpa using Nat.mul_le_mul_right i.size hnc)
     refine ⟨_,_,hrun,rfl,?_,trivial,trivial⟩
     have hsame:(cur.toList.take (n * i.size) ++ [] ++ cur.toList.drop (n * i.size + ([]:List Value).length)).toArray=cur:=by simp
     rw [hsame]
     exact below_setRow_same hg
  refine ⟨v',w',q1,TurnK.of hB q3,?_⟩
  rw [q2,List.append_nil]
  exact ⟨A0,c0,rfl,own_below hown q3,h0⟩
 ·obtain ⟨b,off,rfl,hb,hcell⟩:=hr.2.2.2 (by omega)
  have hnews:∀ j u,news[j]? = some u→w.cell? ((⟨b,off,none⟩:Addr).add j)=some u:=fun j u hj=>hr.olds _ rfl j u hj
  rcases hown.2 with ⟨hv,hn⟩ | ⟨g,cap,cur,hv,hbg,hg,hnc,hcm,hcs,htake⟩
  ·injection hv with e1 e2 e3
   subst e1 e2 e3
   obtain rfl:xs=[]:=List.eq_nil_of_length_eq_zero (by simpa using hown.1)
   have hrun:=run_append_nil (P:=P) w t ty e i z ht hi hz ⟨b,off,none⟩ m c news hl hnews (by omega) (by unfold maxLen at h63;omega) (by have hb:=hbytes;simp only [Nat.zero_add] at hb;omega)
   obtain ⟨k1,k2⟩:=grown 0 (by omega)
   simp only [Nat.zero_add,List.nil_append,Array.empty_append] at k1 k2 ⊢
   exact ⟨_,_,hrun,TurnK.of hB k2,k1⟩
  ·injection hv with e1 e2 e3
   subst e1 e3
   by_cases hroom:n + m≤c0
   ·have hn1:1≤n:=by
     rcases Nat.eq_zero_or_pos n with q | q
     ·have:=h0 q;omega
     ·exact q
    have hfit:n * i.size + news.length≤cur.size:=by rw [hl,hcs,← Nat.add_mul];exact Nat.mul_le_mul_right _ hroom
    have hrun:=run_append_room (P:=P) w t ty e i ht hi g n c0 cur hg ⟨b,off,none⟩ m c news hl hnews h1 hroom hfit
    have hbk:=setRow_heap w g cur (cur.toList.take (n * i.size) ++ news ++ cur.toList.drop (n * i.size + news.length)).toArray e _ hg
    have hsz2:(cur.toList.take (n * i.size) ++ news ++ cur.toList.drop (n * i.size + news.length)).toArray.size=cur.size:=by
     simp only [List.size_toArray,List.length_append,List.length_take,List.length_drop,Array.length_toList]
     omega
    refine ⟨_,_,hrun,⟨below_setRowK (Below.refl _ _) hbg _,fun g' t' cur' hg' hb'=>?_⟩,_,_,rfl,⟨hlen,.inr ⟨g,c0,_,rfl,hbg,hbk,hroom,hcm,by rw [hsz2];exact hcs,?_⟩⟩,fun h=>by omega⟩
    ·by_cases eg:g'=g
     ·subst eg
      unfold Bk at hb'
      have h2:w.heap[g']? = some (.cells cur e (0,0)):=hg
      rw [h2] at hb'
      injection hb' with hb'
      injection hb' with e1 e2
      subst e1 e2
      refine .inr ⟨rfl,?_,_,hbk,hsz2,fun j hj=>?_,fun j h1 h2=>?_⟩
      ·have:=Nat.mul_le_mul hn1 hsz
       omega
      ·rw [List.getElem?_toArray,List.append_assoc,List.getElem?_append_left (by simp;omega),List.getElem?_take,if_pos hj,Array.getElem?_toList]
      ·have hl2:(cur.toList.take (n * i.size)).length=n * i.size:=by rw [List.length_take,Array.length_toList];omega
       rw [List.getElem?_toArray,List.append_assoc,List.getElem?_append_right (by rw [hl2];exact h1),hl2,List.getElem?_append_left (by omega)]
     ·exact .inl ((setRow_other w g g' _ eg).trans hb')
    ·rw [htake,← hlen]
     exact List.take_left
   ·have holds:∀ j u,xs[j]? = some u→w.cell? ((⟨g,0,none⟩:Addr).add j)=some u:=hown.cells (g:=g) rfl
    have hrun:=run_append_grow (P:=P) w t ty e i z ht hi hz ⟨g,0,none⟩ n c0 xs hown.1 holds ⟨b,off,none⟩ m c news hl hnews (by omega) (by unfold maxLen at h63;omega) (growslice_fits (by omega) hbytes)
    obtain ⟨k1,k2⟩:=grown c0 (by omega)
    exact ⟨_,_,hrun,TurnK.of hB k2,k1⟩
end
end Go.Proofs.YtpaocjpjlogkgaaGreat
