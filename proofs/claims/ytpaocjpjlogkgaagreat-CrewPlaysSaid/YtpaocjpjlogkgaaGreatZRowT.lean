/-
  Statements whose order is open that append: to an empty list of their own, and one value behind it. What their operations leave, one look at each. They name no function of the program. No conditions but those that stand there.
-/
import Derived.Test.YtpaocjpjlogkgaaGreatQRely
import Derived.Test.YtpaocjpjlogkgaaGreatQWords
import Derived.Test.YtpaocjpjlogkgaaGreatQRowN
import Derived.Test.YtpaocjpjlogkgaaGreatQMacNr
namespace Go.Proofs.YtpaocjpjlogkgaaGreat
open Go Go.RowKit
def TurnR (B:Nat) (e:TypeId) (n:Nat) (u:Value) (x y:World):Prop:=
 Below B x y∧∀ g cur,B≤g→Bk x g e cur→Bk y g e cur∨(1≤n∧n < cur.size∧Bk y g e (cur.setIfInBounds n u))
theorem TurnR.trans {B:Nat} {e:TypeId} {n:Nat} {u:Value} (x y z:World) (h:TurnR B e n u x y) (k:TurnR B e n u y z):TurnR B e n u x z:=by
 refine ⟨h.1.trans k.1,fun g cur hg hb=>?_⟩
 rcases h.2 g cur hg hb with h1 | ⟨n1,n2,h1⟩
 ·exact k.2 g cur hg h1
 ·rcases k.2 g _ hg h1 with h2 | ⟨_,_,h2⟩
  ·exact .inr ⟨n1,n2,h2⟩
  ·refine .inr ⟨n1,n2,?_⟩
   rw [show (cur.setIfInBounds n u).setIfInBounds n u=cur.setIfInBounds n u by
    apply Array.ext_getElem?
    intro j
    simp only [Array.getElem?_setIfInBounds,Array.size_setIfInBounds]
    split <;> simp_all] at h2
   exact h2
theorem TurnR.refl {B:Nat} {e:TypeId} {n:Nat} {u:Value} (x:World):TurnR B e n u x x:=⟨Below.refl _ _,fun _ _ _ hb=>.inl hb⟩
theorem TurnR.of {B:Nat} {e:TypeId} {n:Nat} {u:Value} {x y:World} (hB:B≤x.heap.size) (h:Below x.heap.size x y):TurnR B e n u x y:=
 ⟨h.mono hB,fun _ _ _ hb=>.inl (hb.below h)⟩
theorem own_turn {B:Nat} {e:TypeId} {n k:Nat} {u:Value} {x y:World} {v:Value} {xs:List Value} (h:x.ownsRow B e 1 v k xs) (hT:TurnR B e n u x y) (hk:1≤n→k≤n∨(k=n + 1∧xs[n]? = some u)):y.ownsRow B e 1 v k xs:=by
 refine ⟨h.1,?_⟩
 rcases h.2 with h0 | ⟨g,cap,cur,hv,hb,hg,hnc,hcm,hcs,ht⟩
 ·exact .inl h0
 ·rcases hT.2 g cur hb hg with h1 | ⟨n1,n2,h1⟩
  ·exact .inr ⟨g,cap,cur,hv,hb,h1,hnc,hcm,hcs,ht⟩
  ·refine .inr ⟨g,cap,_,hv,hb,h1,hnc,hcm,by rw [Array.size_setIfInBounds];exact hcs,?_⟩
   rw [← ht,Nat.mul_one]
   apply List.ext_getElem?
   intro j
   rw [List.getElem?_take,List.getElem?_take]
   by_cases hj:j < k
   ·rw [if_pos hj,if_pos hj,Array.getElem?_toList,Array.getElem?_toList,Array.getElem?_setIfInBounds]
    by_cases hjn:n=j
    ·subst hjn
     rw [if_pos rfl,if_pos n2]
     rcases hk n1 with hk | ⟨hk,hu⟩
     ·omega
     ·rw [← ht,Nat.mul_one,List.getElem?_take,if_pos hj,Array.getElem?_toList] at hu
      exact hu.symm
    ·rw [if_neg hjn]
   ·rw [if_neg hj,if_neg hj]
def singV (B:Nat) (e:TypeId) (u:Value):Says:=fun v w=>∃ g,v=.slice (some ⟨g,0,none⟩) 1 1∧w.ownsRow B e 1 (.slice (some ⟨g,0,none⟩) 1 1) 1 [u]
def moreV (B:Nat) (e:TypeId) (n:Nat) (xs:List Value) (u:Value):Says:=fun v w=>∃ g c,v=.slice (some ⟨g,0,none⟩) (n + 1) c∧w.ownsRow B e 1 (.slice (some ⟨g,0,none⟩) (n + 1) c) (n + 1) (xs ++ [u])
section
variable {B:Nat} {e:TypeId} {n:Nat} {u:Value}
theorem noneV_turn (v:Value) (x y:World) (hT:TurnR B e n u x y) (h:noneV B e v x):noneV B e v y:=by
 obtain ⟨g,rfl,ho⟩:=h
 exact ⟨g,rfl,own_turn ho hT (fun _=>.inl (Nat.zero_le _))⟩
theorem listV_turn {xs:List Value} (v:Value) (x y:World) (hT:TurnR B e n u x y) (h:listV B e n xs v x):listV B e n xs v y:=by
 obtain ⟨A,c,rfl,ho,h0⟩:=h
 exact ⟨A,c,rfl,own_turn ho hT (fun _=>.inl (Nat.le_refl _)),h0⟩
theorem singV_turn {z:Value} (v:Value) (x y:World) (hT:TurnR B e n u x y) (h:singV B e z v x):singV B e z v y:=by
 obtain ⟨g,rfl,ho⟩:=h
 exact ⟨g,rfl,own_turn ho hT (fun h=>.inl h)⟩
theorem moreV_turn {xs:List Value} (v:Value) (x y:World) (hT:TurnR B e n u x y) (h:moreV B e n xs u v x):moreV B e n xs u v y:=by
 obtain ⟨g,c,rfl,ho⟩:=h
 have hl:xs.length=n:=by have:=ho.1;simp at this;omega
 exact ⟨g,c,rfl,own_turn ho hT (fun _=>.inr ⟨rfl,by rw [List.getElem?_append_right (by omega)];simp [hl]⟩)⟩
end
theorem run_append_sing {P:Program} (w:World) (t ty:TypeId) (B:Nat) (e:TypeId) (i:TypeInfo) (z:Value) (bytes:Nat) (ht:P.underlying t=some (.slice e)) (hi:P.info? e=some i) (hz:i.zero=some z)
  (hsize:i.size=1) (hby:i.bytes=bytes) (hzs:z.cells.size=1) (hB:B≤w.heap.size)
  (A:Option Addr) (n c:Nat) (xs:List Value) (ho:w.ownsRow B e 1 (.slice A n c) n xs) (h0:n=0→c=0) (u:Value) (g:Nat) (hs:w.ownsRow B e 1 (.slice (some ⟨g,0,none⟩) 1 1) 1 [u]) (h1:u.oneCell'=true) (hn:n + 1≤maxLen) (hbytes:(n + 1) * bytes≤140737488355328) :
  ∃ v w',(Builtin.append_ #[t,t] ty #[.slice A n c,.slice (some ⟨g,0,none⟩) 1 1]).run P w=.ok v w'∧TurnR B e n u w w'∧moreV B e n xs u v w':=by
 have hnews:∀ j v,([u]:List Value)[j]? = some v→w.cell? ((⟨g,0,none⟩:Addr).add j)=some v:=hs.cells (g:=g) rfl
 have hl:=ho.1
 rw [Nat.mul_one] at hl
 have grown:∀ (old:Nat),old < n + 1→Below w.heap.size w (w.drew.alloc (.cells (xs.toArray ++ #[u] ++ Builtin.zeroCells z.cells (grownCap w (n + 1) old e - (n + 1))) e)) ∧
   moreV B e n xs u (.slice (some ⟨w.heap.size,0,none⟩) (n + 1) (grownCap w (n + 1) old e)) (w.drew.alloc (.cells (xs.toArray ++ #[u] ++ Builtin.zeroCells z.cells (grownCap w (n + 1) old e - (n + 1))) e)):=by
  intro old hold
  have hge:=grownCap_ge w (n + 1) old e
  have hcm:grownCap w (n + 1) old e≤maxLen:=grownCap_le_maxLen w (n + 1) old e hn
  refine ⟨(below_drew1 w).alloc (by simp) _,_,_,rfl,by simp [hl],.inr ⟨w.heap.size,_,_,rfl,hB,heap_alloc_new w.drew _,hge,hcm,?_,?_⟩⟩
  ·simp only [Array.size_append,List.size_toArray,size_zeroCells,hzs,hl,List.length_singleton]
   omega
  ·simp only [Array.toList_append,Nat.mul_one]
   rw [show n + 1=(xs ++ [u]).length by simp [hl]]
   exact List.take_left
 rcases ho.2 with ⟨h,hn0⟩ | ⟨g',cap,cur,hv,hbg,hg,hnc,hcm,hcs,htake⟩
 ·injection h with hA _ hc
  subst hA
  subst hc
  subst hn0
  obtain rfl:xs=[]:=List.eq_nil_of_length_eq_zero hl
  have hb:(0 + 1) * i.bytes≤140737488355328:=by rw [hby];exact hbytes
  have hrun:=run_append_nil (P:=P) w t ty e i z ht hi hz ⟨g,0,none⟩ 1 1 [u] (by simp [hsize]) hnews (by omega) (by omega) (by omega)
  obtain ⟨k1,k2⟩:=grown 0 (by omega)
  exact ⟨_,_,hrun,TurnR.of hB (by simpa using k1),by simpa using k2⟩
 ·injection hv with hA _ hc
  subst hA
  subst hc
  by_cases hroom:n + 1≤c
  ·have hn1:1≤n:=by
    rcases Nat.eq_zero_or_pos n with h | h
    ·have:=h0 h;omega
    ·exact h
   have hcs':cur.size=c:=by simpa using hcs
   have hrun:=run_append_room (P:=P) w t ty e i ht hi g' n c cur hg ⟨g,0,none⟩ 1 1 [u] (by simp [hsize]) hnews (by simpa using h1) hroom (by rw [hsize,hcs'];simp;omega)
   have hset:(cur.toList.take (n * i.size) ++ [u] ++ cur.toList.drop (n * i.size + [u].length)).toArray=cur.setIfInBounds n u:=by
    apply Array.ext_getElem?
    intro j
    rw [hsize,Nat.mul_one,List.getElem?_toArray,Array.getElem?_setIfInBounds,List.append_assoc]
    rcases Nat.lt_trichotomy j n with hj | hj | hj
    ·rw [List.getElem?_append_left (by simp;omega),List.getElem?_take,if_pos hj,if_neg (by omega),Array.getElem?_toList]
    ·subst hj
     rw [List.getElem?_append_right (by simp;omega),if_pos rfl,if_pos (by omega)]
     simp [show min j cur.size=j by omega]
    ·rw [List.getElem?_append_right (by simp;omega),List.getElem?_append_right (by simp;omega),if_neg (by omega),List.getElem?_drop]
     simp only [List.length_singleton,List.length_take,Array.length_toList,Nat.min_eq_left (show n≤cur.size by omega),Array.getElem?_toList]
     congr 1
     omega
   rw [hset] at hrun
   have hbk:Bk (w.setRow g' (cur.setIfInBounds n u)) g' e (cur.setIfInBounds n u):=setRow_heap w g' cur _ e _ hg
   refine ⟨_,_,hrun,⟨below_row (Below.refl _ _) hbg _,fun k cur' hk hb=>?_⟩,_,_,rfl,by simp [hl],.inr ⟨g',c,_,rfl,hbg,hbk,hroom,hcm,by simp [hcs'],?_⟩⟩
   ·by_cases ek:k=g'
    ·subst ek
     have heq:cur'=cur:=by
      have h2:w.heap[k]? = some (.cells cur e (0,0)):=hg
      unfold Bk at hb
      rw [h2] at hb
      iterate 2
       injection hb with hb
      exact hb.symm
     subst heq
     exact .inr ⟨hn1,by omega,hbk⟩
    ·exact .inl ((setRow_other w g' k _ ek).trans hb)
   ·rw [Nat.mul_one] at htake ⊢
    apply List.ext_getElem?
    intro j
    rw [List.getElem?_take,Array.getElem?_toList,Array.getElem?_setIfInBounds]
    rcases Nat.lt_trichotomy j n with hj | hj | hj
    ·rw [if_pos (by omega),if_neg (by omega),List.getElem?_append_left (by omega),← htake,List.getElem?_take,if_pos hj,Array.getElem?_toList]
    ·subst hj
     rw [if_pos (by omega),if_pos rfl,if_pos (by omega),List.getElem?_append_right (by omega)]
     simp [hl]
    ·rw [if_neg (by omega),List.getElem?_append_right (by omega),List.getElem?_eq_none (by simp;omega)]
  ·have holds:∀ j v,xs[j]? = some v→w.cell? ((⟨g',0,none⟩:Addr).add j)=some v:=ho.cells (g:=g') rfl
   have hb:(n + 1) * i.bytes≤140737488355328:=by rw [hby];exact hbytes
   have hrun:=run_append_grow (P:=P) w t ty e i z ht hi hz ⟨g',0,none⟩ n c xs (by rw [hsize];exact ho.1) holds ⟨g,0,none⟩ 1 1 [u] (by simp [hsize]) hnews (by omega) (by unfold maxLen at hn;omega) (growslice_fits (by omega) hb)
   obtain ⟨k1,k2⟩:=grown c (by omega)
   exact ⟨_,_,hrun,TurnR.of hB k1,k2⟩
end Go.Proofs.YtpaocjpjlogkgaaGreat
