/-
  Words and contracts of this claim, 6 texts laid into one, each under its own remark. No conditions but those that stand at each.
-/
import Derived.Test.YtpaocjpjlogkgaaGreatRows
import Derived.Deep.Slices
import Derived.Test.YtpaocjpjlogkgaaGreatQWords
import Derived.ProofKit
import Derived.OpenShut
import Derived.Deep.Strs
import Derived.Lib.SmallJoins
namespace Go.Proofs.YtpaocjpjlogkgaaGreat
set_option maxRecDepth 100000
set_option maxHeartbeats 32000000
open Go
section
theorem addr_plain {w:World} {a:Addr} {v:Value} (h:w.cell? (a.add 0)=some v):∃ b off,a=⟨b,off,none⟩∧b < w.heap.size:=by
 have e:a.add 0=a:=rfl
 rw [e] at h
 obtain ⟨b,off,spot⟩:=a
 obtain rfl:spot=none:=World.cell?_spot h
 refine ⟨b,off,rfl,?_⟩
 rcases Nat.lt_or_ge b w.heap.size with hlt | hge
 ·exact hlt
 ·simp [World.cell?,Array.getElem?_eq_none hge] at h
end
section
open Go.RowKit Go.ChangeShapes Go.WideShapes Go.Deep
section
variable {H:Type} {enc:TypeId × Value→H} {w:World} {base:Nat} {spare:Nat→Bool} {held:Bool}
def inI64 (x:Int):Prop:=-9223372036854775808≤x∧x≤9223372036854775807
theorem Ints.nil (w:World):Ints w none 0 []:=⟨rfl,Nat.le_refl _,fun _=>⟨rfl,rfl⟩,fun h=>absurd h (by simp)⟩
theorem open_ints1 {A:Option Addr} {n c:Nat} {d:DataW H} {p:List MemPlace} (h:DataW.Trod enc Tryz.prog w base spare held 49 (.slice A n c) d p) :
  ∃ l:List Int,n=l.length∧Ints w A c l∧l.length≤9223372036854775807∧∀ x∈l,inI64 x:=by
 obtain ⟨fuel,hf⟩:=h
 rcases open_slice Tryz.underlying49 hf with ⟨hcs,_⟩ | ⟨a,len,cap,m,nf,D,Pl,hcs,_,hl,hm,hmm,_,hi⟩
 ·simp [Value.cells] at hcs
  obtain ⟨rfl,rfl,rfl⟩:=hcs
  exact ⟨[],rfl,Ints.nil w,by simp,by simp⟩
 ·simp [Value.cells] at hcs
  obtain ⟨rfl,rfl,rfl⟩:=hcs
  have hlm:n≤m:=by rw [hmm];split <;> omega
  have hc1:Tryz.prog.cellsOf 3=1:=by kernel_rfl
  have key:∀ i,i < n→∃ x:Int,w.cell? (a.add i)=some (.int .i64 x)∧inI64 x:=by
   intro i hil
   obtain ⟨cs',hcs,ht⟩:=hi i (by omega)
   obtain ⟨x,rfl,_,wx⟩:=DataW.trod_int Tryz.underlying3 ht
   rw [hc1] at hcs
   obtain ⟨_,_,hat⟩:=World.cells?_some hcs
   have:=hat 0 (by omega)
   rw [Nat.mul_one,Go.Deep.add_add,Nat.add_zero] at this
   exact ⟨x,this,bounds_i64 wx⟩
  obtain ⟨f,hf⟩:=choose_lt key
  unfold maxLen at hm
  refine ⟨(List.range n).map f,by simp,⟨by simp,by simpa using hl,fun h=>by simp at h,fun hn=>?_⟩,by simp;omega,fun x hx=>?_⟩
  ·simp only [List.length_map,List.length_range] at hn
   obtain ⟨b,off,rfl,hlt⟩:=addr_plain (hf 0 hn).1
   refine ⟨b,off,rfl,hlt,fun j hj=>?_⟩
   simp only [List.length_map,List.length_range,Nat.mul_one] at hj
   have:=(hf j hj).1
   rw [Addr.add_lit] at this
   rw [this]
   simp [hj]
  ·obtain ⟨i,hi,rfl⟩:=List.mem_map.1 hx
   exact (hf i (by simpa using hi)).2
end
end
section
open Go.RowKit Go.ChangeShapes Go.WideShapes Go.Deep
section
variable {H:Type} {enc:TypeId × Value→H} {w:World} {base:Nat} {spare:Nat→Bool} {held:Bool}
instance:Inhabited Ins:=⟨⟨0,0,0⟩⟩
theorem three_of {α:Type}:∀ {l:List α},l.length=3→∃ a b c,l=[a,b,c]
 | [a,b,c],_=>⟨a,b,c,rfl⟩
theorem cIntO:Tryz.prog.cellsOf 3=1:=by kernel_rfl
theorem cIns:Tryz.prog.cellsOf 72=3:=by kernel_rfl
theorem open_ins {fuel:Nat} {cs:List Value} {x:DataW H × List MemPlace} (h:DataW.trod enc Tryz.prog w base spare held fuel 72 cs=some x) :
  ∃ y:Ins,cs=insW y∧inI y:=by
 obtain ⟨y0,y1,y2,n,hx,hl,h0,h1,h2⟩:=trod_struct3 Tryz.underlying72 h
 rw [cIns] at hl
 obtain ⟨c0,c1,c2,rfl⟩:=three_of hl
 have h0':DataW.trod enc Tryz.prog w base spare held n 3 (([c0,c1,c2].drop 0).take (Tryz.prog.cellsOf 3))=some y0:=h0
 have h1':DataW.trod enc Tryz.prog w base spare held n 3 (([c0,c1,c2].drop 1).take (Tryz.prog.cellsOf 3))=some y1:=h1
 have h2':DataW.trod enc Tryz.prog w base spare held n 3 (([c0,c1,c2].drop 2).take (Tryz.prog.cellsOf 3))=some y2:=h2
 rw [cIntO] at h0' h1' h2'
 simp only [List.drop_zero,List.drop_succ_cons,List.take_succ_cons,List.take_zero] at h0' h1' h2'
 obtain ⟨a,e0,_,w0⟩:=DataW.trod_int Tryz.underlying3 h0'
 obtain ⟨b,e1,_,w1⟩:=DataW.trod_int Tryz.underlying3 h1'
 obtain ⟨d,e2,_,w2⟩:=DataW.trod_int Tryz.underlying3 h2'
 injection e0 with e0 _
 injection e1 with e1 _
 injection e2 with e2 _
 subst e0
 subst e1
 subst e2
 exact ⟨⟨a,b,d⟩,rfl,bounds_i64 w1,bounds_i64 w2⟩
theorem inss_of {a:Addr} {n c:Nat} (f:Nat→Ins) (hl:n≤c) (h:∀ i,i < n→w.cell? (a.add (i * 3))=some (.int .i64 (f i).op)∧w.cell? (a.add (i * 3 + 1))=some (.int .i64 (f i).a)∧w.cell? (a.add (i * 3 + 2))=some (.int .i64 (f i).b)) :
  Inss w (some a) c ((List.range n).map f):=by
 have hlen:((List.range n).map f).length=n:=by simp
 have hsz:∀ l:List Ins,(inssW l).length=l.length * 3:=fun l=>by
  induction l with
  | nil=>rfl
  | cons x l ih=>rw [inssW,List.flatMap_cons,List.length_append,List.length_cons];rw [inssW] at ih;rw [ih];simp [insW];omega
 refine ⟨by rw [hsz],by rw [hlen];exact hl,fun h=>(by cases h),fun hn=>?_⟩
 rw [hlen] at hn
 obtain ⟨b,off,rfl,hlt⟩:=addr_plain (by simpa using (h 0 hn).1)
 refine ⟨b,off,rfl,hlt,fun j hj=>?_⟩
 rw [hlen] at hj
 obtain ⟨g0,g1,g2⟩:=h (j / 3) (by omega)
 rw [Addr.add_lit] at g0 g1 g2
 obtain ⟨e0,e1,e2⟩:=inssW_at ((List.range n).map f) (j / 3) (by rw [hlen];omega)
 have hin:insAt ((List.range n).map f) (j / 3)=f (j / 3):=by
  unfold insAt
  rw [List.getElem?_map,List.getElem?_range (by omega)]
  rfl
 rw [hin] at e0 e1 e2
 rcases (show j=j / 3 * 3∨j=j / 3 * 3 + 1∨j=j / 3 * 3 + 2 by omega) with e | e | e
 ·rw [e,e0,g0]
 ·rw [e,e1,g1]
 ·rw [e,e2,g2]
theorem open_inss {A:Option Addr} {n c:Nat} {d:DataW H} {p:List MemPlace} (h:DataW.Trod enc Tryz.prog w base spare held 54 (.slice A n c) d p) :
  ∃ l:List Ins,n=l.length∧Inss w A c l∧l.length≤9223372036854775807∧∀ x∈l,inI x:=by
 obtain ⟨fuel,hf⟩:=h
 rcases open_slice Tryz.underlying54 hf with ⟨hcs,_⟩ | ⟨a,len,cap,m,nf,D,Pl,hcs,_,hl,hm,hmm,_,hi⟩
 ·simp [Value.cells] at hcs
  obtain ⟨rfl,rfl,rfl⟩:=hcs
  exact ⟨[],rfl,Inss.nil w,by simp,by simp⟩
 ·simp [Value.cells] at hcs
  obtain ⟨rfl,rfl,rfl⟩:=hcs
  have hlm:n≤m:=by rw [hmm];split <;> omega
  have key:∀ i,i < n→∃ y:Ins,w.cell? (a.add (i * 3))=some (.int .i64 y.op)∧w.cell? (a.add (i * 3 + 1))=some (.int .i64 y.a)∧(w.cell? (a.add (i * 3 + 2))=some (.int .i64 y.b))∧inI y:=by
   intro i hil
   obtain ⟨cs',hcs,ht⟩:=hi i (by omega)
   obtain ⟨y,rfl,hy⟩:=open_ins ht
   rw [cIns] at hcs
   obtain ⟨_,_,hat⟩:=World.cells?_some hcs
   have h0:=hat 0 (by omega)
   have h1:=hat 1 (by omega)
   have h2:=hat 2 (by omega)
   rw [Go.Deep.add_add] at h0 h1 h2
   exact ⟨y,h0,h1,h2,hy⟩
  obtain ⟨f,hf⟩:=choose_lt key
  unfold maxLen at hm
  refine ⟨(List.range n).map f,by simp,inss_of f hl (fun i hi=>⟨(hf i hi).1,(hf i hi).2.1,(hf i hi).2.2.1⟩),by simp;omega,fun x hx=>?_⟩
  obtain ⟨i,hi,rfl⟩:=List.mem_map.1 hx
  exact (hf i (by simpa using hi)).2.2.2
end
end
section
open Go.RowKit Go.ChangeShapes Go.WideShapes Go.Deep
section
variable {H:Type} {enc:TypeId × Value→H} {w:World} {base:Nat} {spare:Nat→Bool} {held:Bool}
theorem cCmd:Tryz.prog.cellsOf 56=5:=by kernel_rfl
theorem cSli:Tryz.prog.cellsOf 49=1:=by kernel_rfl
theorem cSlx:Tryz.prog.cellsOf 54=1:=by kernel_rfl
theorem five_of {α:Type}:∀ {l:List α},l.length=5→∃ a b c d e,l=[a,b,c,d,e]
 | [a,b,c,d,e],_=>⟨a,b,c,d,e,rfl⟩
end
end
section
open Go.RowKit
theorem sl_recs {α:Type} {f:α→List Value} {k:Nat} (hf:∀ x,(f x).length=k) (hk:0 < k) {w:World} {a:Addr} {n c:Nat} (F:Nat→α) (hl:n≤c) (h:∀ i,i < n→∀ j,j < k→w.cell? (a.add (i * k + j))=(f (F i))[j]?) :
  Sl w k (some a) n c (((List.range n).map F).flatMap f):=by
 have hlen:((List.range n).map F).length=n:=by simp
 refine ⟨by rw [recs_length hf,hlen],hl,fun h=>(by cases h),fun hn=>?_⟩
 obtain ⟨v,hv⟩:∃ v,(f (F 0))[0]? = some v:=⟨_,List.getElem?_eq_getElem (by rw [hf];exact hk)⟩
 have h0:=(h 0 hn 0 hk).trans hv
 rw [Nat.zero_mul,Nat.zero_add,show a.add 0=a from rfl] at h0
 obtain ⟨b,off,rfl,hlt⟩:=addr_plain h0
 refine ⟨b,off,rfl,hlt,fun m hm=>?_⟩
 have hp:m / k < n:=Nat.div_lt_of_lt_mul (by rw [Nat.mul_comm];exact hm)
 have hq:m % k < k:=Nat.mod_lt _ hk
 have e:m / k * k + m % k=m:=by rw [Nat.mul_comm];exact Nat.div_add_mod m k
 have h1:=h (m / k) hp (m % k) hq
 have h2:=recs_at hf ((List.range n).map F) (m / k) (F (m / k)) (by rw [List.getElem?_map,List.getElem?_range hp];rfl) (m % k) hq
 rw [e] at h1 h2
 rw [Addr.add_lit] at h1
 rw [h1,h2]
end
section
open Go.RowKit Go.ChangeShapes Go.WideShapes Go.Deep
section
variable {H:Type} {enc:TypeId × Value→H} {w:World} {base:Nat} {spare:Nat→Bool} {held:Bool}
theorem open_cml {fuel:Nat} {cs:List Value} {x:DataW H × List MemPlace} (hf:DataW.trod enc Tryz.prog w base spare held fuel 56 cs=some x):∃ y:CmL,cs=cmlC y∧y.In w:=by
 obtain ⟨xs,n,_,_,hl,hlen,hfs⟩:=DataW.trod_struct Tryz.underlying56 hf
 rw [cCmd] at hl
 obtain ⟨c0,c1,c2,c3,c4,rfl⟩:=five_of hl
 have g0:∃ y,DataW.trod enc Tryz.prog w base spare held n 49 [c0]=some y:=⟨xs[0]'(by rw [hlen];decide),by
  have:=hfs 0 _ rfl
  simpa [cSli,hlen] using this⟩
 have g1:∃ y,DataW.trod enc Tryz.prog w base spare held n 49 [c1]=some y:=⟨xs[1]'(by rw [hlen];decide),by
  have:=hfs 1 _ rfl
  simpa [cSli,hlen] using this⟩
 have g2:∃ y,DataW.trod enc Tryz.prog w base spare held n 49 [c2]=some y:=⟨xs[2]'(by rw [hlen];decide),by
  have:=hfs 2 _ rfl
  simpa [cSli,hlen] using this⟩
 have g3:∃ y,DataW.trod enc Tryz.prog w base spare held n 3 [c3]=some y:=⟨xs[3]'(by rw [hlen];decide),by
  have:=hfs 3 _ rfl
  simpa [cIntO,hlen] using this⟩
 have g4:∃ y,DataW.trod enc Tryz.prog w base spare held n 54 [c4]=some y:=⟨xs[4]'(by rw [hlen];decide),by
  have:=hfs 4 _ rfl
  simpa [cSlx,hlen] using this⟩
 obtain ⟨y0,g0⟩:=g0
 obtain ⟨y1,g1⟩:=g1
 obtain ⟨y2,g2⟩:=g2
 obtain ⟨y3,g3⟩:=g3
 obtain ⟨y4,g4⟩:=g4
 obtain ⟨ra,nr,rc,e0⟩:=Go.Joins.slice_form Tryz.underlying49 g0
 obtain ⟨wa,nw,wc,e1⟩:=Go.Joins.slice_form Tryz.underlying49 g1
 obtain ⟨aa,na,ac,e2⟩:=Go.Joins.slice_form Tryz.underlying49 g2
 obtain ⟨ca,nc,cc,e4⟩:=Go.Joins.slice_form Tryz.underlying54 g4
 obtain ⟨fu,e3,_,w3⟩:=DataW.trod_int Tryz.underlying3 g3
 injection e0 with e0 _
 injection e1 with e1 _
 injection e2 with e2 _
 injection e3 with e3 _
 injection e4 with e4 _
 subst e0
 subst e1
 subst e2
 subst e3
 subst e4
 obtain ⟨l0,k0,i0,_,b0⟩:=open_ints1 (w:=w) (A:=ra) (n:=nr) (c:=rc) (d:=y0.1) (p:=y0.2) ⟨n,by simpa [Value.cells] using g0⟩
 obtain ⟨l1,k1,i1,_,b1⟩:=open_ints1 (w:=w) (A:=wa) (n:=nw) (c:=wc) (d:=y1.1) (p:=y1.2) ⟨n,by simpa [Value.cells] using g1⟩
 obtain ⟨l2,k2,i2,_,b2⟩:=open_ints1 (w:=w) (A:=aa) (n:=na) (c:=ac) (d:=y2.1) (p:=y2.2) ⟨n,by simpa [Value.cells] using g2⟩
 obtain ⟨l4,k4,i4,_,b4⟩:=open_inss (w:=w) (A:=ca) (n:=nc) (c:=cc) (d:=y4.1) (p:=y4.2) ⟨n,by simpa [Value.cells] using g4⟩
 exact ⟨⟨⟨l0,l1,l2,fu,l4⟩,ra,nr,rc,wa,nw,wc,aa,na,ac,ca,nc,cc⟩,rfl,k0.symm,k1.symm,k2.symm,k4.symm,i0,i1,i2,i4⟩
theorem open_cmds {A:Option Addr} {n c:Nat} {d:DataW H} {p:List MemPlace} (h:DataW.Trod enc Tryz.prog w base spare held 22 (.slice A n c) d p) :
  ∃ l:List CmL,n=l.length∧Cmds w A c l∧l.length≤9223372036854775807:=by
 obtain ⟨fuel,hf⟩:=h
 rcases open_slice Tryz.underlying22 hf with ⟨hcs,_⟩ | ⟨a,len,cap,m,nf,D,Pl,hcs,_,hl,hm,hmm,_,hi⟩
 ·simp [Value.cells] at hcs
  obtain ⟨rfl,rfl,rfl⟩:=hcs
  exact ⟨[],rfl,Cmds.nil w,by simp⟩
 ·simp [Value.cells] at hcs
  obtain ⟨rfl,rfl,rfl⟩:=hcs
  have hlm:n≤m:=by rw [hmm];split <;> omega
  have key:∀ i,i < n→∃ y:CmL,(∀ j,j < 5→w.cell? (a.add (i * 5 + j))=(cmlC y)[j]?)∧y.In w:=by
   intro i hil
   obtain ⟨cs',hcs,ht⟩:=hi i (by omega)
   obtain ⟨y,rfl,hy⟩:=open_cml ht
   rw [cCmd] at hcs
   obtain ⟨_,_,hat⟩:=World.cells?_some hcs
   refine ⟨y,fun j hj=>?_,hy⟩
   have h0:=hat j (by omega)
   rw [Go.Deep.add_add] at h0
   rw [h0,List.getElem?_eq_getElem (by rw [cmlC_length];exact hj)]
  obtain ⟨f,hf⟩:=choose_lt key
  unfold maxLen at hm
  refine ⟨(List.range n).map f,by simp,⟨?_,fun x hx=>?_⟩,by simp;omega⟩
  ·have:=sl_recs cmlC_length (by decide) f hl (fun i hi=>(hf i hi).1)
   rw [List.length_map,List.length_range]
   exact this
  ·obtain ⟨i,hi,rfl⟩:=List.mem_map.1 hx
   exact (hf i (by simpa using hi)).2
end
end
end Go.Proofs.YtpaocjpjlogkgaaGreat
