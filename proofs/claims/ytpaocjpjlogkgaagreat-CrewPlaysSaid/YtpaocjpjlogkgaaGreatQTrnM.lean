/-
  Words and contracts of this claim, 2 texts laid into one, each under its own remark. No conditions but those that stand at each.
-/
import Derived.Test.YtpaocjpjlogkgaaGreatQWords
import Derived.Test.YtpaocjpjlogkgaaGreatQAddr
import Derived.ProofKit
import Derived.Deep.Slices
import Derived.Deep.Strs
import Derived.OpenShut
namespace Go.Proofs.YtpaocjpjlogkgaaGreat
set_option maxRecDepth 100000
set_option maxHeartbeats 32000000
open Go
section
open Go.RowKit
structure Trn where
 pick:Bool
 worker:Int
 seq:Int
instance:Inhabited Trn:=⟨⟨false,0,0⟩⟩
def trC (x:Trn):List Value:=[.bool x.pick,.int .i64 x.worker,.int .i64 x.seq]
def trsW (l:List Trn):List Value:=l.flatMap trC
theorem trC_length (x:Trn):(trC x).length=3:=rfl
def Trns (w:World) (A:Option Addr) (c:Nat) (l:List Trn):Prop:=Sl w 3 A l.length c (trsW l)
theorem trn_at {l:List Trn} {i:Nat} (h:i < l.length):∃ x,l[i]? = some x:=⟨l[i],List.getElem?_eq_getElem h⟩
theorem Trns.at {w:World} {A:Option Addr} {c:Nat} {l:List Trn} (h:Trns w A c l) {i:Nat} {x:Trn} (hx:l[i]? = some x) :
  ∃ b off,A=some ⟨b,off,none⟩∧b < w.heap.size∧∀ W,Below w.heap.size w W→W.cell? ⟨b,off + i * 3,none⟩=some (.bool x.pick)∧W.cell? ⟨b,off + i * 3 + 1,none⟩=some (.int .i64 x.worker)∧W.cell? ⟨b,off + i * 3 + 2,none⟩=some (.int .i64 x.seq)∧b < W.heap.size:=by
 obtain ⟨b,off,rfl,hb,hc⟩:=Sl.recs h trC_length (by decide) hx
 refine ⟨b,off,rfl,hb,fun W hW=>?_⟩
 have key:∀ j,W.cell? ⟨b,j,none⟩=w.cell? ⟨b,j,none⟩:=fun j=>hW.cell (p:=⟨b,j,none⟩) hb
 exact ⟨(key _).trans (hc 0 (by decide)),(key _).trans (hc 1 (by decide)),(key _).trans (hc 2 (by decide)),Nat.lt_of_lt_of_le hb hW.size⟩
theorem Trns.cap {w:World} {A:Option Addr} {c:Nat} {l:List Trn} (h:Trns w A c l):l.length≤c:=h.2.1
end
section
open Go.RowKit Go.ChangeShapes Go.WideShapes Go.Deep
section
variable {H:Type} {enc:TypeId × Value→H} {w:World} {base:Nat} {spare:Nat→Bool} {held:Bool}
theorem three_ofT {α:Type}:∀ {l:List α},l.length=3→∃ a b c,l=[a,b,c]
 | [a,b,c],_=>⟨a,b,c,rfl⟩
theorem cIntT:Tryz.prog.cellsOf 3=1:=by kernel_rfl
theorem cBoolT:Tryz.prog.cellsOf 4=1:=by kernel_rfl
theorem cTrn:Tryz.prog.cellsOf 40=3:=by kernel_rfl
theorem open_trn {fuel:Nat} {cs:List Value} {x:DataW H × List MemPlace} (h:DataW.trod enc Tryz.prog w base spare held fuel 40 cs=some x):∃ y:Trn,cs=trC y:=by
 obtain ⟨y0,y1,y2,n,hx,hl,h0,h1,h2⟩:=trod_struct3 Tryz.underlying40 h
 rw [cTrn] at hl
 obtain ⟨c0,c1,c2,rfl⟩:=three_ofT hl
 have h0':DataW.trod enc Tryz.prog w base spare held n 4 (([c0,c1,c2].drop 0).take (Tryz.prog.cellsOf 4))=some y0:=h0
 have h1':DataW.trod enc Tryz.prog w base spare held n 3 (([c0,c1,c2].drop 1).take (Tryz.prog.cellsOf 3))=some y1:=h1
 have h2':DataW.trod enc Tryz.prog w base spare held n 3 (([c0,c1,c2].drop 2).take (Tryz.prog.cellsOf 3))=some y2:=h2
 rw [cIntT] at h1' h2'
 rw [cBoolT] at h0'
 simp only [List.drop_zero,List.drop_succ_cons,List.take_succ_cons,List.take_zero] at h0' h1' h2'
 obtain ⟨a,e0,_⟩:=DataW.trod_bool Tryz.underlying4 h0'
 obtain ⟨b,e1,_,w1⟩:=DataW.trod_int Tryz.underlying3 h1'
 obtain ⟨d,e2,_,w2⟩:=DataW.trod_int Tryz.underlying3 h2'
 injection e0 with e0 _
 injection e1 with e1 _
 injection e2 with e2 _
 subst e0
 subst e1
 subst e2
 exact ⟨⟨a,b,d⟩,rfl⟩
theorem open_trns {A:Option Addr} {n c:Nat} {d:DataW H} {p:List MemPlace} (h:DataW.Trod enc Tryz.prog w base spare held 23 (.slice A n c) d p) :
  ∃ l:List Trn,n=l.length∧Trns w A c l∧l.length≤9223372036854775807:=by
 obtain ⟨fuel,hf⟩:=h
 rcases open_slice Tryz.underlying23 hf with ⟨hcs,_⟩ | ⟨a,len,cap,m,nf,D,Pl,hcs,_,hl,hm,hmm,_,hi⟩
 ·simp [Value.cells] at hcs
  obtain ⟨rfl,rfl,rfl⟩:=hcs
  exact ⟨[],rfl,⟨rfl,Nat.le_refl _,fun _=>⟨rfl,rfl⟩,fun h=>absurd h (by simp)⟩,by simp⟩
 ·simp [Value.cells] at hcs
  obtain ⟨rfl,rfl,rfl⟩:=hcs
  have hlm:n≤m:=by rw [hmm];split <;> omega
  have key:∀ i,i < n→∃ y:Trn,∀ j,j < 3→w.cell? (a.add (i * 3 + j))=(trC y)[j]?:=by
   intro i hil
   obtain ⟨cs',hcs,ht⟩:=hi i (by omega)
   obtain ⟨y,rfl⟩:=open_trn ht
   rw [cTrn] at hcs
   obtain ⟨_,_,hat⟩:=World.cells?_some hcs
   refine ⟨y,fun j hj=>?_⟩
   have h0:=hat j (by omega)
   rw [Go.Deep.add_add] at h0
   rw [h0,List.getElem?_eq_getElem (by rw [trC_length];exact hj)]
  obtain ⟨f,hf⟩:=choose_lt key
  unfold maxLen at hm
  refine ⟨(List.range n).map f,by simp,?_,by simp;omega⟩
  have:=sl_recs trC_length (by decide) f hl hf
  unfold Trns
  rw [List.length_map,List.length_range]
  exact this
end
end
end Go.Proofs.YtpaocjpjlogkgaaGreat
