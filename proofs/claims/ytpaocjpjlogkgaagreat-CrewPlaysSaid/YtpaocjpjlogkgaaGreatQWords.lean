/-
  Words and contracts of this claim, 27 texts laid into one, each under its own remark. No conditions but those that stand at each.
-/
import Derived.Test.YtpaocjpjlogkgaaGreatRows
import Derived.WalkKit
import Derived.WalkSpells
import Derived.WalkLawsBesides
import Derived.WalkSmall
import Derived.Lib.Hide
import Derived.Deep.OwnRows
import Derived.Deep.AppendLies
import Derived.Deep.MidRow
import Derived.Test.YtpaocjpjlogkgaaGreatQQueP
import Derived.ChangeKeysEq
import Derived.Laws.StructEq
import Derived.Deep.DeepMust
import Derived.Laws.AppendOwnNone
import Derived.Lib.OthersKept
namespace Go.Proofs.YtpaocjpjlogkgaaGreat
set_option maxRecDepth 100000
set_option maxHeartbeats 32000000
open Go
open Go.Lib (hid)
section
open Go.RowKit
theorem bcells {W w1:World} (hb:Below W.heap.size W w1):∀ b o,b < W.heap.size→w1.cell? ⟨b,o,none⟩=W.cell? ⟨b,o,none⟩:=
 fun b o h=>hb.cell (p:=⟨b,o,none⟩) h
theorem bnext {a b c:World} (h:Below a.heap.size a b) (k:Below b.heap.size b c):Below a.heap.size a c:=h.trans (k.mono h.size)
def Bk (w:World) (g:Nat) (t:TypeId) (cs:Array Value):Prop:=w.heap[g]? = some (.cells cs t (0,0))
theorem Bk.lt {w:World} {g:Nat} {t:TypeId} {cs:Array Value} (h:Bk w g t cs):g < w.heap.size:=by
 rcases Nat.lt_or_ge g w.heap.size with hlt | hge
 ·exact hlt
 ·unfold Bk at h;rw [Array.getElem?_eq_none hge] at h;cases h
theorem Bk.new (w:World) (t:TypeId) (cs:Array Value):Bk (w.alloc (.cells cs t)) w.heap.size t cs:=heap_alloc_new w _
theorem Bk.below {w w':World} {g:Nat} {t:TypeId} {cs:Array Value} (h:Bk w g t cs) (hb:Below w.heap.size w w'):Bk w' g t cs:=(hb.block g h.lt).trans h
theorem Bk.alloc {w:World} {g:Nat} {t:TypeId} {cs:Array Value} (h:Bk w g t cs) (o:Obj):Bk (w.alloc o) g t cs:=h.below ((Below.refl _ _).alloc (Nat.le_refl _) _)
theorem Bk.far {w:World} {g:Nat} {t:TypeId} {cs:Array Value} (h:Bk w g t cs) {p:Addr} (hp:g≠p.block) (u:Value):Bk (w.setCell p u) g t cs:=(Below.heap_setCell w p u g hp).trans h
theorem Bk.set {w:World} {g:Nat} {t:TypeId} {cs:Array Value} (h:Bk w g t cs) (i:Nat) (u:Value):Bk (w.setCell ⟨g,i,none⟩ u) g t (cs.setIfInBounds i u):=by
 unfold Bk at h ⊢
 simp [World.setCell,Array.getElem?_modify,h]
theorem Bk.cell {w:World} {g:Nat} {t:TypeId} {cs:Array Value} (h:Bk w g t cs) (i:Nat):w.cell? ⟨g,i,none⟩=cs[i]?:=cell_of_row w g i cs t (0,0) h
theorem Bk.frozen {w:World} {g:Nat} {t:TypeId} {cs:Array Value} (h:Bk w g t cs) (i:Nat):w.frozen? ⟨g,i,none⟩=false:=by
 unfold Bk at h
 simp [World.frozen?,h]
def Sl (w:World) (size:Nat) (A:Option Addr) (n c:Nat) (xs:List Value):Prop:=
 xs.length=n * size∧n≤c∧(A=none→n=0∧c=0) ∧
  (0 < n→∃ b off,A=some ⟨b,off,none⟩∧b < w.heap.size∧∀ j,j < n * size→w.cell? ⟨b,off + j,none⟩=xs[j]?)
theorem Sl.keep {w w':World} {size n c:Nat} {A:Option Addr} {xs:List Value} (h:Sl w size A n c xs) (hs:w.heap.size≤w'.heap.size)
  (hk:∀ b o,b < w.heap.size→w'.cell? ⟨b,o,none⟩=w.cell? ⟨b,o,none⟩):Sl w' size A n c xs:=
 ⟨h.1,h.2.1,h.2.2.1,fun hn=>by
  obtain ⟨b,off,e,hb,hc⟩:=h.2.2.2 hn
  exact ⟨b,off,e,by omega,fun j hj=>(hk b _ hb).trans (hc j hj)⟩⟩
theorem Sl.below {w w':World} {size n c:Nat} {A:Option Addr} {xs:List Value} (h:Sl w size A n c xs) (hb:Below w.heap.size w w'):Sl w' size A n c xs:=
 h.keep hb.size (bcells hb)
theorem Sl.alloc {w:World} {size n c:Nat} {A:Option Addr} {xs:List Value} (h:Sl w size A n c xs) (o:Obj):Sl (w.alloc o) size A n c xs:=
 h.below ((Below.refl _ _).alloc (Nat.le_refl _) _)
theorem Sl.olds {w:World} {size n c:Nat} {A:Option Addr} {xs:List Value} (h:Sl w size A n c xs):∀ b,A=some b→∀ j u,xs[j]? = some u→w.cell? (b.add j)=some u:=by
 intro b hb j u hu
 have hj:j < xs.length:=by
  rcases Nat.lt_or_ge j xs.length with hlt | hge
  ·exact hlt
  ·rw [List.getElem?_eq_none hge] at hu;cases hu
 have hn:0 < n:=by
  rcases Nat.eq_zero_or_pos n with e | e
  ·rw [h.1,e] at hj;simp at hj
  ·exact e
 obtain ⟨b',off,e,_,hc⟩:=h.2.2.2 hn
 rw [hb] at e
 injection e with e
 subst e
 rw [Addr.add_lit,hc j (by rw [← h.1];exact hj),hu]
theorem bfresh {w w':World} (hg:w.grownBy w' none):Below w.heap.size w w':=(Below.refl _ _).grown hg (Nat.le_refl _) (by simp)
theorem Sl.own {w:World} {base:Nat} {e:TypeId} {size n:Nat} {v:Value} {xs:List Value} (h:w.ownsRow base e size v n xs) :
  ∃ A c,v=.slice A n c∧Sl w size A n c xs:=by
 obtain ⟨hl,hh⟩:=h
 rcases hh with ⟨rfl,rfl⟩ | ⟨g,cap,cur,rfl,hb,hg,hnc,hcm,hcs,htake⟩
 ·exact ⟨none,0,rfl,hl,Nat.le_refl _,fun _=>⟨rfl,rfl⟩,fun h=>absurd h (by omega)⟩
 ·refine ⟨_,_,rfl,hl,hnc,fun h=>by simp at h,fun _=>⟨g,0,rfl,?_,fun j hj=>?_⟩⟩
  ·rcases Nat.lt_or_ge g w.heap.size with hlt | hge
   ·exact hlt
   ·rw [Array.getElem?_eq_none hge] at hg;cases hg
  ·rw [cell_of_row w g (0 + j) cur e (0,0) hg,← htake,List.getElem?_take,if_pos hj]
   simp
theorem own_below {w w':World} {base:Nat} {e:TypeId} {size n:Nat} {v:Value} {xs:List Value} (h:w.ownsRow base e size v n xs) (hb:Below w.heap.size w w') :
  w'.ownsRow base e size v n xs:=by
 obtain ⟨hl,hh⟩:=h
 refine ⟨hl,?_⟩
 rcases hh with h0 | ⟨g,cap,cur,e1,hbg,hg,r⟩
 ·exact .inl h0
 ·refine .inr ⟨g,cap,cur,e1,hbg,?_,r⟩
  rw [hb.block g ?_]
  ·exact hg
  ·rcases Nat.lt_or_ge g w.heap.size with hlt | hge
   ·exact hlt
   ·rw [Array.getElem?_eq_none hge] at hg;cases hg
theorem Sl.own' {w:World} {base:Nat} {e:TypeId} {size n:Nat} {A:Option Addr} {c:Nat} {xs:List Value} (h:w.ownsRow base e size (.slice A n c) n xs):Sl w size A n c xs:=by
 obtain ⟨A',c',hv,hs⟩:=Sl.own h
 injection hv with h1 h2 h3
 subst h1
 subst h3
 exact hs
theorem own_heap {w w':World} {base:Nat} {e:TypeId} {size n:Nat} {v:Value} {xs:List Value} (h:w.ownsRow base e size v n xs) (hh:w'.heap=w.heap):w'.ownsRow base e size v n xs:=by
 unfold World.ownsRow at h ⊢
 rw [hh]
 exact h
theorem Bk.heap {w w':World} {g:Nat} {t:TypeId} {cs:Array Value} (h:Bk w g t cs) (hh:w'.heap=w.heap):Bk w' g t cs:=by
 unfold Bk at h ⊢
 rw [hh]
 exact h
def Ty (w:World) (e:TypeId) (A:Option Addr) (n:Nat):Prop:=0 < n→∃ b off,A=some ⟨b,off,none⟩∧∃ cur,w.heap[b]? = some (.cells cur e (0,0))
theorem Ty.below {w w':World} {e:TypeId} {A:Option Addr} {n:Nat} (h:Ty w e A n) (hb:Below w.heap.size w w'):Ty w' e A n:=fun hn=>by
 obtain ⟨b,off,hA,cur,hc⟩:=h hn
 exact ⟨b,off,hA,cur,(Bk.below (t:=e) (cs:=cur) hc hb)⟩
theorem Ty.own {w:World} {base:Nat} {e:TypeId} {size n:Nat} {A:Option Addr} {c:Nat} {xs:List Value} (h:w.ownsRow base e size (.slice A n c) n xs):Ty w e A n:=fun hn=>by
 rcases h.2 with ⟨h',h0⟩ | ⟨g,cap,cur,h',hb,hg,_⟩
 ·omega
 ·injection h' with h1
  exact ⟨g,0,h1,cur,hg⟩
theorem Ty.zero {w:World} {e:TypeId} {A:Option Addr}:Ty w e A 0:=fun h=>absurd h (by omega)
theorem Bk.ne {w:World} {g b:Nat} {t e:TypeId} {cs cur:Array Value} (h:Bk w g t cs) (h':w.heap[b]? = some (.cells cur e (0,0))) (hne:t≠e):b≠g:=by
 rintro rfl
 unfold Bk at h
 rw [h] at h'
 injection h' with h'
 injection h' with _ ht
 exact hne ht
theorem Sl.setCell {w:World} {size n c:Nat} {A:Option Addr} {xs:List Value} {e t:TypeId} {g:Nat} {cs:Array Value} (h:Sl w size A n c xs) (hT:Ty w e A n) (hg:Bk w g t cs) (hne:t≠e) (i:Nat) (u:Value) :
  Sl (w.setCell ⟨g,i,none⟩ u) size A n c xs∧Ty (w.setCell ⟨g,i,none⟩ u) e A n:=by
 refine ⟨⟨h.1,h.2.1,h.2.2.1,fun hn=>?_⟩,fun hn=>?_⟩
 ·obtain ⟨b,off,e1,hb,hc⟩:=h.2.2.2 hn
  obtain ⟨b',off',e2,cur,hcur⟩:=hT hn
  rw [e1] at e2
  simp only [Option.some.injEq,Addr.mk.injEq] at e2
  obtain ⟨rfl,rfl,_⟩:=e2
  have hbg:=hg.ne hcur hne
  refine ⟨b,off,e1,by simpa [World.setCell] using hb,fun j hj=>?_⟩
  rw [World.cell?_of_block (w:=w) (Below.heap_setCell w ⟨g,i,none⟩ u b hbg)]
  exact hc j hj
 ·obtain ⟨b',off',e2,cur,hcur⟩:=hT hn
  have hbg:=hg.ne hcur hne
  exact ⟨b',off',e2,cur,(Below.heap_setCell w ⟨g,i,none⟩ u b' hbg).trans hcur⟩
theorem below_drew1 (w:World):Below w.heap.size w w.drew:=(Below.refl _ _).drew
theorem Bk.three {w:World} {g:Nat} {t:TypeId} {a b c:Value} (h:Bk w g t #[a,b,c]):w.cell? ⟨g,0,none⟩=some a∧w.cell? ⟨g,1,none⟩=some b∧w.cell? ⟨g,2,none⟩=some c∧∀ o,w.frozen? ⟨g,o,none⟩=false:=
 ⟨h.cell 0,h.cell 1,h.cell 2,fun o=>h.frozen o⟩
end
section
open Go.RowKit
theorem Bk.grown {w w':World} {row:Option Nat} {g:Nat} {t:TypeId} {cs:Array Value} (h:Bk w g t cs) (hg:w.grownBy w' row) (hne:some g≠row):Bk w' g t cs:=
 (hg.block g h.lt hne).trans h
theorem own_ge {w:World} {base:Nat} {e:TypeId} {size n:Nat} {v:Value} {xs:List Value} (h:w.ownsRow base e size v n xs) {g:Nat} (he:v.ownBlock=some g):base≤g:=by
 rcases h.2 with ⟨rfl,_⟩ | ⟨g',cap,cur,rfl,hb,_⟩
 ·simp [Value.ownBlock] at he
 ·simp [Value.ownBlock] at he
  omega
theorem own_ne {w:World} {base:Nat} {e:TypeId} {size n:Nat} {v:Value} {xs:List Value} (h:w.ownsRow base e size v n xs) {g:Nat} (hg:g < base):v.ownBlock≠some g:=by
 intro he
 have:=own_ge h he
 omega
theorem own_lt {w:World} {base:Nat} {e:TypeId} {size n:Nat} {v:Value} {xs:List Value} (h:w.ownsRow base e size v n xs) {g:Nat} (he:v.ownBlock=some g):g < w.heap.size:=by
 rcases h.2 with ⟨rfl,_⟩ | ⟨g',cap,cur,rfl,hb,hg,_⟩
 ·simp [Value.ownBlock] at he
 ·simp [Value.ownBlock] at he
  subst he
  exact Bk.lt (t:=e) (cs:=cur) hg
theorem own_keep {w w':World} {base:Nat} {e:TypeId} {size n:Nat} {v:Value} {xs:List Value} (h:w.ownsRow base e size v n xs) (hk:∀ g,g < w.heap.size→v.ownBlock=some g→w'.heap[g]? = w.heap[g]?):w'.ownsRow base e size v n xs:=by
 have hlt:∀ g,v.ownBlock=some g→g < w.heap.size:=fun g hg=>own_lt h hg
 obtain ⟨hl,hh⟩:=h
 refine ⟨hl,?_⟩
 rcases hh with h0 | ⟨g,cap,cur,e1,hbg,hg,r⟩
 ·exact .inl h0
 ·refine .inr ⟨g,cap,cur,e1,hbg,?_,r⟩
  have hb:v.ownBlock=some g:=by rw [e1];rfl
  rw [hk g (hlt g hb) hb]
  exact hg
theorem append_row {P:Program} {ops:Array Oper} {rest:List Oper} {o:Oper} {a:Act} {w:World} {Q:Exit→Act→World→Prop} (hgd:o.guard=none) (s x:Operand) (t:TypeId)
  (ho:o.op=.call { callee:=.builtin .append,args:=#[s,x],argTypes:=#[t,t] })
  (base:Nat) (e:TypeId) (i:TypeInfo) (z:Value) (size bytes:Nat) (ht:P.underlying t=some (.slice e)) (hi:P.info? e=some i) (hz:i.zero=some z)
  (hsize:i.size=size) (hby:i.bytes=bytes) (hzs:z.cells.size=size) (hsz:0 < size)
  (v:Value) (n:Nat) (xs:List Value) (hs:a.eval s=v) (hown:w.ownsRow base e size v n xs)
  (b:Nat) (us:Array Value) (hx:a.eval x=.slice (some ⟨b,0,none⟩) 1 1) (hb:Bk w b e us) (hl:us.size=size) (h1:us.toList.all Value.oneCell'=true)
  (h63:n + 1≤maxLen) (hbytes:(n + 1) * bytes≤140737488355328) (hbase:base≤w.heap.size)
  (h:∀ g cap w',w'.ownsRow base e size (.slice (some ⟨g,0,none⟩) (n + 1) cap) (n + 1) (xs ++ us.toList)→w.grownBy w' v.ownBlock→wpList P ops Q rest (a.put o.dst (.slice (some ⟨g,0,none⟩) (n + 1) cap)) w'):wpList P ops Q (o :: rest) a w:=
 wpList_append_lies w hgd s x t ho base e i z size bytes ht hi hz hsize hby hzs hsz v n xs hs hown ⟨b,0,none⟩ 1 1 us.toList hx (by simpa using hl)
  (World.news_of_block hb) (fun u hu=>List.all_eq_true.1 h1 u hu) Nat.one_pos h63 hbytes hbase _ rfl (fun g cap w' h2 h3 _ _=>h g cap w' h2 h3)
end
section
open Go.RowKit
theorem append_rowH {P:Program} {ops:Array Oper} {rest:List Oper} {o:Oper} {a:Act} {w:World} {Q:Exit→Act→World→Prop} (hgd:o.guard=none) (s x:Operand) (t:TypeId)
  (ho:o.op=.call { callee:=.builtin .append,args:=#[s,x],argTypes:=#[t,t] })
  (base:Nat) (e:TypeId) (i:TypeInfo) (z:Value) (size bytes:Nat) (ht:P.underlying t=some (.slice e)) (hi:P.info? e=some i) (hz:i.zero=some z)
  (hsize:i.size=size) (hby:i.bytes=bytes) (hzs:z.cells.size=size) (hsz:0 < size)
  (v:Value) (n:Nat) (xs:List Value) (hs:a.eval s=v) (hown:w.ownsRow base e size v n xs)
  (b:Nat) (us:Array Value) (hx:a.eval x=.slice (some ⟨b,0,none⟩) 1 1) (hb:Bk w b e us) (hl:us.size=size) (h1:us.toList.all Value.oneCell'=true)
  (h63:n + 1≤maxLen) (hbytes:(n + 1) * bytes≤140737488355328) (hbase:base≤w.heap.size)
  (h:∀ g cap w',w'.ownsRow base e size (.slice (some ⟨g,0,none⟩) (n + 1) cap) (n + 1) (xs ++ us.toList)→w.grownBy w' v.ownBlock→(v.ownBlock=some g∨g=w.heap.size)→wpList P ops Q rest (a.put o.dst (.slice (some ⟨g,0,none⟩) (n + 1) cap)) w'):wpList P ops Q (o :: rest) a w:=
 wpList_append_lies w hgd s x t ho base e i z size bytes ht hi hz hsize hby hzs hsz v n xs hs hown ⟨b,0,none⟩ 1 1 us.toList hx (by simpa using hl)
  (World.news_of_block hb) (fun u hu=>List.all_eq_true.1 h1 u hu) Nat.one_pos h63 hbytes hbase _ rfl (fun g cap w' h2 h3 h4 _=>h g cap w' h2 h3 h4)
theorem new_ne {w W:World} {B:Nat} {e:TypeId} {size n:Nat} {v u:Value} {xs:List Value} (h:w.ownsRow B e size u n xs) (hs:w.heap.size≤W.heap.size) {g:Nat} (hg:v.ownBlock=some g∨g=W.heap.size) (hne:∀ k,v.ownBlock=some k→u.ownBlock≠some k):u.ownBlock≠some g:=by
 rcases hg with hg | hg
 ·exact hne g hg
 ·intro he
  have:=own_lt h he
  omega
def newTo (v:Value) (w:World):Prop:=∀ g,v.ownBlock=some g→w.heap.size≤g
def liesIn (v:Value) (w:World):Prop:=∀ g,v.ownBlock=some g→g < w.heap.size
def twain (x y:Value):Prop:=∀ g,x.ownBlock=some g→y.ownBlock≠some g
theorem twain.symm {x y:Value} (h:twain x y):twain y x:=fun g hy hx=>h g hx hy
theorem twain_new {x y:Value} {w:World} (hx:newTo x w) (hy:liesIn y w):twain x y:=fun g h1 h2=>by
 have:=hx g h1
 have:=hy g h2
 omega
theorem own_lies {w:World} {base:Nat} {e:TypeId} {size n:Nat} {v:Value} {xs:List Value} (h:w.ownsRow base e size v n xs):liesIn v w:=fun _ hg=>own_lt h hg
theorem own_pos {w:World} {base:Nat} {e:TypeId} {size n c:Nat} {A:Option Addr} {xs:List Value} (h:w.ownsRow base e size (.slice A n c) n xs) (hn:0 < n):∃ g cur,A=some ⟨g,0,none⟩∧base≤g∧Bk w g e cur∧n≤c∧c≤maxLen∧cur.size=c * size∧cur.toList.take (n * size)=xs:=by
 rcases h.2 with ⟨_,h0⟩ | ⟨g,cap,cur,hv,hb,hg,hnc,hcm,hcs,ht⟩
 ·omega
 ·injection hv with h1 _ h3
  subst h3
  exact ⟨g,cur,h1,hb,hg,hnc,hcm,hcs,ht⟩
theorem own_take {w:World} {base:Nat} {e:TypeId} {size n c:Nat} {A:Option Addr} {xs:List Value} (h:w.ownsRow base e size (.slice A n c) n xs) {k:Nat} (hk:k≤n):w.ownsRow base e size (.slice A k c) k (xs.take (k * size)):=by
 have hle:k * size≤n * size:=Nat.mul_le_mul_right _ hk
 refine ⟨by rw [List.length_take,h.1];omega,?_⟩
 rcases h.2 with ⟨h',h0⟩ | ⟨g,cap,cur,hv,hb,hg,hnc,hcm,hcs,ht⟩
 ·injection h' with h1 _ h3
  subst h1
  subst h3
  exact .inl ⟨by rw [show k=0 by omega],by omega⟩
 ·injection hv with h1 _ h3
  subst h1
  subst h3
  exact .inr ⟨g,_,cur,rfl,hb,hg,by omega,hcm,hcs,by rw [← ht,List.take_take,Nat.min_eq_left hle]⟩
theorem own_lower {w:World} {base base':Nat} {e:TypeId} {size n:Nat} {v:Value} {xs:List Value} (h:w.ownsRow base e size v n xs) (hb:base'≤base):w.ownsRow base' e size v n xs:=by
 refine ⟨h.1,?_⟩
 rcases h.2 with h0 | ⟨g,cap,cur,hv,hg,r⟩
 ·exact .inl h0
 ·exact .inr ⟨g,cap,cur,hv,Nat.le_trans hb hg,r⟩
theorem newTo_own {w w':World} {e:TypeId} {size n:Nat} {v:Value} {xs:List Value} (h:w'.ownsRow w.heap.size e size v n xs):newTo v w:=fun _ hg=>own_ge h hg
end
section
open Go.RowKit
def setL:List Value→Nat→List Value→List Value
 | xs,_,[]=>xs
 | xs,o,v :: r=>setL (xs.set o v) (o + 1) r
theorem setL_length:∀ (vs xs:List Value) (o:Nat),(setL xs o vs).length=xs.length
 | [],_,_=>rfl
 | v :: r,xs,o=>by rw [setL,setL_length r];simp
theorem setL_at:∀ (vs xs:List Value) (o i:Nat),i < xs.length→(setL xs o vs)[i]? = if o≤i∧i < o + vs.length then vs[i - o]? else xs[i]?
 | [],xs,o,i,h=>by simp [setL];omega
 | v :: r,xs,o,i,h=>by
  rw [setL,setL_at r _ (o + 1) i (by simpa using h)]
  by_cases h1:o + 1≤i∧i < o + 1 + r.length
  ·rw [if_pos h1,if_pos (by simp;omega),show i - o=i - (o + 1) + 1 by omega]
   simp
  ·rw [if_neg h1]
   by_cases h2:i=o
   ·subst h2
    rw [List.getElem?_set_self h,if_pos (by simp)]
    simp
   ·rw [List.getElem?_set_ne (Ne.symm h2),if_neg (by simp;omega)]
theorem own_setCells {B:Nat} {e:TypeId} {size n c g:Nat}:∀ (vs:List Value) (o:Nat) {w:World} {xs:List Value},w.ownsRow B e size (.slice (some ⟨g,0,none⟩) n c) n xs→(w.setCells g o vs).ownsRow B e size (.slice (some ⟨g,0,none⟩) n c) n (setL xs o vs)
 | [],_,_,_,h=>h
 | v :: r,o,_,_,h=>own_setCells r (o + 1) (h.stored o v).1
theorem heap_setCells {g:Nat}:∀ (vs:List Value) (o:Nat) (w:World) (k:Nat),k≠g→(w.setCells g o vs).heap[k]? = w.heap[k]?
 | [],_,_,_,_=>rfl
 | v :: r,o,w,k,h=>by rw [World.setCells,heap_setCells r (o + 1) _ k h,Below.heap_setCell w ⟨g,o,none⟩ v k h]
theorem size_setCells {g:Nat}:∀ (vs:List Value) (o:Nat) (w:World),(w.setCells g o vs).heap.size=w.heap.size
 | [],_,_=>rfl
 | v :: r,o,w=>by rw [World.setCells,size_setCells r (o + 1)];simp
theorem misc_setCells {g:Nat}:∀ (vs:List Value) (o:Nat) (w:World),(w.setCells g o vs).os=w.os∧(w.setCells g o vs).tape=w.tape∧(w.setCells g o vs).output=w.output
 | [],_,_=>⟨rfl,rfl,rfl⟩
 | v :: r,o,w=>by
  rw [World.setCells]
  exact misc_setCells r (o + 1) _
theorem below_setCells {B g:Nat} {a w:World} (h:Below B a w) (hg:B≤g) (vs:List Value) (o:Nat):Below B a (w.setCells g o vs):=
 h.trans ⟨(misc_setCells vs o w).1,(misc_setCells vs o w).2.1,(misc_setCells vs o w).2.2,by rw [size_setCells];exact Nat.le_refl _,fun k hk=>heap_setCells vs o w k (by omega)⟩
theorem Bk.there {w:World} {g:Nat} {t:TypeId} {cs:Array Value} (h:Bk w g t cs) {o n:Nat} (hn:o + n≤cs.size):w.there g o n:=fun j hj=>⟨by rw [h.cell,Array.getElem?_eq_getElem (by omega)];rfl,h.frozen _⟩
theorem Bk.setCells {w:World} {g h:Nat} {t:TypeId} {cs:Array Value} (hk:Bk w g t cs) (hne:g≠h) (o:Nat) (vs:List Value):Bk (w.setCells h o vs) g t cs:=(heap_setCells vs o w g hne).trans hk
end
section
open Go.RowKit
section
variable {α:Type} {f:α→List Value} {k:Nat}
theorem recs_length (hf:∀ x,(f x).length=k):∀ l:List α,(l.flatMap f).length=l.length * k
 | []=>by simp
 | x :: l=>by rw [List.flatMap_cons,List.length_append,recs_length hf l,hf,List.length_cons,Nat.add_mul];omega
theorem recs_at (hf:∀ x,(f x).length=k):∀ (l:List α) (i:Nat) (x:α),l[i]? = some x→∀ j,j < k→(l.flatMap f)[i * k + j]? = (f x)[j]?
 | [],i,x,h,_,_=>by simp at h
 | y :: l,0,x,h,j,hj=>by
  simp at h
  subst h
  rw [List.flatMap_cons,Nat.zero_mul,Nat.zero_add,List.getElem?_append_left (by rw [hf];exact hj)]
 | y :: l,i + 1,x,h,j,hj=>by
  have ih:=recs_at hf l i x (by simpa using h) j hj
  rw [List.flatMap_cons,List.getElem?_append_right (by rw [hf,Nat.add_mul];omega),hf,show (i + 1) * k + j - k=i * k + j by rw [Nat.add_mul];omega,ih]
theorem recs_take (hf:∀ x,(f x).length=k):∀ (l:List α) (n:Nat),(l.flatMap f).take (n * k)=(l.take n).flatMap f
 | [],n=>by simp
 | x :: l,0=>by simp
 | x :: l,n + 1=>by
  rw [List.flatMap_cons,List.take_succ_cons,List.flatMap_cons,← recs_take hf l n,show (n + 1) * k=(f x).length + n * k by rw [hf,Nat.add_mul];omega,List.take_length_add_append]
theorem recs_set (hf:∀ x,(f x).length=k) (l:List α) {i:Nat} (hi:i < l.length) (y:α):setL (l.flatMap f) (i * k) (f y)=(l.set i y).flatMap f:=by
 have hl:=recs_length hf l
 have hl':=recs_length hf (l.set i y)
 rw [List.length_set] at hl'
 apply List.ext_getElem?
 intro m
 by_cases hm:m < l.length * k
 ·have hk:0 < k:=by
   rcases Nat.eq_zero_or_pos k with h | h
   ·rw [h] at hm;omega
   ·exact h
  have hp:m / k < l.length:=Nat.div_lt_of_lt_mul (by rw [Nat.mul_comm];exact hm)
  have hq:m % k < k:=Nat.mod_lt _ hk
  have e:m=m / k * k + m % k:=by rw [Nat.mul_comm];exact (Nat.div_add_mod m k).symm
  rw [setL_at _ _ _ _ (by omega),hf]
  by_cases hij:m / k=i
  ·have e2:=recs_at hf (l.set i y) i y (by rw [List.getElem?_set_self hi]) (m % k) hq
   rw [hij] at e
   rw [if_pos (by omega),show m - i * k=m % k by omega,← e2,← e]
  ·have hx:l[m / k]? = some l[m / k]:=List.getElem?_eq_getElem hp
   have e1:=recs_at hf l (m / k) _ hx (m % k) hq
   have e2:=recs_at hf (l.set i y) (m / k) l[m / k] (by rw [List.getElem?_set_ne (Ne.symm hij)];exact hx) (m % k) hq
   rw [← e] at e1 e2
   rw [if_neg,e1,e2]
   rintro ⟨h1,h2⟩
   apply hij
   refine Nat.div_eq_of_lt_le h1 ?_
   rw [Nat.add_mul,Nat.one_mul]
   exact h2
 ·rw [List.getElem?_eq_none (by rw [setL_length];omega),List.getElem?_eq_none (by omega)]
theorem recs_set1 (hf:∀ x,(f x).length=k) (l:List α) {i:Nat} {x y:α} (hx:l[i]? = some x) {j:Nat} (hj:j < k) {u:Value} (hy:f y=(f x).set j u):(l.flatMap f).set (i * k + j) u=(l.set i y).flatMap f:=by
 have hi:i < l.length:=by
  rcases Nat.lt_or_ge i l.length with h | h
  ·exact h
  ·rw [List.getElem?_eq_none h] at hx;cases hx
 have hl:=recs_length hf l
 have hik:i * k + j < l.length * k:=by
  have h:=Nat.mul_le_mul_right k (show i + 1≤l.length from hi)
  rw [Nat.add_mul,Nat.one_mul] at h
  omega
 rw [← recs_set hf l hi y]
 apply List.ext_getElem?
 intro m
 by_cases hm:m < l.length * k
 ·rw [setL_at _ _ _ _ (by omega),hf]
  by_cases hin:i * k≤m∧m < i * k + k
  ·rw [if_pos hin,hy]
   have e1:=recs_at hf l i x hx (m - i * k) (by omega)
   rw [show i * k + (m - i * k)=m by omega] at e1
   by_cases hmj:m=i * k + j
   ·rw [hmj,List.getElem?_set_self (by omega),show i * k + j - i * k=j by omega,List.getElem?_set_self (by rw [hf];exact hj)]
   ·rw [List.getElem?_set_ne (by omega),e1,List.getElem?_set_ne (by omega)]
  ·rw [if_neg hin,List.getElem?_set_ne (by omega)]
 ·rw [List.getElem?_eq_none (by rw [List.length_set];omega),List.getElem?_eq_none (by rw [setL_length];omega)]
theorem recs_one (h1:∀ x,∀ u∈f x,u.oneCell'=true) (l:List α):∀ u∈l.flatMap f,u.oneCell'=true:=by
 intro u hu
 obtain ⟨x,_,hx⟩:=List.mem_flatMap.1 hu
 exact h1 x u hx
theorem Sl.recs {w:World} {A:Option Addr} {n c:Nat} {l:List α} (h:Sl w k A n c (l.flatMap f)) (hf:∀ x,(f x).length=k) (hk:0 < k) {i:Nat} {x:α} (hx:l[i]? = some x) :
  ∃ b off,A=some ⟨b,off,none⟩∧b < w.heap.size∧∀ j,j < k→w.cell? ⟨b,off + i * k + j,none⟩=(f x)[j]?:=by
 have hi:i < l.length:=by
  rcases Nat.lt_or_ge i l.length with h | h
  ·exact h
  ·rw [List.getElem?_eq_none h] at hx;cases hx
 have hl:=h.1
 rw [recs_length hf] at hl
 have hln:l.length=n:=Nat.eq_of_mul_eq_mul_right hk hl
 obtain ⟨b,off,rfl,hb,hc⟩:=h.2.2.2 (by omega)
 refine ⟨b,off,rfl,hb,fun j hj=>?_⟩
 have hik:i * k + j < n * k:=by
  have h:=Nat.mul_le_mul_right k (show i + 1≤n by omega)
  rw [Nat.add_mul,Nat.one_mul] at h
  omega
 rw [Nat.add_assoc,hc _ hik,recs_at hf l i x hx j hj]
end
end
section
open Go.RowKit
theorem below_alloc1 (w:World) (o:Obj):Below w.heap.size w (w.alloc o):=(Below.refl _ _).alloc (Nat.le_refl _) _
theorem drewN_below (w:World) (n:Nat):Below w.heap.size w (w.drewN n):=⟨rfl,rfl,rfl,Nat.le_refl _,fun _ _=>rfl⟩
end
section
open Go.RowKit
structure RsL where
 r:Rst
 A:Option Addr
 n:Nat
 c:Nat
def rslC (x:RsL):List Value:=[.int .i64 x.r.seq,.int .i64 x.r.told,.slice x.A x.n x.c]
abbrev rslA (x:RsL):Array Value:=#[.int .i64 x.r.seq,.int .i64 x.r.told,.slice x.A x.n x.c]
def rslsW (l:List RsL):List Value:=l.flatMap rslC
def RsL.In (x:RsL) (w:World):Prop:=Sl w 1 x.A x.n x.c (x.r.out.map (.int .i64))
theorem RsL.In.below {x:RsL} {w w':World} (h:x.In w) (hb:Below w.heap.size w w'):x.In w':=Sl.below h hb
theorem rslC_length (x:RsL):(rslC x).length=3:=rfl
theorem rslC_one (x:RsL):∀ u∈rslC x,u.oneCell'=true:=fun u hu=>by
 simp only [rslC,List.mem_cons,List.not_mem_nil,or_false] at hu
 rcases hu with rfl | rfl | rfl <;> rfl
theorem rslsW_append (l m:List RsL):rslsW (l ++ m)=rslsW l ++ rslsW m:=by simp [rslsW]
theorem rslsW_sing (x:RsL):rslsW [x]=rslC x:=by simp [rslsW]
theorem infoRslZ:∃ i,Tryz.prog.info? 51=some i∧i.zero=some (.agg #[.int .i64 0,.int .i64 0,.slice none 0 0])∧i.size=3∧i.bytes=40:=by
 have h:(Tryz.prog.info? 51).map (fun i=>(i.zero,i.size,i.bytes))=some (some (.agg #[.int .i64 0,.int .i64 0,.slice none 0 0]),3,40):=by kernel_rfl
 cases hi:Tryz.prog.info? 51 with
 | none=>rw [hi] at h;cases h
 | some i=>
  rw [hi] at h
  simp only [Option.map_some,Option.some.injEq,Prod.mk.injEq] at h
  exact ⟨i,rfl,h.1,h.2.1,h.2.2⟩
def Rsls (w:World) (A:Option Addr) (c:Nat) (l:List RsL):Prop:=Sl w 3 A l.length c (rslsW l)∧∀ x∈l,x.In w
theorem Rsls.below {w w':World} {A:Option Addr} {c:Nat} {l:List RsL} (h:Rsls w A c l) (hb:Below w.heap.size w w'):Rsls w' A c l:=⟨Sl.below h.1 hb,fun x hx=>(h.2 x hx).below hb⟩
theorem Rsls.nil (w:World):Rsls w none 0 []:=⟨⟨rfl,Nat.le_refl _,fun _=>⟨rfl,rfl⟩,fun h=>absurd h (by simp)⟩,by simp⟩
theorem Rsls.cap {w:World} {A:Option Addr} {c:Nat} {l:List RsL} (h:Rsls w A c l):l.length≤c:=h.1.2.1
theorem rsl_at {l:List RsL} {i:Nat} (h:i < l.length):∃ x,l[i]? = some x:=⟨l[i],List.getElem?_eq_getElem h⟩
def RsAt (w:World) (b o:Nat) (x:RsL):Prop:=∀ X,Below w.heap.size w X→X.cell? ⟨b,o,none⟩=some (.int .i64 x.r.seq)∧X.cell? ⟨b,o + 1,none⟩=some (.int .i64 x.r.told)∧X.cell? ⟨b,o + 2,none⟩=some (.slice x.A x.n x.c)∧X.rangeAt b o (rslC x)∧b < X.heap.size
theorem Rsls.at {w:World} {A:Option Addr} {c:Nat} {l:List RsL} (h:Rsls w A c l) {i:Nat} {x:RsL} (hx:l[i]? = some x) :
  ∃ b off,A=some ⟨b,off,none⟩∧b < w.heap.size∧w.cell? ⟨b,off + i * 3,none⟩=some (.int .i64 x.r.seq)∧w.cell? ⟨b,off + i * 3 + 1,none⟩=some (.int .i64 x.r.told)∧w.cell? ⟨b,off + i * 3 + 2,none⟩=some (.slice x.A x.n x.c)∧w.rangeAt b (off + i * 3) (rslC x)∧x.In w:=by
 obtain ⟨b,off,rfl,hb,hc⟩:=Sl.recs h.1 rslC_length (by decide) hx
 refine ⟨b,off,rfl,hb,hc 0 (by decide),hc 1 (by decide),hc 2 (by decide),fun j v hv=>?_,h.2 x (List.mem_of_getElem? hx)⟩
 have hj:j < 3:=by
  rcases Nat.lt_or_ge j 3 with q | q
  ·exact q
  ·rw [List.getElem?_eq_none (by rw [rslC_length];omega)] at hv;cases hv
 rw [hc j hj]
 exact hv
theorem Rsls.lies {w:World} {A:Option Addr} {c:Nat} {l:List RsL} (h:Rsls w A c l) {i:Nat} {x:RsL} (hx:l[i]? = some x):∃ b off,A=some ⟨b,off,none⟩∧RsAt w b (off + i * 3) x:=by
 obtain ⟨b,off,rfl,-⟩:=h.at hx
 refine ⟨b,off,rfl,fun X hX=>?_⟩
 obtain ⟨b',off',e,hb,h0,h1,h2,h3,-⟩:=(h.below hX).at hx
 injection e with e
 injection e with e1 e2
 subst e1
 subst e2
 exact ⟨h0,h1,h2,h3,hb⟩
structure RsIs (R:List Rst) (w:World) (A:Option Addr) (n c:Nat) (l:List RsL):Prop where
 sl:Rsls w A c l
 len:l.length=n
 says:l.map RsL.r=R
theorem RsIs.below {R:List Rst} {w w':World} {A:Option Addr} {n c:Nat} {l:List RsL} (h:RsIs R w A n c l) (hb:Below w.heap.size w w'):RsIs R w' A n c l:=⟨h.sl.below hb,h.len,h.says⟩
theorem RsIs.nil (w:World):RsIs [] w none 0 0 []:=⟨Rsls.nil w,rfl,rfl⟩
theorem RsIs.lenR {R:List Rst} {w:World} {A:Option Addr} {n c:Nat} {l:List RsL} (h:RsIs R w A n c l):R.length=n:=by rw [← h.says,List.length_map];exact h.len
theorem RsIs.at {R:List Rst} {w:World} {A:Option Addr} {n c:Nat} {l:List RsL} (h:RsIs R w A n c l) {i:Nat} {x:RsL} (hx:l[i]? = some x):R[i]? = some x.r:=by rw [← h.says,List.getElem?_map,hx];rfl
end
section
open Go.RowKit
def insW (x:Ins):List Value:=[.int .i64 x.op,.int .i64 x.a,.int .i64 x.b]
def inssW (l:List Ins):List Value:=l.flatMap insW
theorem inssW_at:∀ (l:List Ins) (j:Nat),j < l.length→(inssW l)[j * 3]? = some (.int .i64 (insAt l j).op)∧(inssW l)[j * 3 + 1]? = some (.int .i64 (insAt l j).a)∧(inssW l)[j * 3 + 2]? = some (.int .i64 (insAt l j).b)
 | [],j,h=>by simp at h
 | u :: l,0,_=>⟨rfl,rfl,rfl⟩
 | u :: l,j + 1,h=>by
  have ih:=inssW_at l j (by simpa using h)
  have e:∀ k,(inssW (u :: l))[(j + 1) * 3 + k]? = (inssW l)[j * 3 + k]?:=fun k=>by
   rw [show (j + 1) * 3 + k=(j * 3 + k) + 3 by omega]
   rfl
  exact ⟨(e 0).trans ih.1,(e 1).trans ih.2.1,(e 2).trans ih.2.2⟩
def Inss (w:World) (A:Option Addr) (c:Nat) (l:List Ins):Prop:=Sl w 3 A l.length c (inssW l)
theorem Inss.nil (w:World):Inss w none 0 []:=⟨rfl,Nat.le_refl _,fun _=>⟨rfl,rfl⟩,fun h=>absurd h (by simp)⟩
theorem Inss.below {w w':World} {A:Option Addr} {c:Nat} {l:List Ins} (h:Inss w A c l) (hb:Below w.heap.size w w'):Inss w' A c l:=Sl.below h hb
theorem Inss.cellAt {w:World} {A:Option Addr} {c:Nat} {l:List Ins} (h:Inss w A c l) {j:Nat} (hj:j < l.length) :
  ∃ b off,A=some ⟨b,off,none⟩∧b < w.heap.size∧w.cell? ⟨b,off + j * 3,none⟩=some (.int .i64 (insAt l j).op)∧w.cell? ⟨b,off + j * 3 + 1,none⟩=some (.int .i64 (insAt l j).a)∧w.cell? ⟨b,off + j * 3 + 2,none⟩=some (.int .i64 (insAt l j).b):=by
 obtain ⟨b,off,rfl,hb,hc⟩:=h.2.2.2 (by omega)
 obtain ⟨e0,e1,e2⟩:=inssW_at l j hj
 refine ⟨b,off,rfl,hb,?_,?_,?_⟩
 ·rw [hc (j * 3) (by omega),e0]
 ·rw [Nat.add_assoc,hc (j * 3 + 1) (by omega),e1]
 ·rw [Nat.add_assoc,hc (j * 3 + 2) (by omega),e2]
theorem infoIns:∃ i,Tryz.prog.info? 72=some i∧i.zero=some (.agg #[.int .i64 0,.int .i64 0,.int .i64 0])∧i.size=3∧i.bytes=24:=by
 have h:(Tryz.prog.info? 72).map (fun i=>(i.zero,i.size,i.bytes))=some (some (.agg #[.int .i64 0,.int .i64 0,.int .i64 0]),3,24):=by kernel_rfl
 cases hi:Tryz.prog.info? 72 with
 | none=>rw [hi] at h;cases h
 | some i=>
  rw [hi] at h
  simp only [Option.map_some,Option.some.injEq,Prod.mk.injEq] at h
  exact ⟨i,rfl,h.1,h.2.1,h.2.2⟩
abbrev IObj (x:Ins):Obj:=.cells #[.int .i64 x.op,.int .i64 x.a,.int .i64 x.b] 72
theorem inssW_length (l:List Ins):(inssW l).length=l.length * 3:=by
 induction l with
 | nil=>rfl
 | cons x l ih=>rw [inssW,List.flatMap_cons,List.length_append,List.length_cons];rw [inssW] at ih;rw [ih];simp [insW];omega
end
section
open Go.RowKit
def Ints (w:World) (A:Option Addr) (c:Nat) (l:List Int):Prop:=Sl w 1 A l.length c (l.map (.int .i64))
theorem Ints.cellAt {w:World} {A:Option Addr} {c:Nat} {l:List Int} (h:Ints w A c l) {j:Nat} (hj:j < l.length) :
  ∃ b off,A=some ⟨b,off,none⟩∧b < w.heap.size∧w.cell? ⟨b,off + j,none⟩=some (.int .i64 (l[j]?.getD 0)):=by
 obtain ⟨b,off,rfl,hb,hc⟩:=h.2.2.2 (by omega)
 refine ⟨b,off,rfl,hb,?_⟩
 rw [hc j (by omega)]
 simp [hj]
theorem Ints.below {w w':World} {A:Option Addr} {c:Nat} {l:List Int} (h:Ints w A c l) (hb:Below w.heap.size w w'):Ints w' A c l:=Sl.below h hb
theorem ints_new (l:List Int) (w:World):Ints (w.alloc (.cells (l.map (.int .i64)).toArray 3)) (some ⟨w.heap.size,0,none⟩) l.length l:=by
 have hk:=Bk.new w 3 (l.map (.int .i64)).toArray
 refine ⟨by simp,Nat.le_refl _,fun h=>(by cases h),fun _=>⟨_,_,rfl,hk.lt,fun j _=>?_⟩⟩
 rw [hk.cell]
 simp
end
section
open Go.RowKit
abbrev cmV (ra:Option Addr) (nr rc:Nat) (wa:Option Addr) (nw wc:Nat) (aa:Option Addr) (na ac:Nat) (fuel:Int) (ca:Option Addr) (nc cc:Nat):Value:=
 .agg #[.slice ra nr rc,.slice wa nw wc,.slice aa na ac,.int .i64 fuel,.slice ca nc cc]
theorem Bk.cmd {w:World} {g:Nat} {t:TypeId} {a b c d e:Value} (h:Bk w g t #[a,b,c,d,e]) :
  w.cell? ⟨g,0,none⟩=some a∧w.cell? ⟨g,1,none⟩=some b∧w.cell? ⟨g,2,none⟩=some c∧w.cell? ⟨g,3,none⟩=some d∧w.cell? ⟨g,4,none⟩=some e∧∀ o,w.frozen? ⟨g,o,none⟩=false:=
 ⟨h.cell 0,h.cell 1,h.cell 2,h.cell 3,h.cell 4,fun o=>h.frozen o⟩
theorem below_drewQ (B:Nat) (w:World) (n:Nat):Below B w (w.drewN n):=⟨rfl,rfl,rfl,Nat.le_refl _,fun _ _=>rfl⟩
structure CmIn (w:World) (c:Cmd) (ra:Option Addr) (nr rc:Nat) (wa:Option Addr) (nw wc:Nat) (aa:Option Addr) (na ac:Nat) (ca:Option Addr) (nc cc:Nat):Prop where
 lr:c.reads.length=nr
 lw:c.writes.length=nw
 la:c.args.length=na
 lc:c.code.length=nc
 reads:Ints w ra rc c.reads
 writes:Ints w wa wc c.writes
 args:Ints w aa ac c.args
 code:Inss w ca cc c.code
 br:nr≤1000
 bw:nw≤1000
 ba:na≤1000
 bc:nc≤1000
theorem CmIn.below {w w':World} {c:Cmd} {ra:Option Addr} {nr rc:Nat} {wa:Option Addr} {nw wc:Nat} {aa:Option Addr} {na ac:Nat} {ca:Option Addr} {nc cc:Nat} (h:CmIn w c ra nr rc wa nw wc aa na ac ca nc cc) (hb:Below w.heap.size w w'):CmIn w' c ra nr rc wa nw wc aa na ac ca nc cc:=
 ⟨h.lr,h.lw,h.la,h.lc,h.reads.below hb,h.writes.below hb,h.args.below hb,h.code.below hb,h.br,h.bw,h.ba,h.bc⟩
abbrev CmObj (ra:Option Addr) (nr rc:Nat) (wa:Option Addr) (nw wc:Nat) (aa:Option Addr) (na ac:Nat) (fuel:Int) (ca:Option Addr) (nc cc:Nat):Obj:=
 .cells #[.slice ra nr rc,.slice wa nw wc,.slice aa na ac,.int .i64 fuel,.slice ca nc cc] 56
structure CmRaw (w:World) (c:Cmd) (ra:Option Addr) (nr rc:Nat) (wa:Option Addr) (nw wc:Nat) (aa:Option Addr) (na ac:Nat) (ca:Option Addr) (nc cc:Nat):Prop where
 lr:c.reads.length=nr
 lw:c.writes.length=nw
 la:c.args.length=na
 lc:c.code.length=nc
 reads:Ints w ra rc c.reads
 writes:Ints w wa wc c.writes
 args:Ints w aa ac c.args
 code:Inss w ca cc c.code
end
section
open Go.RowKit
structure CmL where
 c:Cmd
 ra:Option Addr
 nr:Nat
 rc:Nat
 wa:Option Addr
 nw:Nat
 wc:Nat
 aa:Option Addr
 na:Nat
 ac:Nat
 ca:Option Addr
 nc:Nat
 cc:Nat
instance:Inhabited CmL:=⟨⟨⟨[],[],[],0,[]⟩,none,0,0,none,0,0,none,0,0,none,0,0⟩⟩
def cmlC (x:CmL):List Value:=[.slice x.ra x.nr x.rc,.slice x.wa x.nw x.wc,.slice x.aa x.na x.ac,.int .i64 x.c.fuel,.slice x.ca x.nc x.cc]
def cmlsW (l:List CmL):List Value:=l.flatMap cmlC
def CmL.In (x:CmL) (w:World):Prop:=CmRaw w x.c x.ra x.nr x.rc x.wa x.nw x.wc x.aa x.na x.ac x.ca x.nc x.cc
theorem CmL.In.below {x:CmL} {w w':World} (h:x.In w) (hb:Below w.heap.size w w'):x.In w':=
 ⟨h.lr,h.lw,h.la,h.lc,h.reads.below hb,h.writes.below hb,h.args.below hb,h.code.below hb⟩
theorem cmlC_length (x:CmL):(cmlC x).length=5:=rfl
theorem cmlsW_length (l:List CmL):(cmlsW l).length=l.length * 5:=recs_length cmlC_length l
def Cmds (w:World) (A:Option Addr) (c:Nat) (l:List CmL):Prop:=Sl w 5 A l.length c (cmlsW l)∧∀ x∈l,x.In w
theorem Cmds.below {w w':World} {A:Option Addr} {c:Nat} {l:List CmL} (h:Cmds w A c l) (hb:Below w.heap.size w w'):Cmds w' A c l:=⟨Sl.below h.1 hb,fun x hx=>(h.2 x hx).below hb⟩
theorem Cmds.nil (w:World):Cmds w none 0 []:=⟨⟨rfl,Nat.le_refl _,fun _=>⟨rfl,rfl⟩,fun h=>absurd h (by simp)⟩,by simp⟩
theorem Cmds.cap {w:World} {A:Option Addr} {c:Nat} {l:List CmL} (h:Cmds w A c l):l.length≤c:=h.1.2.1
theorem cml_at {l:List CmL} {i:Nat} (h:i < l.length):∃ x,l[i]? = some x:=⟨l[i],List.getElem?_eq_getElem h⟩
theorem Cmds.at {w:World} {A:Option Addr} {c:Nat} {l:List CmL} (h:Cmds w A c l) {i:Nat} {x:CmL} (hx:l[i]? = some x) :
  ∃ b off,A=some ⟨b,off,none⟩∧b < w.heap.size∧w.cell? ⟨b,off + i * 5,none⟩=some (.slice x.ra x.nr x.rc)∧w.cell? ⟨b,off + i * 5 + 1,none⟩=some (.slice x.wa x.nw x.wc)∧w.cell? ⟨b,off + i * 5 + 2,none⟩=some (.slice x.aa x.na x.ac)∧w.cell? ⟨b,off + i * 5 + 3,none⟩=some (.int .i64 x.c.fuel)∧w.cell? ⟨b,off + i * 5 + 4,none⟩=some (.slice x.ca x.nc x.cc)∧x.In w:=by
 obtain ⟨b,off,rfl,hb,hc⟩:=Sl.recs h.1 cmlC_length (by decide) hx
 exact ⟨b,off,rfl,hb,hc 0 (by decide),hc 1 (by decide),hc 2 (by decide),hc 3 (by decide),hc 4 (by decide),h.2 x (List.mem_of_getElem? hx)⟩
def CmAt (w:World) (b o:Nat) (x:CmL):Prop:=∀ X,Below w.heap.size w X→X.cell? ⟨b,o,none⟩=some (.slice x.ra x.nr x.rc)∧X.cell? ⟨b,o + 1,none⟩=some (.slice x.wa x.nw x.wc)∧X.cell? ⟨b,o + 2,none⟩=some (.slice x.aa x.na x.ac)∧X.cell? ⟨b,o + 3,none⟩=some (.int .i64 x.c.fuel)∧X.cell? ⟨b,o + 4,none⟩=some (.slice x.ca x.nc x.cc)∧b < X.heap.size
theorem Cmds.lies {w:World} {A:Option Addr} {c:Nat} {l:List CmL} (h:Cmds w A c l) {i:Nat} {x:CmL} (hx:l[i]? = some x):∃ b off,A=some ⟨b,off,none⟩∧CmAt w b (off + i * 5) x:=by
 obtain ⟨b,off,rfl,hb,-⟩:=h.at hx
 refine ⟨b,off,rfl,fun X hX=>?_⟩
 obtain ⟨b',off',e,hb',h0,h1,h2,h3,h4,-⟩:=(h.below hX).at hx
 injection e with e
 injection e with e1 e2
 subst e1
 subst e2
 exact ⟨h0,h1,h2,h3,h4,hb'⟩
end
section
open Go.RowKit
structure But (g:Nat) (w w':World):Prop where
 os:w'.os=w.os
 tape:w'.tape=w.tape
 output:w'.output=w.output
 size:w.heap.size≤w'.heap.size
 block:∀ k,k < w.heap.size→k≠g→w'.heap[k]? = w.heap[k]?
theorem But.refl (g:Nat) (w:World):But g w w:=⟨rfl,rfl,rfl,Nat.le_refl _,fun _ _ _=>rfl⟩
theorem But.trans {g:Nat} {a b c:World} (h:But g a b) (k:But g b c):But g a c:=
 ⟨k.os.trans h.os,k.tape.trans h.tape,k.output.trans h.output,Nat.le_trans h.size k.size,fun i hi hg=>(k.block i (Nat.lt_of_lt_of_le hi h.size) hg).trans (h.block i hi hg)⟩
theorem But.of_below {g:Nat} {w w':World} (h:Below w.heap.size w w'):But g w w':=⟨h.os,h.tape,h.output,h.size,fun k hk _=>h.block k hk⟩
theorem But.below {g B:Nat} {a w w':World} (h:But g w w') (hb:Below B a w) (hB:B≤g) (ha:B≤w.heap.size):Below B a w':=
 hb.trans ⟨h.os,h.tape,h.output,h.size,fun k hk=>h.block k (by omega) (by omega)⟩
theorem But.set {g:Nat} (w:World) (i:Nat) (u:Value):But g w (w.setCell ⟨g,i,none⟩ u):=
 ⟨rfl,rfl,rfl,by simp,fun k _ hk=>Below.heap_setCell w ⟨g,i,none⟩ u k hk⟩
theorem But.cell {g:Nat} {w w':World} (b:But g w w'):∀ k o,k < w.heap.size→k≠g→w'.cell? ⟨k,o,none⟩=w.cell? ⟨k,o,none⟩:=
 fun k _ h hne=>World.cell?_of_block (b.block k h hne)
end
section
open Go.RowKit
def bkC (b:List Int):Array Value:=(b.map (Value.int .i64)).toArray
theorem bkC_size (b:List Int):(bkC b).size=b.length:=by simp [bkC]
theorem bkC_all (b:List Int):(bkC b).all (·.oneCell')=true:=by simp [bkC,Value.oneCell']
theorem bkC_at {b:List Int} {i:Nat} (h:i < b.length):(bkC b)[i]? = some (.int .i64 (b[i]?.getD 0)):=by simp [bkC,h]
theorem bkC_set (b:List Int) (i:Nat) (n:Int):(bkC b).setIfInBounds i (.int .i64 n)=bkC (b.set i n):=by
 apply Array.ext_getElem?
 intro j
 simp [bkC,List.getElem?_set]
theorem bkC_noughts:bkC (List.replicate 8 0) = #[.int .i64 0,.int .i64 0,.int .i64 0,.int .i64 0,.int .i64 0,.int .i64 0,.int .i64 0,.int .i64 0]:=rfl
theorem cellsInt:Tryz.prog.cellsOf 3=1:=by kernel_rfl
theorem infoBlk8:(Tryz.prog.info? 74).map (·.size)=some 8:=by kernel_rfl
theorem infoBlk {b:List Int} (h:b.length=8):(Tryz.prog.info? 74).map (·.size)=some (bkC b).size:=by rw [bkC_size,h];exact infoBlk8
theorem load_blk {b:List Int} (h:b.length=8) {w:World} {g:Nat} {t:TypeId} (hk:Bk w g t (bkC b)):(loadVar 74 ⟨g,0,none⟩).run Tryz.prog w=.ok (.agg (bkC b)) w:=
 run_loadVar_row w g t 74 (bkC b) (0,0) _ hk Tryz.underlying74 rfl (infoBlk h)
theorem items_blk (w:World) (d:Nat) (a b:List Int):∀ is:List Nat,(∀ i∈is,i < a.length∧i < b.length) →
  (Op.eqItems (d + 1) 3 1 (bkC a) (bkC b) is).run Tryz.prog w=.ok (is.all fun i=>decide (a[i]?.getD 0=b[i]?.getD 0)) w
 | [],_=>by simp [Op.eqItems]
 | i :: is,h=>by
  have ih:=items_blk w d a b is (fun j hj=>h j (by simp [hj]))
  obtain ⟨h1,h2⟩:=h i (by simp)
  have p1:(part 3 (bkC a) (i * 1)).run Tryz.prog w=.ok (.int .i64 (a[i]?.getD 0)) w:=by
   simp [part,isAgg,run_underlying Tryz.underlying3,bkC_at h1]
  have p2:(part 3 (bkC b) (i * 1)).run Tryz.prog w=.ok (.int .i64 (b[i]?.getD 0)) w:=by
   simp [part,isAgg,run_underlying Tryz.underlying3,bkC_at h2]
  simp only [Op.eqItems,Sem.run_bind,p1,p2,Result.andThen_ok,run_equalIn_int w d 3 .i64 .i64 _ _ Tryz.underlying3,List.all_cons]
  by_cases e:a[i]?.getD 0=b[i]?.getD 0
  ·rw [beq_iff_eq.2 e,decide_eq_true e]
   simpa using ih
  ·rw [beq_eq_false_iff_ne.2 e,decide_eq_false e]
   simp
theorem eql_blk (w:World) {a b:List Int} (ha:a.length=8) (hb:b.length=8) :
  (binOp .eql 74 (.agg (bkC a)) (.agg (bkC b))).run Tryz.prog w=.ok (.bool (decide (a=b))) w:=by
 cases hi:Tryz.prog.info? 3 with
 | none=>
  have h:(Tryz.prog.info? 3).isSome=true:=by kernel_rfl
  rw [hi] at h
  cases h
 | some i=>
  rw [run_eql_struct,run_equalIn_array w 9999 (bkC a) (bkC b) Tryz.underlying74 hi,cellsInt,items_blk w 9998 a b _ (fun i hi=>by simp at hi;omega)]
  have:((List.range 8).all fun i=>decide (a[i]?.getD 0=b[i]?.getD 0))=decide (a=b):=by
   rw [Bool.eq_iff_iff]
   simp only [List.all_eq_true,List.mem_range,decide_eq_true_eq]
   constructor
   ·intro h
    apply List.ext_getElem?
    intro j
    by_cases hj:j < 8
    ·have:=h j hj
     rw [List.getElem?_eq_getElem (by omega),List.getElem?_eq_getElem (by omega)] at this ⊢
     simpa using this
    ·rw [List.getElem?_eq_none (by omega),List.getElem?_eq_none (by omega)]
   ·rintro rfl j _
    rfl
  rw [this]
  rfl
theorem Bk.setRow {w:World} {g:Nat} {t:TypeId} {cs:Array Value} (h:Bk w g t cs) (cs':Array Value):Bk (w.setRow g cs') g t cs':=setRow_heap w g cs cs' t (0,0) h
theorem Bk.farRow {w:World} {g h:Nat} {t:TypeId} {cs:Array Value} (hk:Bk w g t cs) (hne:g≠h) (cs':Array Value):Bk (w.setRow h cs') g t cs:=(setRow_other w h g cs' hne).trans hk
theorem below_row {B g:Nat} {a w:World} (hb:Below B a w) (h:B≤g) (cs:Array Value):Below B a (w.setRow g cs):=
 hb.trans ⟨rfl,rfl,rfl,by simp,fun k hk=>setRow_other w g k cs (by omega)⟩
end
section
open Go.RowKit
abbrev mC (pc fuel:Int) (S:Value) (r0 r1 r2 r3:Int) (O:Value) (ov:Bool) (e:Int):Array Value:=
 #[.int .i64 pc,.int .i64 fuel,S,.int .i64 r0,.int .i64 r1,.int .i64 r2,.int .i64 r3,O,.bool ov,.int .i64 e]
theorem infoMc:(Tryz.prog.info? 64).map (·.size)=some 10:=by kernel_rfl
section
variable {ops:Array Oper} {rest:List Oper} {o:Oper} {a:Act} {w:World} {Q:Exit→Act→World→Prop}
theorem ld_mach (g:Nat) {pc fuel:Int} {S:Value} {r0 r1 r2 r3:Int} {O:Value} {ov:Bool} {e0:Int} (hk:Bk w g 64 (mC pc fuel S r0 r1 r2 r3 O ov e0)) (x:Operand) (hgd:o.guard=none) (ho:o.op=.load 64 x) (hx:a.eval x=.pointer (some ⟨g,0,none⟩))
  (h:wpList Tryz.prog ops Q rest (a.put o.dst (.agg (mC pc fuel S r0 r1 r2 r3 O ov e0))) w):wpList Tryz.prog ops Q (o :: rest) a w:=
 wpList_load_row hgd _ x ho g hx _ _ (0,0) _ hk Tryz.underlying64 rfl infoMc h
theorem st_mach (g:Nat) {pc fuel:Int} {S:Value} {r0 r1 r2 r3:Int} {O:Value} {ov:Bool} {e0:Int} {pc' fuel':Int} {S':Value} {r0' r1' r2' r3':Int} {O':Value} {ov':Bool} {e0':Int} (hk:Bk w g 64 (mC pc' fuel' S' r0' r1' r2' r3' O' ov' e0'))
  (hS:S.oneCell'=true) (hO:O.oneCell'=true) (x y:Operand) (hgd:o.guard=none) (ho:o.op=.store 64 x y) (hx:a.eval x=.pointer (some ⟨g,0,none⟩)) (hy:a.eval y=.agg (mC pc fuel S r0 r1 r2 r3 O ov e0))
  (h:wpList Tryz.prog ops Q rest (a.put o.dst undef) (w.setRow g (mC pc fuel S r0 r1 r2 r3 O ov e0))):wpList Tryz.prog ops Q (o :: rest) a w:=
 wpList_store_row hgd _ x y ho g _ hx hy _ _ hk infoMc rfl (by simp [Value.oneCell'];exact ⟨hS,hO⟩) h
end
theorem res_mach {fn:Func} {p:Tmp} (hf:fn.results = #[.cell p 64]) (tmps:Array Value) (w:World) (g:Nat) {pc fuel:Int} {S:Value} {r0 r1 r2 r3:Int} {O:Value} {ov:Bool} {e0:Int}
  (hp:tmps.getD p undef=.pointer (some ⟨g,0,none⟩)) (hk:Bk w g 64 (mC pc fuel S r0 r1 r2 r3 O ov e0)):(results fn tmps).run Tryz.prog w=.ok (.agg (mC pc fuel S r0 r1 r2 r3 O ov e0)) w:=
 results_cell_row hf tmps w g _ _ (0,0) _ hp hk Tryz.underlying64 rfl infoMc
abbrev mZ:Array Value:=mC 0 0 (.slice none 0 0) 0 0 0 0 (.slice none 0 0) false 0
theorem Bk.drewN {w:World} {g:Nat} {t:TypeId} {cs:Array Value} (h:Bk w g t cs) (n:Nat):Bk (w.drewN n) g t cs:=h.below (drewN_below w n)
end
section
open Go.RowKit
def blksW (own:Blks):List Value:=own.flatMap fun b=>b.map (Value.int .i64)
theorem blksW_length:∀ (own:Blks),(∀ b∈own,b.length=8)→(blksW own).length=own.length * 8
 | [],_=>rfl
 | b :: l,h=>by
  have ih:=blksW_length l (fun x hx=>h x (by simp [hx]))
  have hb:=h b (by simp)
  unfold blksW at ih ⊢
  rw [List.flatMap_cons,List.length_append,List.length_map,ih,List.length_cons,hb]
  omega
theorem blksW_at:∀ (own:Blks),(∀ b∈own,b.length=8)→∀ i,i < own.length→∀ j,j < 8→(blksW own)[i * 8 + j]? = some (.int .i64 ((own[i]?.getD [])[j]?.getD 0))
 | [],_,i,hi,_,_=>by simp at hi
 | b :: l,h,0,_,j,hj=>by
  have hb:=h b (by simp)
  unfold blksW
  rw [List.flatMap_cons,List.getElem?_append_left (by simp;omega)]
  simp [show j < b.length by omega]
 | b :: l,h,i + 1,hi,j,hj=>by
  have hb:=h b (by simp)
  have ih:=blksW_at l (fun x hx=>h x (by simp [hx])) i (by simpa using hi) j hj
  unfold blksW at ih ⊢
  rw [List.flatMap_cons,List.getElem?_append_right (by simp;omega),List.length_map,show (i + 1) * 8 + j - b.length=i * 8 + j by omega,ih]
  simp
theorem blksW_one (own:Blks):∀ u∈blksW own,u.oneCell'=true:=by
 intro u hu
 obtain ⟨b,_,hb⟩:=List.mem_flatMap.1 hu
 obtain ⟨x,_,rfl⟩:=List.mem_map.1 hb
 rfl
def Blocks (w:World) (A:Option Addr) (c:Nat) (own:Blks):Prop:=Sl w 8 A own.length c (blksW own)
theorem Blocks.below {w w':World} {A:Option Addr} {c:Nat} {l:Blks} (h:Blocks w A c l) (hb:Below w.heap.size w w'):Blocks w' A c l:=Sl.below h hb
theorem Blocks.range {w:World} {A:Option Addr} {c:Nat} {own:Blks} (h:Blocks w A c own) (h8:∀ b∈own,b.length=8) {i:Nat} (hi:i < own.length) :
  ∃ b off,A=some ⟨b,off,none⟩∧b < w.heap.size∧w.rangeAt b (off + i * 8) ((own[i]?.getD []).map (.int .i64)):=by
 obtain ⟨b,off,rfl,hb,hc⟩:=h.2.2.2 (by omega)
 refine ⟨b,off,rfl,hb,fun j v hv=>?_⟩
 have hl:(own[i]?.getD []).length=8:=by
  rw [List.getElem?_eq_getElem hi]
  exact h8 _ (List.getElem_mem _)
 have hj:j < 8:=by
  rcases Nat.lt_or_ge j 8 with h1 | h1
  ·exact h1
  ·rw [List.getElem?_eq_none (by rw [List.length_map];omega)] at hv;cases hv
 rw [Nat.add_assoc,hc (i * 8 + j) (by omega),blksW_at own h8 i hi j hj]
 rw [List.getElem?_map,List.getElem?_eq_getElem (by omega)] at hv
 simp only [Option.map_some,Option.some.injEq] at hv
 rw [← hv,List.getElem?_eq_getElem (by omega)]
 simp
end
section
open Go.RowKit
structure MIn (w:World) (st ou:List Int) (own:Blks) (sA:Option Addr) (sn sc:Nat) (oA:Option Addr) (on oc:Nat) (bA:Option Addr) (bn bc:Nat):Prop where
 st:Sl w 1 sA sn sc (st.map (.int .i64))
 ou:Sl w 1 oA on oc (ou.map (.int .i64))
 bk:Sl w 8 bA bn bc (blksW own)
theorem MIn.below {w w':World} {st ou:List Int} {own:Blks} {sA:Option Addr} {sn sc:Nat} {oA:Option Addr} {on oc:Nat} {bA:Option Addr} {bn bc:Nat} (h:MIn w st ou own sA sn sc oA on oc bA bn bc) (hb:Below w.heap.size w w'):MIn w' st ou own sA sn sc oA on oc bA bn bc:=
 ⟨h.st.below hb,h.ou.below hb,h.bk.below hb⟩
def offA (G:Nat) (A:Option Addr) (n:Nat):Prop:=0 < n→∀ b off,A=some ⟨b,off,none⟩→b≠G
def off3 (G:Nat) (sA:Option Addr) (sn:Nat) (oA:Option Addr) (on:Nat) (bA:Option Addr) (bn:Nat):Prop:=offA G sA sn∧offA G oA on∧offA G bA bn
def rg (l:List Int) (i:Nat):Int:=l[i]?.getD 0
theorem four_of {l:List Int} (h:l.length=4):l=[rg l 0,rg l 1,rg l 2,rg l 3]:=by
 match l,h with
 | [a,b,c,d],_=>rfl
end
section
open Go.RowKit
structure TkL where
 s:Int
 x:CmL
 m:Mac
 sA:Option Addr
 sn:Nat
 sc:Nat
 oA:Option Addr
 on:Nat
 oc:Nat
 own:Blks
 bA:Option Addr
 bn:Nat
 bc:Nat
 wk:Int
def TkL.tsk (t:TkL):Tsk:=⟨t.s,t.x.c,t.m,t.own,t.wk⟩
def tkC (t:TkL):List Value:=[.int .i64 t.s,.slice t.x.ra t.x.nr t.x.rc,.slice t.x.wa t.x.nw t.x.wc,.slice t.x.aa t.x.na t.x.ac,.int .i64 t.x.c.fuel,.slice t.x.ca t.x.nc t.x.cc,
 .int .i64 t.m.pc,.int .i64 t.m.fuel,.slice t.sA t.sn t.sc,.int .i64 (rg t.m.regs 0),.int .i64 (rg t.m.regs 1),.int .i64 (rg t.m.regs 2),.int .i64 (rg t.m.regs 3),.slice t.oA t.on t.oc,.bool t.m.over,.int .i64 t.m.told,
 .slice t.bA t.bn t.bc,.int .i64 t.wk]
abbrev tkA (t:TkL):Array Value:=#[.int .i64 t.s,.slice t.x.ra t.x.nr t.x.rc,.slice t.x.wa t.x.nw t.x.wc,.slice t.x.aa t.x.na t.x.ac,.int .i64 t.x.c.fuel,.slice t.x.ca t.x.nc t.x.cc,
 .int .i64 t.m.pc,.int .i64 t.m.fuel,.slice t.sA t.sn t.sc,.int .i64 (rg t.m.regs 0),.int .i64 (rg t.m.regs 1),.int .i64 (rg t.m.regs 2),.int .i64 (rg t.m.regs 3),.slice t.oA t.on t.oc,.bool t.m.over,.int .i64 t.m.told,
 .slice t.bA t.bn t.bc,.int .i64 t.wk]
def tksW (l:List TkL):List Value:=l.flatMap tkC
structure TkL.In (t:TkL) (w:World):Prop where
 cmd:t.x.In w
 mac:MIn w t.m.stack t.m.out t.own t.sA t.sn t.sc t.oA t.on t.oc t.bA t.bn t.bc
 four:t.m.regs.length=4
 own:t.own.length=t.bn
 eight:∀ b∈t.own,b.length=8
theorem TkL.In.below {t:TkL} {w w':World} (h:t.In w) (hb:Below w.heap.size w w'):t.In w':=⟨h.cmd.below hb,h.mac.below hb,h.four,h.own,h.eight⟩
theorem tkC_length (t:TkL):(tkC t).length=18:=rfl
theorem tksW_length (l:List TkL):(tksW l).length=l.length * 18:=recs_length tkC_length l
theorem tkC_one (t:TkL):∀ u∈tkC t,u.oneCell'=true:=fun u hu=>by
 simp only [tkC,List.mem_cons,List.not_mem_nil,or_false] at hu
 rcases hu with rfl | rfl | rfl | rfl | rfl | rfl | rfl | rfl | rfl | rfl | rfl | rfl | rfl | rfl | rfl | rfl | rfl | rfl <;> rfl
theorem tksW_one (l:List TkL):∀ u∈tksW l,u.oneCell'=true:=recs_one tkC_one l
theorem tksW_append (l m:List TkL):tksW (l ++ m)=tksW l ++ tksW m:=by simp [tksW]
theorem tksW_sing (t:TkL):tksW [t]=tkC t:=by simp [tksW]
abbrev tkZ:Array Value:=#[.int .i64 0,.slice none 0 0,.slice none 0 0,.slice none 0 0,.int .i64 0,.slice none 0 0,.int .i64 0,.int .i64 0,.slice none 0 0,.int .i64 0,.int .i64 0,.int .i64 0,.int .i64 0,.slice none 0 0,.bool false,.int .i64 0,.slice none 0 0,.int .i64 0]
theorem infoTsk:∃ i,Tryz.prog.info? 67=some i∧i.zero=some (.agg tkZ)∧i.size=18∧i.bytes=256:=by
 have h:(Tryz.prog.info? 67).map (fun i=>(i.zero,i.size,i.bytes))=some (some (.agg tkZ),18,256):=by kernel_rfl
 cases hi:Tryz.prog.info? 67 with
 | none=>rw [hi] at h;cases h
 | some i=>
  rw [hi] at h
  simp only [Option.map_some,Option.some.injEq,Prod.mk.injEq] at h
  exact ⟨i,rfl,h.1,h.2.1,h.2.2⟩
theorem infoTk:(Tryz.prog.info? 67).map (·.size)=some 18:=by kernel_rfl
def Tks (w:World) (A:Option Addr) (c:Nat) (l:List TkL):Prop:=Sl w 18 A l.length c (tksW l)∧∀ t∈l,t.In w
theorem Tks.below {w w':World} {A:Option Addr} {c:Nat} {l:List TkL} (h:Tks w A c l) (hb:Below w.heap.size w w'):Tks w' A c l:=⟨Sl.below h.1 hb,fun t ht=>(h.2 t ht).below hb⟩
theorem Tks.nil (w:World):Tks w none 0 []:=⟨⟨rfl,Nat.le_refl _,fun _=>⟨rfl,rfl⟩,fun h=>absurd h (by simp)⟩,by simp⟩
theorem Tks.cap {w:World} {A:Option Addr} {c:Nat} {l:List TkL} (h:Tks w A c l):l.length≤c:=h.1.2.1
theorem tk_at {l:List TkL} {i:Nat} (h:i < l.length):∃ t,l[i]? = some t:=⟨l[i],List.getElem?_eq_getElem h⟩
theorem tk_lt {l:List TkL} {i:Nat} {t:TkL} (h:l[i]? = some t):i < l.length:=by
 rcases Nat.lt_or_ge i l.length with q | q
 ·exact q
 ·rw [List.getElem?_eq_none q] at h;cases h
structure TkCells (X:World) (b o:Nat) (t:TkL):Prop where
 s:X.cell? ⟨b,o,none⟩=some (.int .i64 t.s)
 ra:X.cell? ⟨b,o + 1,none⟩=some (.slice t.x.ra t.x.nr t.x.rc)
 wa:X.cell? ⟨b,o + 1 + 1,none⟩=some (.slice t.x.wa t.x.nw t.x.wc)
 aa:X.cell? ⟨b,o + 1 + 2,none⟩=some (.slice t.x.aa t.x.na t.x.ac)
 fu:X.cell? ⟨b,o + 1 + 3,none⟩=some (.int .i64 t.x.c.fuel)
 ca:X.cell? ⟨b,o + 1 + 4,none⟩=some (.slice t.x.ca t.x.nc t.x.cc)
 fuel:X.cell? ⟨b,o + 6 + 1,none⟩=some (.int .i64 t.m.fuel)
 own:X.cell? ⟨b,o + 16,none⟩=some (.slice t.bA t.bn t.bc)
 wk:X.cell? ⟨b,o + 17,none⟩=some (.int .i64 t.wk)
 all:X.rangeAt b o (tkC t)
 mac:X.rangeAt b (o + 6) (mC t.m.pc t.m.fuel (.slice t.sA t.sn t.sc) (rg t.m.regs 0) (rg t.m.regs 1) (rg t.m.regs 2) (rg t.m.regs 3) (.slice t.oA t.on t.oc) t.m.over t.m.told).toList
 lt:b < X.heap.size
def TkAt (w:World) (b o:Nat) (t:TkL):Prop:=∀ X,Below w.heap.size w X→TkCells X b o t
theorem Tks.at {w:World} {A:Option Addr} {c:Nat} {l:List TkL} (h:Tks w A c l) {i:Nat} {t:TkL} (ht:l[i]? = some t):∃ b off,A=some ⟨b,off,none⟩∧TkCells w b (off + i * 18) t∧t.In w:=by
 obtain ⟨b,off,rfl,hb,hc⟩:=Sl.recs h.1 tkC_length (by decide) ht
 refine ⟨b,off,rfl,⟨hc 0 (by decide),hc 1 (by decide),hc 2 (by decide),hc 3 (by decide),hc 4 (by decide),hc 5 (by decide),hc 7 (by decide),hc 16 (by decide),hc 17 (by decide),fun j v hv=>?_,fun j v hv=>?_,hb⟩,h.2 t (List.mem_of_getElem? ht)⟩
 ·have hj:j < 18:=by
   rcases Nat.lt_or_ge j 18 with q | q
   ·exact q
   ·rw [List.getElem?_eq_none (by rw [tkC_length];omega)] at hv;cases hv
  rw [hc j hj]
  exact hv
 ·have hj:j < 10:=by
   rcases Nat.lt_or_ge j 10 with q | q
   ·exact q
   ·rw [List.getElem?_eq_none (by exact q)] at hv;cases hv
  rw [Nat.add_assoc,hc (6 + j) (by omega),← hv]
  rcases (show j=0∨j=1∨j=2∨j=3∨j=4∨j=5∨j=6∨j=7∨j=8∨j=9 by omega) with e | e | e | e | e | e | e | e | e | e <;> subst e <;> rfl
theorem Tks.lies {w:World} {A:Option Addr} {c:Nat} {l:List TkL} (h:Tks w A c l) {i:Nat} {t:TkL} (ht:l[i]? = some t):∃ b off,A=some ⟨b,off,none⟩∧TkAt w b (off + i * 18) t:=by
 obtain ⟨b,off,rfl,-,-⟩:=h.at ht
 refine ⟨b,off,rfl,fun X hX=>?_⟩
 obtain ⟨b',off',e,hc,-⟩:=(h.below hX).at ht
 injection e with e
 injection e with e1 e2
 subst e1
 subst e2
 exact hc
def TkOwn (B:Nat) (w:World) (A:Option Addr) (n c:Nat) (l:List TkL):Prop:=l.length=n∧w.ownsRow B 67 18 (.slice A n c) n (tksW l)∧∀ t∈l,t.In w
theorem TkOwn.sl {B:Nat} {w:World} {A:Option Addr} {n c:Nat} {l:List TkL} (h:TkOwn B w A n c l):Tks w A c l:=by
 obtain ⟨rfl,h,hi⟩:=h
 exact ⟨Sl.own' h,hi⟩
theorem TkOwn.below {B:Nat} {w w':World} {A:Option Addr} {n c:Nat} {l:List TkL} (h:TkOwn B w A n c l) (hb:Below w.heap.size w w'):TkOwn B w' A n c l:=⟨h.1,own_below h.2.1 hb,fun t ht=>(h.2.2 t ht).below hb⟩
theorem TkOwn.lower {B B':Nat} {w:World} {A:Option Addr} {n c:Nat} {l:List TkL} (h:TkOwn B w A n c l) (hb:B'≤B):TkOwn B' w A n c l:=⟨h.1,own_lower h.2.1 hb,h.2.2⟩
theorem TkOwn.cap {B:Nat} {w:World} {A:Option Addr} {n c:Nat} {l:List TkL} (h:TkOwn B w A n c l):n≤c:=by
 have:=h.sl.cap
 rw [h.1] at this
 exact this
theorem TkOwn.pos {B:Nat} {w:World} {A:Option Addr} {n c:Nat} {l:List TkL} (h:TkOwn B w A n c l) (hn:0 < n):∃ g cs,A=some ⟨g,0,none⟩∧B≤g∧Bk w g 67 cs∧n * 18≤cs.size:=by
 have hcap:=h.cap
 rcases h.2.1.2 with ⟨h0,hn0⟩ | ⟨g,cap,cur,hv,hb,hg,hnc,hcm,hcs,ht⟩
 ·omega
 ·injection hv with h1 h2 h3
  refine ⟨g,cur,h1,hb,hg,?_⟩
  rw [hcs]
  exact Nat.mul_le_mul_right 18 hnc
theorem TkOwn.set {B:Nat} {w:World} {g n c:Nat} {l:List TkL} (h:TkOwn B w (some ⟨g,0,none⟩) n c l) {i:Nat} (hi:i < n) {t:TkL} (ht:∀ u∈l.set i t,u.In (w.setCells g (i * 18) (tkC t))):TkOwn B (w.setCells g (i * 18) (tkC t)) (some ⟨g,0,none⟩) n c (l.set i t):=by
 refine ⟨by rw [List.length_set];exact h.1,?_,ht⟩
 have:=own_setCells (tkC t) (i * 18) h.2.1
 rwa [show setL (tksW l) (i * 18) (tkC t)=tksW (l.set i t) from recs_set tkC_length l (by rw [h.1];exact hi) t] at this
def TkPost (l:List TkL) (w:World) (e:Ending) (w':World):Prop:=∃ A n c,e=.returned (.slice A n c)∧TkOwn w.heap.size w' A n c l∧Below w.heap.size w w'
end
section
open Go.RowKit
def overA (B:Nat) (A:Option Addr) (n:Nat):Prop:=0 < n→∀ b off,A=some ⟨b,off,none⟩→B≤b
theorem overA.lower {B B' n:Nat} {A:Option Addr} (h:overA B A n) (hB:B'≤B):overA B' A n:=fun hn b off e=>Nat.le_trans hB (h hn b off e)
theorem overA.off {B G n:Nat} {A:Option Addr} (h:overA B A n) (hG:G < B):offA G A n:=fun hn b off e=>by have:=h hn b off e;omega
theorem overA.nil (B:Nat) (A:Option Addr):overA B A 0:=fun h=>absurd h (Nat.lt_irrefl 0)
theorem own_over {w:World} {B n c:Nat} {e:TypeId} {size:Nat} {A:Option Addr} {xs:List Value} (h:w.ownsRow B e size (.slice A n c) n xs):overA B A n:=fun _ b off he=>own_ge h (by rw [he];rfl)
theorem Sl.off_ge {w:World} {size n c G:Nat} {A:Option Addr} {xs:List Value} (h:Sl w size A n c xs) (hG:w.heap.size≤G):offA G A n:=fun hn b off e=>by
 obtain ⟨b',off',e',hb,-⟩:=h.2.2.2 hn
 rw [e] at e'
 injection e' with e'
 injection e' with e1
 omega
theorem Sl.offKeep {w w':World} {size n c G:Nat} {A:Option Addr} {xs:List Value} (h:Sl w size A n c xs) (ho:offA G A n) (hs:w.heap.size≤w'.heap.size) (hk:∀ k,k≠G→k < w.heap.size→w'.heap[k]? = w.heap[k]?):Sl w' size A n c xs:=by
 refine ⟨h.1,h.2.1,h.2.2.1,fun hn=>?_⟩
 obtain ⟨b,off,e,hb,hc⟩:=h.2.2.2 hn
 refine ⟨b,off,e,by omega,fun j hj=>?_⟩
 rw [← hc j hj]
 unfold World.cell?
 simp only
 rw [hk b (ho hn b off e) hb]
structure CmL.Over (B:Nat) (x:CmL):Prop where
 r:overA B x.ra x.nr
 w:overA B x.wa x.nw
 a:overA B x.aa x.na
 c:overA B x.ca x.nc
structure CmL.Off (G:Nat) (x:CmL):Prop where
 r:offA G x.ra x.nr
 w:offA G x.wa x.nw
 a:offA G x.aa x.na
 c:offA G x.ca x.nc
theorem CmL.Over.lower {B B':Nat} {x:CmL} (h:x.Over B) (hB:B'≤B):x.Over B':=⟨h.r.lower hB,h.w.lower hB,h.a.lower hB,h.c.lower hB⟩
theorem CmL.Over.off {B G:Nat} {x:CmL} (h:x.Over B) (hG:G < B):x.Off G:=⟨h.r.off hG,h.w.off hG,h.a.off hG,h.c.off hG⟩
theorem CmL.In.off_ge {x:CmL} {w:World} (h:x.In w) {G:Nat} (hG:w.heap.size≤G):x.Off G:=by
 have h1:=h.reads
 have h2:=h.writes
 have h3:=h.args
 have h4:=h.code
 unfold Ints at h1 h2 h3
 unfold Inss at h4
 rw [h.lr] at h1
 rw [h.lw] at h2
 rw [h.la] at h3
 rw [h.lc] at h4
 exact ⟨h1.off_ge hG,h2.off_ge hG,h3.off_ge hG,h4.off_ge hG⟩
theorem CmL.In.keep {x:CmL} {w w':World} {G:Nat} (h:x.In w) (ho:x.Off G) (hs:w.heap.size≤w'.heap.size) (hk:∀ k,k≠G→k < w.heap.size→w'.heap[k]? = w.heap[k]?):x.In w':=by
 have h1:=h.reads
 have h2:=h.writes
 have h3:=h.args
 have h4:=h.code
 unfold Ints at h1 h2 h3
 unfold Inss at h4
 rw [h.lr] at h1
 rw [h.lw] at h2
 rw [h.la] at h3
 rw [h.lc] at h4
 refine ⟨h.lr,h.lw,h.la,h.lc,?_,?_,?_,?_⟩
 ·unfold Ints;rw [h.lr];exact h1.offKeep ho.r hs hk
 ·unfold Ints;rw [h.lw];exact h2.offKeep ho.w hs hk
 ·unfold Ints;rw [h.la];exact h3.offKeep ho.a hs hk
 ·unfold Inss;rw [h.lc];exact h4.offKeep ho.c hs hk
structure TkL.Over (B:Nat) (t:TkL):Prop where
 x:t.x.Over B
 s:overA B t.sA t.sn
 o:overA B t.oA t.on
 b:overA B t.bA t.bn
structure TkL.Off (G:Nat) (t:TkL):Prop where
 x:t.x.Off G
 m:off3 G t.sA t.sn t.oA t.on t.bA t.bn
theorem TkL.Over.lower {B B':Nat} {t:TkL} (h:t.Over B) (hB:B'≤B):t.Over B':=⟨h.x.lower hB,h.s.lower hB,h.o.lower hB,h.b.lower hB⟩
theorem TkL.Over.off {B G:Nat} {t:TkL} (h:t.Over B) (hG:G < B):t.Off G:=⟨h.x.off hG,h.s.off hG,h.o.off hG,h.b.off hG⟩
theorem TkL.In.off_ge {t:TkL} {w:World} (h:t.In w) {G:Nat} (hG:w.heap.size≤G):t.Off G:=⟨h.cmd.off_ge hG,h.mac.st.off_ge hG,h.mac.ou.off_ge hG,h.mac.bk.off_ge hG⟩
theorem TkL.In.keep {t:TkL} {w w':World} {G:Nat} (h:t.In w) (ho:t.Off G) (hs:w.heap.size≤w'.heap.size) (hk:∀ k,k≠G→k < w.heap.size→w'.heap[k]? = w.heap[k]?):t.In w':=
 ⟨h.cmd.keep ho.x hs hk,⟨h.mac.st.offKeep ho.m.1 hs hk,h.mac.ou.offKeep ho.m.2.1 hs hk,h.mac.bk.offKeep ho.m.2.2 hs hk⟩,h.four,h.own,h.eight⟩
theorem TkL.In.setCells {t:TkL} {w:World} {G:Nat} (h:t.In w) (ho:t.Off G) (o:Nat) (vs:List Value):t.In (w.setCells G o vs):=
 h.keep ho (by rw [size_setCells];exact Nat.le_refl _) fun k hk _=>heap_setCells vs o w k hk
theorem TkL.In.setCell {t:TkL} {w:World} {G:Nat} (h:t.In w) (ho:t.Off G) (o:Nat) (v:Value):t.In (w.setCell ⟨G,o,none⟩ v):=h.setCells ho o [v]
structure fewT (t:TkL):Prop where
 r:t.x.nr≤1000
 w:t.x.nw≤1000
 a:t.x.na≤1000
 c:t.x.nc≤1000
 s:t.sn≤1000
 o:t.on≤1000
 b:t.bn≤1000
theorem TkL.In.lens {t:TkL} {w:World} (h:t.In w):t.x.nr=t.tsk.cmd.reads.length∧t.x.nw=t.tsk.cmd.writes.length∧t.x.na=t.tsk.cmd.args.length∧t.x.nc=t.tsk.cmd.code.length∧t.sn=t.tsk.m.stack.length∧t.on=t.tsk.m.out.length∧t.bn=t.tsk.own.length:=by
 have a:=h.mac.st.1
 have b:=h.mac.ou.1
 simp only [List.length_map] at a b
 exact ⟨h.cmd.lr.symm,h.cmd.lw.symm,h.cmd.la.symm,h.cmd.lc.symm,by show t.sn=t.m.stack.length;omega,by show t.on=t.m.out.length;omega,h.own.symm⟩
theorem fewT.of {t u:TkL} {w w':World} (h:fewT t) (ht:t.In w) (hu:u.In w') (e:u.tsk=t.tsk):fewT u:=by
 obtain ⟨a1,a2,a3,a4,a5,a6,a7⟩:=ht.lens
 obtain ⟨b1,b2,b3,b4,b5,b6,b7⟩:=hu.lens
 rw [e] at b1 b2 b3 b4 b5 b6 b7
 exact ⟨by rw [b1,← a1];exact h.r,by rw [b2,← a2];exact h.w,by rw [b3,← a3];exact h.a,by rw [b4,← a4];exact h.c,by rw [b5,← a5];exact h.s,by rw [b6,← a6];exact h.o,by rw [b7,← a7];exact h.b⟩
def TkOff (A:Option Addr) (l:List TkL):Prop:=∀ g off,A=some ⟨g,off,none⟩→∀ t∈l,t.Off g
def saysT (l:List TkL) (L:List Tsk):Prop:=l.map TkL.tsk=L
theorem saysT.len {l:List TkL} {L:List Tsk} (h:saysT l L):l.length=L.length:=by rw [← h,List.length_map]
theorem saysT.at {l:List TkL} {L:List Tsk} (h:saysT l L) {i:Nat} {t:TkL} (ht:l[i]? = some t):L[i]? = some t.tsk:=by rw [← h,List.getElem?_map,ht];rfl
structure TkNew (L:List Tsk) (B:Nat) (w:World) (A:Option Addr) (n c:Nat) (l:List TkL):Prop where
 own:TkOwn B w A n c l
 says:saysT l L
 few:∀ t∈l,fewT t
 over:∀ t∈l,t.Over B
 off:TkOff A l
theorem TkNew.below {L:List Tsk} {B:Nat} {w w':World} {A:Option Addr} {n c:Nat} {l:List TkL} (h:TkNew L B w A n c l) (hb:Below w.heap.size w w'):TkNew L B w' A n c l:=⟨h.own.below hb,h.says,h.few,h.over,h.off⟩
theorem TkNew.lower {L:List Tsk} {B B':Nat} {w:World} {A:Option Addr} {n c:Nat} {l:List TkL} (h:TkNew L B w A n c l) (hb:B'≤B):TkNew L B' w A n c l:=⟨h.own.lower hb,h.says,h.few,fun t ht=>(h.over t ht).lower hb,h.off⟩
theorem TkNew.len {L:List Tsk} {B:Nat} {w:World} {A:Option Addr} {n c:Nat} {l:List TkL} (h:TkNew L B w A n c l):L.length=n:=by rw [← h.says.len];exact h.own.1
theorem TkNew.sl {L:List Tsk} {B:Nat} {w:World} {A:Option Addr} {n c:Nat} {l:List TkL} (h:TkNew L B w A n c l):Tks w A c l:=h.own.sl
def TpPost (L:List Tsk) (w:World) (e:Ending) (w':World):Prop:=∃ A n c l,e=.returned (.slice A n c)∧TkNew L w.heap.size w' A n c l∧Below w.heap.size w w'
end
section
open Go.RowKit
theorem append_sl {P:Program} {w:World} {ops:Array Oper} {rest:List Oper} {o:Oper} {a:Act} {Q:Exit→Act→World→Prop} (hgd:o.guard=none) (s x:Operand) (t:TypeId)
  (ho:o.op=.call { callee:=.builtin .append,args:=#[s,x],argTypes:=#[t,t] })
  (base:Nat) (e:TypeId) (i:TypeInfo) (z:Value) (size bytes:Nat) (ht:P.underlying t=some (.slice e)) (hi:P.info? e=some i) (hz:i.zero=some z)
  (hsize:i.size=size) (hby:i.bytes=bytes) (hzs:z.cells.size=size) (hsz:0 < size)
  (v:Value) (n:Nat) (xs:List Value) (hs:a.eval s=v) (hown:w.ownsRow base e size v n xs)
  (A:Option Addr) (m c:Nat) (news:List Value) (hx:a.eval x=.slice A m c) (hr:Sl w size A m c news) (h1:∀ u∈news,u.oneCell'=true)
  (h63:n + m≤maxLen) (hbytes:(n + m) * bytes≤140737488355328) (hbase:base≤w.heap.size)
  (h:∀ v' w',w'.ownsRow base e size v' (n + m) (xs ++ news)→w.grownBy w' v.ownBlock→wpList P ops Q rest (a.put o.dst v') w'):wpList P ops Q (o :: rest) a w:=by
 cases A with
 | none=>
  obtain ⟨rfl,rfl⟩:=hr.2.2.1 rfl
  obtain rfl:news=[]:=List.eq_nil_of_length_eq_zero (by simpa using hr.1)
  exact wpList_append_own_none hgd s x t ho base e i size ht hi v n xs hs hown hx (h v w (by simpa using hown) (World.grownBy.refl w _))
 | some ad=>
  exact wpList_append_own w hgd s x t ho base e i z size bytes ht hi hz hsize hby hzs hsz v n xs hs hown ad m c news hx hr.1 (hr.olds ad rfl) h1 h63 hbytes hbase (fun v' w' h2 h3 _=>h v' w' h2 h3)
end
section
open Go.RowKit
theorem Sl.int {w:World} {A:Option Addr} {n c:Nat} {l:List Int} (h:Sl w 1 A n c (l.map (.int .i64))) {j:Nat} (hj:j < n):∃ b off,A=some ⟨b,off,none⟩∧b < w.heap.size∧w.cell? ⟨b,off + j,none⟩=some (.int .i64 (l[j]?.getD 0)):=by
 obtain ⟨b,off,rfl,hb,hc⟩:=h.2.2.2 (by omega)
 have hl:=h.1
 simp at hl
 refine ⟨b,off,rfl,hb,?_⟩
 rw [hc j (by omega)]
 simp [show j < l.length by omega]
end
section
open Go.RowKit
theorem own_grown {w w':World} {B:Nat} {e:TypeId} {size n:Nat} {v:Value} {xs:List Value} (h:w.ownsRow B e size v n xs) {row:Option Nat} (hg:w.grownBy w' row) (hne:∀ k,v.ownBlock=some k→row≠some k):w'.ownsRow B e size v n xs:=
 own_keep h fun k hk he=>hg.block k hk (Ne.symm (hne k he))
theorem own_apart {w:World} {B C:Nat} {e f:TypeId} {s1 s2 n m:Nat} {v u:Value} {xs ys:List Value} (h:w.ownsRow B e s1 v n xs) (k:w.ownsRow C f s2 u m ys) (hne:e≠f):∀ b,v.ownBlock=some b→u.ownBlock≠some b:=by
 intro b hb hu
 rcases h.2 with ⟨rfl,_⟩ | ⟨g,cap,cur,rfl,_,hg,_⟩
 ·simp [Value.ownBlock] at hb
 ·rcases k.2 with ⟨rfl,_⟩ | ⟨g',cap',cur',rfl,_,hg',_⟩
  ·simp [Value.ownBlock] at hu
  ·simp [Value.ownBlock] at hb hu
   subst hb
   subst hu
   rw [hg] at hg'
   injection hg' with hg'
   injection hg' with _ ht
   exact hne ht
end
section
open Go.RowKit
instance:Inhabited Wnt:=⟨⟨0,false,false⟩⟩
def wnC (x:Wnt):List Value:=[.int .i64 x.seq,.bool x.excl,.bool x.has]
def wntsW (l:List Wnt):List Value:=l.flatMap wnC
abbrev wnV (s:Int) (e h:Bool):Array Value:=#[.int .i64 s,.bool e,.bool h]
theorem wnC_length (x:Wnt):(wnC x).length=3:=rfl
theorem wntsW_length (l:List Wnt):(wntsW l).length=l.length * 3:=recs_length wnC_length l
theorem wntsW_one (l:List Wnt):∀ u∈wntsW l,u.oneCell'=true:=recs_one (fun x u hu=>by
 simp only [wnC,List.mem_cons,List.not_mem_nil,or_false] at hu
 rcases hu with rfl | rfl | rfl <;> rfl) l
theorem wntsW_append (l m:List Wnt):wntsW (l ++ m)=wntsW l ++ wntsW m:=by simp [wntsW]
theorem wntsW_sing (x:Wnt):wntsW [x]=wnC x:=by simp [wntsW]
theorem wntsW_take (l:List Wnt) (n:Nat):(wntsW l).take (n * 3)=wntsW (l.take n):=recs_take wnC_length l n
theorem infoWnt:∃ i,Tryz.prog.info? 136=some i∧i.zero=some (.agg (wnV 0 false false))∧i.size=3∧i.bytes=16:=by
 have h:(Tryz.prog.info? 136).map (fun i=>(i.zero,i.size,i.bytes))=some (some (.agg (wnV 0 false false)),3,16):=by kernel_rfl
 cases hi:Tryz.prog.info? 136 with
 | none=>rw [hi] at h;cases h
 | some i=>
  rw [hi] at h
  simp only [Option.map_some,Option.some.injEq,Prod.mk.injEq] at h
  exact ⟨i,rfl,h.1,h.2.1,h.2.2⟩
def Wnts (w:World) (A:Option Addr) (c:Nat) (l:List Wnt):Prop:=Sl w 3 A l.length c (wntsW l)
theorem Wnts.below {w w':World} {A:Option Addr} {c:Nat} {l:List Wnt} (h:Wnts w A c l) (hb:Below w.heap.size w w'):Wnts w' A c l:=Sl.below h hb
theorem Wnts.nil (w:World):Wnts w none 0 []:=⟨rfl,Nat.le_refl _,fun _=>⟨rfl,rfl⟩,fun h=>absurd h (by simp)⟩
theorem wnt_at {l:List Wnt} {i:Nat} (h:i < l.length):∃ x,l[i]? = some x:=⟨l[i],List.getElem?_eq_getElem h⟩
theorem Wnts.at {w:World} {A:Option Addr} {c:Nat} {l:List Wnt} (h:Wnts w A c l) {i:Nat} {x:Wnt} (hx:l[i]? = some x) :
  ∃ b off,A=some ⟨b,off,none⟩∧b < w.heap.size∧w.cell? ⟨b,off + i * 3,none⟩=some (.int .i64 x.seq)∧w.cell? ⟨b,off + i * 3 + 1,none⟩=some (.bool x.excl)∧w.cell? ⟨b,off + i * 3 + 2,none⟩=some (.bool x.has):=by
 obtain ⟨b,off,rfl,hb,hc⟩:=Sl.recs h wnC_length (by decide) hx
 exact ⟨b,off,rfl,hb,hc 0 (by decide),hc 1 (by decide),hc 2 (by decide)⟩
def OwnW (B:Nat) (w:World) (A:Option Addr) (n c:Nat) (l:List Wnt):Prop:=l.length=n∧w.ownsRow B 136 3 (.slice A n c) n (wntsW l)
theorem OwnW.sl {B:Nat} {w:World} {A:Option Addr} {n c:Nat} {l:List Wnt} (h:OwnW B w A n c l):Wnts w A c l:=by
 obtain ⟨rfl,h⟩:=h
 exact Sl.own' h
theorem OwnW.below {B:Nat} {w w':World} {A:Option Addr} {n c:Nat} {l:List Wnt} (h:OwnW B w A n c l) (hb:Below w.heap.size w w'):OwnW B w' A n c l:=⟨h.1,own_below h.2 hb⟩
theorem OwnW.lower {B B':Nat} {w:World} {A:Option Addr} {n c:Nat} {l:List Wnt} (h:OwnW B w A n c l) (hb:B'≤B):OwnW B' w A n c l:=⟨h.1,own_lower h.2 hb⟩
theorem OwnW.cap {B:Nat} {w:World} {A:Option Addr} {n c:Nat} {l:List Wnt} (h:OwnW B w A n c l):n≤c:=by
 have:=h.sl.2.1
 rw [h.1] at this
 exact this
def WnPost (l:List Wnt) (w:World) (e:Ending) (w':World):Prop:=
 ∃ A n c,e=.returned (.slice A n c)∧OwnW w.heap.size w' A n c l∧Below w.heap.size w w'
theorem OwnW.at {B:Nat} {w:World} {A:Option Addr} {n c:Nat} {l:List Wnt} (h:OwnW B w A n c l) {i:Nat} {x:Wnt} (hx:l[i]? = some x) :
  ∃ g,A=some ⟨g,0,none⟩∧B≤g∧g < w.heap.size∧(∀ o,w.frozen? ⟨g,o,none⟩=false)∧w.cell? ⟨g,i * 3,none⟩=some (.int .i64 x.seq)∧w.cell? ⟨g,i * 3 + 1,none⟩=some (.bool x.excl)∧w.cell? ⟨g,i * 3 + 2,none⟩=some (.bool x.has):=by
 have hi:i < n:=by
  rw [← h.1]
  rcases Nat.lt_or_ge i l.length with h | h
  ·exact h
  ·rw [List.getElem?_eq_none h] at hx;cases hx
 obtain ⟨g,cur,rfl,hg,hk,-⟩:=own_pos h.2 (by omega)
 obtain ⟨b,off,hA,hb,c0,c1,c2⟩:=h.sl.at hx
 injection hA with hA
 injection hA with hA1 hA2
 subst hA1
 subst hA2
 rw [Nat.zero_add] at c0 c1 c2
 exact ⟨g,rfl,hg,hb,fun o=>hk.frozen o,c0,c1,c2⟩
theorem OwnW.setHas {B:Nat} {w:World} {g n c:Nat} {l:List Wnt} (h:OwnW B w (some ⟨g,0,none⟩) n c l) {i:Nat} {x:Wnt} (hx:l[i]? = some x) (b:Bool):OwnW B (w.setCell ⟨g,i * 3 + 2,none⟩ (.bool b)) (some ⟨g,0,none⟩) n c (l.set i ⟨x.seq,x.excl,b⟩):=by
 refine ⟨by rw [List.length_set];exact h.1,?_⟩
 have:=(h.2.stored (i * 3 + 2) (.bool b)).1
 rw [show wntsW (l.set i ⟨x.seq,x.excl,b⟩)=(wntsW l).set (i * 3 + 2) (.bool b) from (recs_set1 wnC_length l hx (by decide) rfl).symm]
 exact this
theorem OwnW.setAll {B:Nat} {w:World} {g n c:Nat} {l:List Wnt} (h:OwnW B w (some ⟨g,0,none⟩) n c l) {i:Nat} (hi:i < n) (y:Wnt):OwnW B (w.setCells g (i * 3) (wnC y)) (some ⟨g,0,none⟩) n c (l.set i y):=by
 refine ⟨by rw [List.length_set];exact h.1,?_⟩
 have:=own_setCells (wnC y) (i * 3) h.2
 rwa [show setL (wntsW l) (i * 3) (wnC y)=wntsW (l.set i y) from recs_set wnC_length l (by rw [h.1];exact hi) y] at this
end
section
open Go.RowKit
def isWn (w:World) (v:Value) (l:List Wnt):Prop:=∃ A n c,v=.slice A n c∧l.length=n∧Wnts w A c l∧Ty w 136 A n
theorem isWn.below {w w':World} {v:Value} {l:List Wnt} (h:isWn w v l) (hb:Below w.heap.size w w'):isWn w' v l:=by
 obtain ⟨A,n,c,rfl,hl,hw,ht⟩:=h
 exact ⟨A,n,c,rfl,hl,hw.below hb,ht.below hb⟩
theorem isWn.nil (w:World):isWn w (.slice none 0 0) []:=⟨none,0,0,rfl,rfl,Wnts.nil w,Ty.zero⟩
theorem isWn.own {B:Nat} {w:World} {A:Option Addr} {n c:Nat} {l:List Wnt} (h:OwnW B w A n c l):isWn w (.slice A n c) l:=⟨A,n,c,rfl,h.1,h.sl,Ty.own h.2⟩
theorem isWn.set {w:World} {v:Value} {l:List Wnt} (h:isWn w v l) {g:Nat} {t:TypeId} {cs:Array Value} (hg:Bk w g t cs) (hne:t≠136) (i:Nat) (u:Value):isWn (w.setCell ⟨g,i,none⟩ u) v l:=by
 obtain ⟨A,n,c,rfl,hl,hw,ht⟩:=h
 unfold Wnts at hw
 rw [hl] at hw
 obtain ⟨h1,h2⟩:=Sl.setCell hw ht hg hne i u
 exact ⟨A,n,c,rfl,hl,by unfold Wnts;rw [hl];exact h1,h2⟩
def LkIn (w:World) (vs:List Value) (L:List (List Wnt)):Prop:=vs.length=L.length∧∀ (i:Nat) (v:Value) (l:List Wnt),vs[i]? = some v→L[i]? = some l→isWn w v l
theorem LkIn.below {w w':World} {vs:List Value} {L:List (List Wnt)} (h:LkIn w vs L) (hb:Below w.heap.size w w'):LkIn w' vs L:=⟨h.1,fun i v l hv hl=>(h.2 i v l hv hl).below hb⟩
theorem LkIn.set {w:World} {vs:List Value} {L:List (List Wnt)} (h:LkIn w vs L) {i:Nat} {v:Value} {l:List Wnt} (hi:isWn w v l):LkIn w (vs.set i v) (L.set i l):=by
 refine ⟨by rw [List.length_set,List.length_set];exact h.1,fun j u m hu hm=>?_⟩
 by_cases e:i=j
 ·subst e
  have hj:i < vs.length:=by
   rcases Nat.lt_or_ge i vs.length with g | g
   ·exact g
   ·rw [List.getElem?_eq_none (by rw [List.length_set];omega)] at hu;cases hu
  rw [List.getElem?_set_self hj] at hu
  rw [List.getElem?_set_self (by rw [← h.1];exact hj)] at hm
  injection hu with hu
  injection hm with hm
  rw [← hu,← hm]
  exact hi
 ·rw [List.getElem?_set_ne e] at hu hm
  exact h.2 j u m hu hm
theorem LkIn.far {w:World} {vs:List Value} {L:List (List Wnt)} (h:LkIn w vs L) {g:Nat} {t:TypeId} {cs:Array Value} (hg:Bk w g t cs) (hne:t≠136) (i:Nat) (u:Value):LkIn (w.setCell ⟨g,i,none⟩ u) vs L:=⟨h.1,fun j v l hv hl=>(h.2 j v l hv hl).set hg hne i u⟩
theorem LkIn.at {w:World} {vs:List Value} {L:List (List Wnt)} (h:LkIn w vs L) {i:Nat} (hi:i < L.length):∃ v,vs[i]? = some v∧isWn w v (L[i]?.getD []):=by
 have hv:vs[i]? = some (vs[i]'(by rw [h.1];exact hi)):=List.getElem?_eq_getElem (by rw [h.1];exact hi)
 have hl:L[i]? = some L[i]:=List.getElem?_eq_getElem hi
 refine ⟨_,hv,?_⟩
 rw [hl]
 exact h.2 i _ _ hv hl
theorem LkIn.one {w:World} {vs:List Value} {L:List (List Wnt)} (h:LkIn w vs L):∀ u∈vs,u.oneCell'=true:=by
 intro u hu
 obtain ⟨i,hi⟩:=List.getElem?_of_mem hu
 have hlt:i < vs.length:=(List.getElem?_eq_some_iff.1 hi).1
 obtain ⟨v,hv,A,n,c,rfl,-⟩:=h.at (i:=i) (by rw [← h.1];exact hlt)
 rw [hi] at hv
 injection hv with hv
 rw [hv]
 rfl
theorem LkIn.nil (w:World) (n:Nat):LkIn w (List.replicate n (.slice none 0 0)) (List.replicate n []):=by
 refine ⟨by simp,fun i v l hv hl=>?_⟩
 have h1:=(List.mem_replicate.1 (List.mem_of_getElem? hv)).2
 have h2:=(List.mem_replicate.1 (List.mem_of_getElem? hl)).2
 rw [h1,h2]
 exact isWn.nil w
def LkSl (w:World) (A:Option Addr) (n c:Nat) (L:List (List Wnt)):Prop:=L.length=n∧∃ vs,Sl w 1 A n c vs∧LkIn w vs L
theorem LkSl.below {w w':World} {A:Option Addr} {n c:Nat} {L:List (List Wnt)} (h:LkSl w A n c L) (hb:Below w.heap.size w w'):LkSl w' A n c L:=by
 obtain ⟨hl,vs,hs,hi⟩:=h
 exact ⟨hl,vs,hs.below hb,hi.below hb⟩
theorem LkSl.cap {w:World} {A:Option Addr} {n c:Nat} {L:List (List Wnt)} (h:LkSl w A n c L):n≤c:=by
 obtain ⟨-,vs,hs,-⟩:=h
 exact hs.2.1
theorem LkSl.at {w:World} {A:Option Addr} {n c:Nat} {L:List (List Wnt)} (h:LkSl w A n c L) {i:Nat} (hi:i < n) :
  ∃ g off A' n' c',A=some ⟨g,off,none⟩∧g < w.heap.size∧w.cell? ⟨g,off + i,none⟩=some (.slice A' n' c')∧(L[i]?.getD []).length=n'∧Wnts w A' c' (L[i]?.getD [])∧isWn w (.slice A' n' c') (L[i]?.getD []):=by
 obtain ⟨hl,vs,hs,hL⟩:=h
 obtain ⟨g,off,rfl,hg,hc⟩:=hs.2.2.2 (by omega)
 obtain ⟨v,hv,hw⟩:=hL.at (i:=i) (by omega)
 obtain ⟨A',n',c',rfl,h1,h2,h3⟩:=hw
 refine ⟨g,off,A',n',c',rfl,hg,?_,h1,h2,A',n',c',rfl,h1,h2,h3⟩
 rw [hc i (by omega),hv]
def LkOwn (B:Nat) (w:World) (A:Option Addr) (n c:Nat) (L:List (List Wnt)):Prop:=L.length=n∧∃ vs,w.ownsRow B 98 1 (.slice A n c) n vs∧LkIn w vs L
theorem LkOwn.sl {B:Nat} {w:World} {A:Option Addr} {n c:Nat} {L:List (List Wnt)} (h:LkOwn B w A n c L):LkSl w A n c L:=by
 obtain ⟨hl,vs,ho,hi⟩:=h
 exact ⟨hl,vs,Sl.own' ho,hi⟩
theorem LkOwn.below {B:Nat} {w w':World} {A:Option Addr} {n c:Nat} {L:List (List Wnt)} (h:LkOwn B w A n c L) (hb:Below w.heap.size w w'):LkOwn B w' A n c L:=by
 obtain ⟨hl,vs,ho,hi⟩:=h
 exact ⟨hl,vs,own_below ho hb,hi.below hb⟩
theorem LkOwn.lower {B B':Nat} {w:World} {A:Option Addr} {n c:Nat} {L:List (List Wnt)} (h:LkOwn B w A n c L) (hb:B'≤B):LkOwn B' w A n c L:=by
 obtain ⟨hl,vs,ho,hi⟩:=h
 exact ⟨hl,vs,own_lower ho hb,hi⟩
theorem LkOwn.pos {B:Nat} {w:World} {A:Option Addr} {n c:Nat} {L:List (List Wnt)} (h:LkOwn B w A n c L) (hn:0 < n):∃ g cs,A=some ⟨g,0,none⟩∧B≤g∧Bk w g 98 cs∧cs.size=c:=by
 obtain ⟨hl,vs,ho,hi⟩:=h
 obtain ⟨g,cur,rfl,hg,hk,-,-,hcs,-⟩:=own_pos ho hn
 exact ⟨g,cur,rfl,hg,hk,by omega⟩
theorem LkOwn.set {B:Nat} {w:World} {g n c:Nat} {L:List (List Wnt)} (h:LkOwn B w (some ⟨g,0,none⟩) n c L) (hn:0 < n) {i:Nat} {v:Value} {l:List Wnt} (hv:isWn w v l):LkOwn B (w.setCell ⟨g,i,none⟩ v) (some ⟨g,0,none⟩) n c (L.set i l):=by
 obtain ⟨g',cs,hA,-,hk,-⟩:=h.pos hn
 injection hA with hA
 injection hA with hA
 subst hA
 obtain ⟨hl,vs,ho,hi⟩:=h
 have h1:=(ho.stored i v).1
 exact ⟨by rw [List.length_set];exact hl,vs.set i v,h1,(hi.far hk (by decide) i v).set (hv.set hk (by decide) i v)⟩
def LkPost (L:List (List Wnt)) (n:Nat) (w:World) (e:Ending) (w':World):Prop:=∃ A c,e=.returned (.slice A n c)∧LkOwn w.heap.size w' A n c L∧Below w.heap.size w w'
end
section
open Go.RowKit
theorem infoLk:∃ i,Tryz.prog.info? 98=some i∧i.zero=some (.slice none 0 0)∧i.size=1∧i.bytes=24:=by
 have h:(Tryz.prog.info? 98).map (fun i=>(i.zero,i.size,i.bytes))=some (some (.slice none 0 0),1,24):=by kernel_rfl
 cases hi:Tryz.prog.info? 98 with
 | none=>rw [hi] at h;cases h
 | some i=>
  rw [hi] at h
  simp only [Option.map_some,Option.some.injEq,Prod.mk.injEq] at h
  exact ⟨i,rfl,h.1,h.2.1,h.2.2⟩
theorem infoLk3:(Tryz.prog.info? 98).map (fun i=>(i.zero,i.size,i.bytes))=some (some (.slice none 0 0),1,24):=by kernel_rfl
theorem makeLk (w:World) (n:Nat) (h:n≤1000) :
  (Instr.makeSlice 27 (.int .i64 (n:Int)) (.int .i64 (n:Int))).run Tryz.prog w=.ok (.slice (some ⟨w.heap.size,0,none⟩) n n) (w.alloc (.cells (madeCells #[.slice none 0 0] n) 98)):=
 run_make_row' 27 98 _ 24 Tryz.underlying27 infoLk3 rfl .i64 .i64 n (by omega) (by omega) w
theorem LkOwn.made (w:World) (n:Nat) (hn:n≤1000):LkOwn w.heap.size (w.alloc (.cells (madeCells #[.slice none 0 0] n) 98)) (some ⟨w.heap.size,0,none⟩) n n (List.replicate n []):=by
 refine ⟨by simp,List.replicate n (.slice none 0 0),⟨by simp,.inr ⟨w.heap.size,n,_,rfl,Nat.le_refl _,heap_alloc_new w _,Nat.le_refl _,by unfold maxLen;omega,?_,?_⟩⟩,LkIn.nil _ n⟩
 ·rw [← Array.length_toList,toList_madeCells_one];simp
 ·rw [toList_madeCells_one];simp
theorem LkOwn.at {B:Nat} {w:World} {A:Option Addr} {n c:Nat} {L:List (List Wnt)} (h:LkOwn B w A n c L) {i:Nat} (hi:i < n) :
  ∃ g A' n' c',A=some ⟨g,0,none⟩∧B≤g∧g < w.heap.size∧(∀ o,w.frozen? ⟨g,o,none⟩=false)∧w.cell? ⟨g,i,none⟩=some (.slice A' n' c')∧(lkAt L i).length=n'∧Wnts w A' c' (lkAt L i):=by
 obtain ⟨g,cs,rfl,hg,hk,-⟩:=h.pos (by omega)
 obtain ⟨g',off,A',n',c',hA,hl,hc,h1,h2,-⟩:=h.sl.at hi
 injection hA with hA
 injection hA with hA hO
 subst hA
 subst hO
 rw [Nat.zero_add] at hc
 exact ⟨g,A',n',c',rfl,hg,hl,fun o=>hk.frozen o,hc,h1,h2⟩
theorem LkOwn.cap {B:Nat} {w:World} {A:Option Addr} {n c:Nat} {L:List (List Wnt)} (h:LkOwn B w A n c L):n≤c:=h.sl.cap
theorem lk_same (L:Lks) (i:Nat):L.set i (lkAt L i)=L:=by
 unfold lkAt
 by_cases h:i < L.length
 ·rw [List.getElem?_eq_getElem h]
  exact List.set_getElem_self h
 ·exact List.set_eq_of_length_le (by omega)
theorem int_at {l:List Int} {i:Nat} (h:i < l.length):∃ x,l[i]? = some x∧x∈l:=⟨l[i],List.getElem?_eq_getElem h,List.getElem_mem _⟩
theorem turns_max {f:List Wnt→List Wnt} (hf:∀ l,(f l).length≤l.length + 1) (bs:List Int) (L:Lks) {M:Nat} (hM:∀ b,(lkAt L b).length≤M):∀ k b,(lkAt (turnsL f bs L k) b).length≤M + k
 | 0,b=>hM b
 | k + 1,b=>by
  have ih:=turns_max hf bs L hM k
  rw [turnsL,turnL]
  generalize turnsL f bs L k=T at ih ⊢
  by_cases e:(bs[k]?.getD 0).toNat=b
  ·by_cases hb:b < T.length
   ·have h1:=ih b
    have h2:=hf (lkAt T b)
    rw [e]
    unfold lkAt at h1 h2 ⊢
    rw [List.getElem?_set_self hb,Option.getD_some]
    omega
   ·unfold lkAt
    rw [List.getElem?_eq_none (by rw [List.length_set];omega)]
    simp
  ·have h1:=ih b
   unfold lkAt at h1 ⊢
   rw [List.getElem?_set_ne e]
   omega
structure CmLk (w:World) (c:Cmd) (ra:Option Addr) (nr rc:Nat) (wa:Option Addr) (nw wc n:Nat):Prop where
 lr:c.reads.length=nr
 lw:c.writes.length=nw
 reads:Ints w ra rc c.reads
 writes:Ints w wa wc c.writes
 br:nr≤8
 bw:nw≤8
 inr:∀ x∈c.reads,0≤x∧x < (n:Int)
 inw:∀ x∈c.writes,0≤x∧x < (n:Int)
theorem CmLk.below {w w':World} {c:Cmd} {ra:Option Addr} {nr rc:Nat} {wa:Option Addr} {nw wc n:Nat} (h:CmLk w c ra nr rc wa nw wc n) (hb:Below w.heap.size w w'):CmLk w' c ra nr rc wa nw wc n:=
 ⟨h.lr,h.lw,h.reads.below hb,h.writes.below hb,h.br,h.bw,h.inr,h.inw⟩
def GrL (L:Lks):Prop:=∀ b,∃ K:Keys,lkAt L b=grK K
theorem GrL.has {L:Lks} (h:GrL L) (b:Nat) (s:Int):hasO (lkAt L b) s=hasS (lkAt L b) s:=by
 obtain ⟨K,hK⟩:=h b
 rw [hK,hasO_gr]
theorem lksW_gr (w:Who) (n:Nat):GrL (lksW w n):=fun b=>by
 by_cases h:b < n
 ·exact ⟨_,lksW_at w h⟩
 ·refine ⟨[],?_⟩
  unfold lkAt
  rw [List.getElem?_eq_none (by rw [lksW_length];omega)]
  simp [gr_nil]
theorem readyL_eq (L:Lks) (c:Cmd) (s:Int):readyL L c s=(!(c.reads.any fun x=>!hasS (lkAt L x.toNat) s) && !(c.writes.any fun x=>!hasS (lkAt L x.toNat) s)):=by
 unfold readyL blocksN
 rw [List.all_append,List.not_any_eq_all_not,List.not_any_eq_all_not]
 simp
end
section
open Go.RowKit
theorem Sl.grown {w w':World} {size n c:Nat} {A:Option Addr} {xs:List Value} {t:TypeId} {row:Option Nat} (h:Sl w size A n c xs) (hT:Ty w t A n) (hg:w.grownBy w' row) (hr:∀ b cur,w.heap[b]? = some (.cells cur t (0,0))→some b≠row):Sl w' size A n c xs∧Ty w' t A n:=by
 refine ⟨⟨h.1,h.2.1,h.2.2.1,fun hn=>?_⟩,fun hn=>?_⟩
 ·obtain ⟨b,off,e1,hb,hc⟩:=h.2.2.2 hn
  obtain ⟨b',off',e2,cur,hcur⟩:=hT hn
  rw [e1] at e2
  simp only [Option.some.injEq,Addr.mk.injEq] at e2
  obtain ⟨rfl,rfl,_⟩:=e2
  refine ⟨b,off,e1,Nat.lt_of_lt_of_le hb hg.size,fun j hj=>?_⟩
  rw [World.cell?_of_block (w:=w) (hg.block b hb (hr b cur hcur))]
  exact hc j hj
 ·obtain ⟨b,off,e,cur,hcur⟩:=hT hn
  exact ⟨b,off,e,cur,(hg.block b (Bk.lt (t:=t) (cs:=cur) hcur) (hr b cur hcur)).trans hcur⟩
theorem isWn.grown {w w':World} {v:Value} {l:List Wnt} {row:Option Nat} (h:isWn w v l) (hg:w.grownBy w' row) (hr:∀ b cur,w.heap[b]? = some (.cells cur 136 (0,0))→some b≠row):isWn w' v l:=by
 obtain ⟨A,n,c,rfl,hl,hw,ht⟩:=h
 unfold Wnts at hw
 rw [hl] at hw
 obtain ⟨h1,h2⟩:=hw.grown ht hg hr
 exact ⟨A,n,c,rfl,hl,by unfold Wnts;rw [hl];exact h1,h2⟩
theorem LkOwn.grown {B:Nat} {w w':World} {A:Option Addr} {n c:Nat} {L:List (List Wnt)} {row:Option Nat} (h:LkOwn B w A n c L) (hg:w.grownBy w' row) (hr:∀ b cur,w.heap[b]? = some (.cells cur 136 (0,0))→some b≠row) (hr2:∀ b cur,w.heap[b]? = some (.cells cur 98 (0,0))→some b≠row):LkOwn B w' A n c L:=by
 obtain ⟨hl,vs,ho,hi⟩:=h
 refine ⟨hl,vs,own_keep ho fun k hk he=>hg.block k hk ?_,hi.1,fun i v l hv hl=>(hi.2 i v l hv hl).grown hg hr⟩
 rcases ho.2 with ⟨h0,-⟩ | ⟨g,cap,cur,h0,-,hgg,-⟩
 ·rw [h0] at he
  simp [Value.ownBlock] at he
 ·rw [h0] at he
  simp [Value.ownBlock] at he
  subst he
  exact hr2 g cur hgg
end
section
open Go.RowKit
section
variable (c:Cmd) (ra:Option Addr) (nr rc:Nat) (wa:Option Addr) (nw wc:Nat) (aa:Option Addr) (na ac:Nat) (ca:Option Addr) (nc cc:Nat)
theorem fits_any (ln:Nat) (b:Bool) (w:World) (h:CmIn w c ra nr rc wa nw wc aa na ac ca nc cc) (hb:b=true↔fitsT c ln) :
  Calls Tryz.prog 25 #[cmV ra nr rc wa nw wc aa na ac c.fuel ca nc cc,.int .i64 (ln:Int)] w fun e w'=>e=.returned (.bool b)∧Below w.heap.size w w':=by
 have hlr:=h.lr
 have hlw:=h.lw
 have hbr:=h.br
 have hbw:=h.bw
 have hrc:nr≤rc:=by have:=h.reads.2.1;rw [h.lr] at this;exact this
 have hwc:nw≤wc:=by have:=h.writes.2.1;rw [h.lw] at this;exact this
 have HR:Hid (Sl w 1 ra nr rc (c.reads.map (.int .i64))):=hid (by have:=h.reads;unfold Ints at this;rwa [h.lr] at this)
 have HW:Hid (Sl w 1 wa nw wc (c.writes.map (.int .i64))):=hid (by have:=h.writes;unfold Ints at this;rwa [h.lw] at this)
 have B0:=hid (below_alloc1 w (CmObj ra nr rc wa nw wc aa na ac c.fuel ca nc cc))
 have C0:Hid (Bk (w.alloc (CmObj ra nr rc wa nw wc aa na ac c.fuel ca nc cc)) w.heap.size 56 #[.slice ra nr rc,.slice wa nw wc,.slice aa na ac,.int .i64 c.fuel,.slice ca nc cc]):=hid (Bk.new w _ _)
 have rno:Hid (∀ k,k < nr→(ln:Int)≤c.reads[k]?.getD 0→b=false):=hid (fun k hk hg=>by
  cases b with
  | false=>rfl
  | true=>
   have:=(hb.1 rfl).1 (c.reads[k]?.getD 0) (by rw [List.getElem?_eq_getElem (by omega)];exact List.getElem_mem _)
   omega)
 have wno:Hid (∀ k,k < nw→(ln:Int)≤c.writes[k]?.getD 0→b=false):=hid (fun k hk hg=>by
  cases b with
  | false=>rfl
  | true=>
   have:=(hb.1 rfl).2 (c.writes[k]?.getD 0) (by rw [List.getElem?_eq_getElem (by omega)];exact List.getElem_mem _)
   omega)
 have yes:Hid ((∀ j,j < nr→c.reads[j]?.getD 0 < (ln:Int))→(∀ j,j < nw→c.writes[j]?.getD 0 < (ln:Int))→b=true):=hid (fun p q=>hb.2 ⟨fun x hx=>by
   obtain ⟨i,hi,rfl⟩:=List.getElem_of_mem hx
   have:=p i (by omega)
   rwa [List.getElem?_eq_getElem hi] at this,fun x hx=>by
   obtain ⟨i,hi,rfl⟩:=List.getElem_of_mem hx
   have:=q i (by omega)
   rwa [List.getElem?_eq_getElem hi] at this⟩)
 clear h hb hlr hlw
 generalize c.fuel=fuel at *
 generalize c.reads=rs at *
 generalize c.writes=ws at *
 go_enter Tryz.func25,Tryz.ntmps25
 go_wp2
 go_loopw [5] (fun ii wr=>∃ k:Nat,k≤nr∧ii=.int .i64 (k:Int)∧Hid (Below w.heap.size w wr)∧Hid (Bk wr w.heap.size 56 #[.slice ra nr rc,.slice wa nw wc,.slice aa na ac,.int .i64 fuel,.slice ca nc cc])∧Hid (∀ j,j < k→rs[j]?.getD 0 < (ln:Int))) (fun ii _=>nr - (intOf ii).toNat)
 case atStart=>exact ⟨0,Nat.zero_le _,rfl,B0,C0,hid (fun j hj=>absurd hj (by omega))⟩
 case round=>
  clear B0 C0
  obtain ⟨k,hk,rfl,HB,HC,HP⟩:=hrel
  obtain ⟨f0,f1,f2,f3,f4,ff⟩:=HC.out.cmd
  have fl:=HC.out.lt
  by_cases hlt:k < nr
  ·obtain ⟨g,off,rfl,hg,hv⟩:=(HR.out.below HB.out).int hlt
   have d1:(k:Int) < (nr:Int):=by omega
   have d2:(k:Int) < (rc:Int):=by omega
   have hp:=HP.out
   have hn:=rno.out k hlt
   clear HP
   obtain ⟨v,hvv⟩:∃ v,v=rs[k]?.getD 0:=⟨_,rfl⟩
   rw [← hvv] at hv hn
   have HV:=hid hvv
   have HPP:=hid hp
   clear hvv hp
   by_cases hge:(ln:Int)≤v
   ·obtain rfl:=hn hge
    clear hn
    go_wp2
    go_ret
    exact ⟨rfl,HB.out⟩
   ·clear hn
    have hlt2:v < (ln:Int):=by omega
    go_wp2
    go_roundw
    case rel=>exact ⟨k + 1,by omega,by go_num,HB,HC,hid (fun j hj=>by
     rcases Nat.lt_or_ge j k with q | q
     ·exact HPP.out j q
     ·obtain rfl:j=k:=by omega
      rw [← HV.out]
      exact hlt2)⟩
    case measure=>simp [intOf];omega
  ·obtain rfl:nr=k:=by omega
   have RP:=HP
   clear hlt HP rno HR
   go_wp2
   go_loopw [6] (fun ii wr=>∃ k:Nat,k≤nw∧ii=.int .i64 (k:Int)∧Hid (Below w.heap.size w wr)∧Hid (Bk wr w.heap.size 56 #[.slice ra nr rc,.slice wa nw wc,.slice aa na ac,.int .i64 fuel,.slice ca nc cc])∧Hid (∀ j,j < k→ws[j]?.getD 0 < (ln:Int))) (fun ii _=>nw - (intOf ii).toNat)
   case atStart=>exact ⟨0,Nat.zero_le _,rfl,HB,HC,hid (fun j hj=>absurd hj (by omega))⟩
   case round=>
    clear HB HC f0 f1 f2 f3 f4 ff fl
    obtain ⟨k,hk2,rfl,HB,HC,HP⟩:=hrel
    obtain ⟨f0,f1,f2,f3,f4,ff⟩:=HC.out.cmd
    have fl:=HC.out.lt
    by_cases hlt:k < nw
    ·obtain ⟨g,off,rfl,hg,hv⟩:=(HW.out.below HB.out).int hlt
     have d1:(k:Int) < (nw:Int):=by omega
     have d2:(k:Int) < (wc:Int):=by omega
     have hp:=HP.out
     have hn:=wno.out k hlt
     clear HP
     obtain ⟨v,hvv⟩:∃ v,v=ws[k]?.getD 0:=⟨_,rfl⟩
     rw [← hvv] at hv hn
     have HV:=hid hvv
     have HPP:=hid hp
     clear hvv hp
     by_cases hge:(ln:Int)≤v
     ·obtain rfl:=hn hge
      clear hn
      go_wp2
      go_ret
      exact ⟨rfl,HB.out⟩
     ·clear hn
      have hlt2:v < (ln:Int):=by omega
      go_wp2
      go_roundw
      case rel=>exact ⟨k + 1,by omega,by go_num,HB,HC,hid (fun j hj=>by
       rcases Nat.lt_or_ge j k with q | q
       ·exact HPP.out j q
       ·obtain rfl:j=k:=by omega
        rw [← HV.out]
        exact hlt2)⟩
      case measure=>simp [intOf];omega
    ·obtain rfl:k=nw:=by omega
     obtain rfl:=yes.out RP.out HP.out
     clear hlt
     go_wp2
     go_ret
     exact ⟨rfl,HB.out⟩
end
end
section
open Go.RowKit
theorem inss_new (l:List Ins) (w:World):Inss (w.alloc (.cells (inssW l).toArray 72)) (some ⟨w.heap.size,0,none⟩) l.length l:=by
 have hk:=Bk.new w 72 (inssW l).toArray
 refine ⟨by rw [inssW_length],Nat.le_refl _,fun h=>(by cases h),fun _=>⟨_,_,rfl,hk.lt,fun j _=>?_⟩⟩
 rw [hk.cell]
 simp
end
end Go.Proofs.YtpaocjpjlogkgaaGreat
