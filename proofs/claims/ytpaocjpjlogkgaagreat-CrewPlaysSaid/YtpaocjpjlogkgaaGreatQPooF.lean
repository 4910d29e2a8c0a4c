/-
  Words and contracts of this claim, 2 texts laid into one, each under its own remark. No conditions but those that stand at each.
-/
import Derived.Test.YtpaocjpjlogkgaaGreatQWords
import Derived.Test.YtpaocjpjlogkgaaGreatQQueP
import Derived.OwnWalk
import Derived.Test.YtpaocjpjlogkgaaGreatQPooB
import Derived.Shelf.Abstract
namespace Go.Proofs.YtpaocjpjlogkgaaGreat
set_option maxRecDepth 100000
set_option maxHeartbeats 32000000
open Go
open Go.Lib (hid)
section
open Go.RowKit
def seqT (s:Int) (t:TkL):Bool:=decide (t.s=s)
def wkT (k:Int) (t:TkL):Bool:=decide (0≤k∧t.wk=k)
theorem none_next {l:List TkL} {p:TkL→Bool} {i:Nat} {x:TkL} (h:∀ j y,j < i→l[j]? = some y→p y=false) (hx:l[i]? = some x) (hp:p x=false):∀ j y,j < i + 1→l[j]? = some y→p y=false:=fun j y hj hy=>by
 by_cases he:j=i
 ·subst he
  rw [hx] at hy
  injection hy with hy
  rw [← hy]
  exact hp
 ·exact h j y (by omega) hy
section
variable (l:List TkL) (A:Option Addr) (n c:Nat)
theorem rfind16_any (s:Int) (w:World) (h:Tks w A c l) (hN:l.length=n) (hz:n≤100000) :
  Calls Tryz.prog 39 #[.slice A n c,.int .i64 s] w fun e w'=>e=.returned (.int .i64 (idxP (seqT s) l))∧w=w':=by
 have H:=hid h
 have HN:=hid hN
 have hnc:n≤c:=by have:=h.cap;omega
 obtain ⟨r,hr⟩:∃ r,r=idxP (seqT s) l:=⟨_,rfl⟩
 rw [← hr]
 have R:=hid hr
 clear h hN hr
 go_enter Tryz.func39,Tryz.ntmps39
 go_wp2
 go_loop [5] (fun cc=>∃ i:Nat,i≤n∧cc=.int .i64 i∧Hid (∀ j y,j < i→l[j]? = some y→seqT s y=false)) (fun cc=>n - (intOf cc).toNat)
 case atStart=>exact ⟨0,Nat.zero_le _,rfl,hid (fun j y hj=>absurd hj (by omega))⟩
 case round=>
  obtain ⟨i,hi,rfl,HB⟩:=hrel
  by_cases hlt:i < n
  ·have d1:(i:Int) < (n:Int):=by omega
   have d2:(i:Int) < (c:Int):=by omega
   obtain ⟨x,hx⟩:=tk_at (l:=l) (i:=i) (by rw [HN.out];exact hlt)
   obtain ⟨bb,off,rfl,hc,-⟩:=H.out.at hx
   have c0:=hc.s
   have cl:=hc.lt
   have HX:=hid hx
   clear hc hx
   by_cases hs:x.s=s
   ·have e1:(x.s == s)=true:=by simp [hs]
    obtain rfl:(i:Int)=r:=by
     rw [R.out]
     exact (idxP_at HX.out (by simp [seqT,hs]) HB.out).symm
    generalize x.s=xs at *
    clear hs
    go_wp2
    go_ret
    exact ⟨rfl,rfl⟩
   ·have e1:(x.s == s)=false:=beq_eq_false_iff_ne.2 hs
    have HB2:=hid (none_next HB.out HX.out (by simp [seqT,hs]))
    generalize x.s=xs at *
    clear hs
    go_wp2
    go_round
    case rel=>exact ⟨i + 1,by omega,by go_num,HB2⟩
    case measure=>simp [intOf];omega
  ·obtain rfl:i=n:=by omega
   obtain rfl:(-1:Int)=r:=by
    rw [R.out]
    exact (idxP_none fun j y hj hy=>HB.out j y (by rw [← HN.out];exact hj) hy).symm
   clear hlt
   go_wp2
   go_ret
   exact ⟨rfl,rfl⟩
theorem rof16_any (k:Int) (w:World) (h:Tks w A c l) (hN:l.length=n) (hz:n≤100000) :
  Calls Tryz.prog 40 #[.slice A n c,.int .i64 k] w fun e w'=>e=.returned (.int .i64 (idxP (wkT k) l))∧w=w':=by
 have H:=hid h
 have HN:=hid hN
 have hnc:n≤c:=by have:=h.cap;omega
 obtain ⟨r,hr⟩:∃ r,r=idxP (wkT k) l:=⟨_,rfl⟩
 rw [← hr]
 have R:=hid hr
 clear h hN hr
 go_enter Tryz.func40,Tryz.ntmps40
 go_wp2
 go_loop [5] (fun cc=>∃ i:Nat,i≤n∧cc=.int .i64 i∧Hid (∀ j y,j < i→l[j]? = some y→wkT k y=false)) (fun cc=>n - (intOf cc).toNat)
 case atStart=>exact ⟨0,Nat.zero_le _,rfl,hid (fun j y hj=>absurd hj (by omega))⟩
 case round=>
  obtain ⟨i,hi,rfl,HB⟩:=hrel
  by_cases hlt:i < n
  ·have d1:(i:Int) < (n:Int):=by omega
   have d2:(i:Int) < (c:Int):=by omega
   obtain ⟨x,hx⟩:=tk_at (l:=l) (i:=i) (by rw [HN.out];exact hlt)
   obtain ⟨bb,off,rfl,hc,-⟩:=H.out.at hx
   have c0:=hc.wk
   have cl:=hc.lt
   have HX:=hid hx
   clear hc hx
   by_cases h0:0≤k
   ·by_cases hs:x.wk=k
    ·have e1:(x.wk == k)=true:=by simp [hs]
     obtain rfl:(i:Int)=r:=by
      rw [R.out]
      exact (idxP_at HX.out (by simp [wkT,hs,h0]) HB.out).symm
     generalize x.wk=xs at *
     clear hs
     go_wp2
     go_ret
     exact ⟨rfl,rfl⟩
    ·have e1:(x.wk == k)=false:=beq_eq_false_iff_ne.2 hs
     have HB2:=hid (none_next HB.out HX.out (by simp [wkT,hs]))
     generalize x.wk=xs at *
     clear hs
     go_wp2
     go_round
     case rel=>exact ⟨i + 1,by omega,by go_num,HB2⟩
     case measure=>simp [intOf];omega
   ·have HB2:=hid (none_next HB.out HX.out (by simp [wkT,h0]))
    generalize x.wk=xs at *
    go_wp2
    go_round
    case rel=>exact ⟨i + 1,by omega,by go_num,HB2⟩
    case measure=>simp [intOf];omega
  ·obtain rfl:i=n:=by omega
   obtain rfl:(-1:Int)=r:=by
    rw [R.out]
    exact (idxP_none fun j y hj hy=>HB.out j y (by rw [← HN.out];exact hj) hy).symm
   clear hlt
   go_wp2
   go_ret
   exact ⟨rfl,rfl⟩
end
end
section
open Go.RowKit Go.Shelf
def PredT (p:TkL→Bool) (fn:Nat) (lb:Array Value) (w:World):Prop:=
 ∀ (x:TkL) (W:World),Below w.heap.size w W→Calls Tryz.prog fn (#[.agg (tkA x)] ++ lb) W fun e w'=>e=.returned (.bool (p x))∧Below W.heap.size W w'
theorem idxT_any (l:List TkL) (p:TkL→Bool) (fn:Nat) (lb:Array Value) (eg:∀ args w,(callFunc fn args).run Tryz.prog w=.ok (.enter fn args) w) (A:Option Addr) (n c:Nat) (w:World) (h:Tks w A c l) (hN:l.length=n) (hz:n≤100000) (hp:PredT p fn lb w) :
  Calls Tryz.prog 70 #[.slice A n c,.func (.func fn) #[] lb] w fun e w'=>e=.returned (.int .i64 (idxP p l))∧Below w.heap.size w w':=by
 have hc:n≤c:=by have:=h.cap;omega
 have h':=hid h
 have hN':=hid hN
 have hp':=hid hp
 obtain ⟨r,hr⟩:∃ r,r=idxP p l:=⟨_,rfl⟩
 rw [← hr]
 have hr':=hid hr
 clear h hN hp hr
 go_enter Tryz.func70,Tryz.ntmps70
 go_wp2
 go_loopw [8] (fun cc wr=>∃ i:Nat,i≤n∧cc=.int .i64 i∧Hid (∀ j y,j < i→l[j]? = some y→p y=false)∧Hid (Below w.heap.size w wr)) (fun cc _=>n - (intOf cc).toNat)
 case atStart=>exact ⟨0,Nat.zero_le _,rfl,hid (fun j y hj=>absurd hj (by omega)),hid (Below.refl _ _)⟩
 case round=>
  obtain ⟨i,hi,rfl,HB,HW⟩:=hrel
  by_cases hlt:i < n
  ·have d1:(i:Int) < (n:Int):=by omega
   have d2:(i:Int) < (c:Int):=by omega
   obtain ⟨x,hx⟩:=tk_at (l:=l) (i:=i) (by rw [hN'.out];exact hlt)
   obtain ⟨bb,off,rfl,hat,-⟩:=(h'.out.below HW.out).at hx
   have hbl:=hat.lt
   have HR:=hid hat.all
   have hcall:=hid (hp'.out x wr HW.out)
   have hx':=hid hx
   clear hx hat
   cases hq:p x with
   | true=>
    rw [hq] at hcall
    obtain rfl:(i:Int)=r:=by rw [hr'.out];exact (idxP_at hx'.out hq HB.out).symm
    clear hq
    go_wp2_with (first
     | (with_reducible refine ld_tskm bb (off + i * 18) HR.out _ rfl rfl rfl ?_)
     | (go_at_fn fn;go_must (refine hcall.out.mono ?_;rintro e w1 ⟨rfl,hb1⟩;have B1:=hid (bnext HW.out hb1);clear hb1)))
    go_ret
    exact ⟨rfl,B1.out⟩
   | false=>
    rw [hq] at hcall
    have HB2:=hid (none_next HB.out hx'.out hq)
    clear hq
    go_wp2_with (first
     | (with_reducible refine ld_tskm bb (off + i * 18) HR.out _ rfl rfl rfl ?_)
     | (go_at_fn fn;go_must (refine hcall.out.mono ?_;rintro e w1 ⟨rfl,hb1⟩;have B1:=hid (bnext HW.out hb1);clear hb1)))
    go_roundw
    case rel=>exact ⟨i + 1,by omega,by go_num,HB2,B1⟩
    case measure=>simp [intOf];omega
  ·obtain rfl:i=n:=by omega
   obtain rfl : -1=r:=by
    rw [hr'.out]
    exact (idxP_none fun j y hj hy=>HB.out j y (by rw [← hN'.out];exact hj) hy).symm
   clear hlt
   go_wp2
   go_ret
   exact ⟨rfl,HW.out⟩
theorem find1_any (x:TkL) (s:Int) (g:Nat) (w:World) (hg:w.cell? ⟨g,0,none⟩=some (.int .i64 s)) (hl:g < w.heap.size):Calls Tryz.prog 72 #[.agg (tkA x),.pointer (some ⟨g,0,none⟩)] w fun e w'=>e=.returned (.bool (seqT s x))∧Below w.heap.size w w':=by
 have B0:=hid (below_alloc1 w (.cells (tkA x) 67))
 have hne:g≠w.heap.size:=by omega
 have he:seqT s x=(x.s == s):=by simp [seqT,BEq.beq]
 rw [he]
 go_enter Tryz.func72,Tryz.ntmps72
 go_wp2
 go_ret
 exact ⟨rfl,B0.out⟩
theorem of1_any (x:TkL) (k:Int) (hk:0≤k) (g:Nat) (w:World) (hg:w.cell? ⟨g,0,none⟩=some (.int .i64 k)) (hl:g < w.heap.size):Calls Tryz.prog 71 #[.agg (tkA x),.pointer (some ⟨g,0,none⟩)] w fun e w'=>e=.returned (.bool (wkT k x))∧Below w.heap.size w w':=by
 have B0:=hid (below_alloc1 w (.cells (tkA x) 67))
 have hne:g≠w.heap.size:=by omega
 have he:wkT k x=(x.wk == k):=by simp [wkT,hk,BEq.beq]
 rw [he]
 go_enter Tryz.func71,Tryz.ntmps71
 go_wp2
 go_ret
 exact ⟨rfl,B0.out⟩
theorem egFind:∀ args w,(callFunc 72 args).run Tryz.prog w=.ok (.enter 72 args) w:=enters_of Tryz.func72 (by kernel_rfl) rfl
theorem egOf:∀ args w,(callFunc 71 args).run Tryz.prog w=.ok (.enter 71 args) w:=enters_of Tryz.func71 (by kernel_rfl) rfl
section
variable (l:List TkL) (A:Option Addr) (n c:Nat)
theorem pfind_any (s:Int) (w:World) (h:Tks w A c l) (hN:l.length=n) (hz:n≤100000) :
  Calls Tryz.prog 35 #[.slice A n c,.int .i64 s] w fun e w'=>e=.returned (.int .i64 (idxP (seqT s) l))∧Below w.heap.size w w':=by
 have BA:=below_alloc1 w (.cells #[.int .i64 s] 3)
 have V0:=Bk.new w 3 #[.int .i64 s]
 have hi:=hid (idxT_any l (seqT s) 72 #[.pointer (some ⟨w.heap.size,0,none⟩)] egFind A n c _ (h.below BA) hN hz (fun x W hW=>find1_any x s w.heap.size W ((V0.below hW).cell 0) (V0.below hW).lt))
 have B0:=hid BA
 clear h hN BA V0
 go_enter Tryz.func35,Tryz.ntmps35
 go_wp2_with (go_at_call 70;go_must ((with_reducible refine hi.out.mono ?_);rintro e w1 ⟨rfl,hb1⟩;have B1:=hid (bnext B0.out hb1);clear hb1))
 go_ret
 exact ⟨rfl,B1.out⟩
theorem pof_any (k:Int) (w:World) (h:Tks w A c l) (hN:l.length=n) (hz:n≤100000) :
  Calls Tryz.prog 34 #[.slice A n c,.int .i64 k] w fun e w'=>e=.returned (.int .i64 (idxP (wkT k) l))∧Below w.heap.size w w':=by
 have BA:=below_alloc1 w (.cells #[.int .i64 k] 3)
 have V0:=Bk.new w 3 #[.int .i64 k]
 by_cases hk:k < 0
 ·have hr:idxP (wkT k) l=-1:=idxP_none fun j y _ _=>by unfold wkT;exact decide_eq_false (fun h=>by omega)
  rw [hr]
  have B0:=hid BA
  clear h hN BA V0 hr
  go_enter Tryz.func34,Tryz.ntmps34
  go_wp2
  go_ret
  exact ⟨rfl,B0.out⟩
 ·have hi:=hid (idxT_any l (wkT k) 71 #[.pointer (some ⟨w.heap.size,0,none⟩)] egOf A n c _ (h.below BA) hN hz (fun x W hW=>of1_any x k (by omega) w.heap.size W ((V0.below hW).cell 0) (V0.below hW).lt))
  have B0:=hid BA
  clear h hN BA V0
  go_enter Tryz.func34,Tryz.ntmps34
  go_wp2_with (go_at_call 70;go_must ((with_reducible refine hi.out.mono ?_);rintro e w1 ⟨rfl,hb1⟩;have B1:=hid (bnext B0.out hb1);clear hb1))
  go_ret
  exact ⟨rfl,B1.out⟩
end
end
end Go.Proofs.YtpaocjpjlogkgaaGreat
