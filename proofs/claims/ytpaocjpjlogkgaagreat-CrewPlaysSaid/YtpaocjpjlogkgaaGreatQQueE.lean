/-
  Words and contracts of this claim, 4 texts laid into one, each under its own remark. No conditions but those that stand at each.
-/
import Derived.Test.YtpaocjpjlogkgaaGreatQWords
import Derived.Test.YtpaocjpjlogkgaaGreatQQueP
import Derived.OwnWalk
import Derived.Shelf.Abstract
namespace Go.Proofs.YtpaocjpjlogkgaaGreat
set_option maxRecDepth 100000
set_option maxHeartbeats 32000000
open Go
open Go.Lib (hid)
section
open Go.RowKit
theorem gr_next {l:List Wnt} {k:Nat} {x y:Wnt} (hy:l[k]? = some y) (hx:l[k + 1]? = some x):decide (k + 1 < havW l)=(!x.excl && decide (k < havW l) && !y.excl):=by
 have hk:k + 1 < l.length:=by
  rcases Nat.lt_or_ge (k + 1) l.length with h | h
  ·exact h
  ·rw [List.getElem?_eq_none h] at hx;cases hx
 have:=has_succ (K:=keysN l) (i:=k) (by rw [keys_length];exact hk)
 rw [hav_has hk,hav_has (by omega),keyAt_keys hx,keyAt_keys hy] at this
 exact this
theorem told_prev {l:List Wnt} {k:Nat} {y:Wnt} (hy:l[k]? = some y):(toldW l (k + 1))[k]? = some ⟨y.seq,y.excl,decide (k < havW l)⟩:=by
 have hk:k < l.length:=by
  rcases Nat.lt_or_ge k l.length with h | h
  ·exact h
  ·rw [List.getElem?_eq_none h] at hy;cases hy
 unfold toldW
 rw [List.getElem?_append_left (by rw [List.length_take,gr_length];omega),List.getElem?_take,if_pos (by omega),gr_at hy]
theorem grant_any (l:List Wnt) (A:Option Addr) (n c B:Nat) (w:World) (h:Wnts w A c l) (hN:l.length=n) (hB:B≤w.heap.size) (hz:n≤100000) :
  Calls Tryz.prog 104 #[.slice A n c] w fun e w'=>∃ A' k,e=.returned (.slice A' n k)∧OwnW B w' A' n k (grK (keysN l))∧Below B w w':=by
 obtain ⟨i0,hi,hz0,hz1,hz2⟩:=infoWnt
 have BA:=below_alloc1 w (.cells #[] 136)
 have hs:=h.below BA
 unfold Wnts at hs
 rw [hN] at hs
 have SL:=hid hs
 have B0:=hid (BA.mono hB)
 have ho:=World.ownsRow_lit (e:=136) (size:=3) w #[] 0 (Nat.le_refl w.heap.size) (by decide) rfl
 have O0:=hid (own_lower ho hB)
 have hs0:B≤(w.alloc (.cells #[] 136)).heap.size:=by rw [World.size_alloc];omega
 have HN:=hid hN
 clear h hN hs BA ho
 go_enter Tryz.func104,Tryz.ntmps104
 go_wp2_with (at_builtin;go_must (refine append_sl rfl _ _ _ rfl B 136 i0 _ 3 16 Tryz.underlying98 hi hz0 hz1 hz2 rfl (by decide) _ 0 _ rfl O0.out A n c _ rfl SL.out (wntsW_one l) (by unfold maxLen;omega) (by omega) hs0 ?_;intro v' w1 hown hgr))
 obtain ⟨A',k',rfl,-⟩:=Sl.own hown
 simp only [Nat.zero_add,List.nil_append] at hown
 have O1:Hid (OwnW B w1 A' n k' l):=hid ⟨HN.out,hown⟩
 have C1:=hid (B0.out.grown hgr hs0 (fun b hb=>own_ge O0.out hb))
 have hcap:=O1.out.cap
 clear hown hgr
 rw [Nat.zero_add]
 go_loopw [4] (fun cc wr=>∃ i:Nat,i≤n∧cc=.int .i64 i∧Hid (OwnW B wr A' n k' (toldW l i))∧Hid (Below B w wr)) (fun cc _=>n - (intOf cc).toNat)
 case atStart=>exact ⟨0,Nat.zero_le _,rfl,hid (by rw [toldW_zero];exact O1.out),C1⟩
 case round=>
  obtain ⟨i,hin,rfl,HO,HB⟩:=hrel
  by_cases hlt:i < n
  ·have d1:(i:Int) < (n:Int):=by omega
   have d2:(i:Int) < (k':Int):=by omega
   obtain ⟨x,hx⟩:=wnt_at (l:=l) (i:=i) (by rw [HN.out];exact hlt)
   obtain ⟨g,rfl,hg,hgl,hf,x0,x1,x2⟩:=HO.out.at (toldW_at hx)
   have hnx:=HO.out.setHas (toldW_at hx) (decide (i < havW l))
   rw [toldW_succ hx] at hnx
   have HX:=hid hx
   rcases Nat.eq_zero_or_pos i with rfl | hpos
   ·have e1:decide (0 < havW l)=true:=decide_eq_true (hav_one (by rw [HN.out];exact hlt))
    rw [e1] at hnx
    have HNX:=hid hnx
    have BN:=hid (HB.out.setCell (p:=⟨g,0 * 3 + 2,none⟩) hg (.bool true))
    clear hx hnx e1
    go_wp2
    go_roundw
    case rel=>exact ⟨1,by omega,by go_num,HNX,BN⟩
    case measure=>simp [intOf];omega
   ·obtain ⟨k,rfl⟩:∃ k,i=k + 1:=⟨i - 1,by omega⟩
    obtain ⟨y,hy⟩:=wnt_at (l:=l) (i:=k) (by rw [HN.out];omega)
    obtain ⟨g2,hg2,-,-,-,y0,y1,y2⟩:=HO.out.at (told_prev hy)
    injection hg2 with hg2
    injection hg2 with hg2
    subst hg2
    rw [gr_next hy hx] at hnx
    have HNX:=hid hnx
    have BN:=hid (fun b:Bool=>HB.out.setCell (p:=⟨g,(k + 1) * 3 + 2,none⟩) hg (.bool b))
    have d3:(k:Int) < (n:Int):=by omega
    have d4:(k:Int) < (k':Int):=by omega
    have d5:¬ (k:Int) + 1=0:=by omega
    simp only at y0 y1 y2
    generalize decide (k < havW l)=b at *
    obtain ⟨sx,ax,bx⟩:=x
    obtain ⟨sy,ay,by'⟩:=y
    simp only at x0 x1 x2 y0 y1 y2 HNX
    clear hx hnx hy
    cases ax with
    | true=>
     have HN2:Hid (OwnW B (wr.setCell ⟨g,(k + 1) * 3 + 2,none⟩ (.bool false)) (some ⟨g,0,none⟩) n k' (toldW l (k + 1 + 1))):=HNX
     clear HNX
     go_wp2
     go_roundw
     case rel=>exact ⟨k + 1 + 1,by omega,by go_num,HN2,hid (BN.out false)⟩
     case measure=>simp [intOf];omega
    | false=>
     cases b with
     | false=>
      have HN2:Hid (OwnW B (wr.setCell ⟨g,(k + 1) * 3 + 2,none⟩ (.bool false)) (some ⟨g,0,none⟩) n k' (toldW l (k + 1 + 1))):=HNX
      clear HNX
      go_wp2
      go_roundw
      case rel=>exact ⟨k + 1 + 1,by omega,by go_num,HN2,hid (BN.out false)⟩
      case measure=>simp [intOf];omega
     | true=>
      have HN2:Hid (OwnW B (wr.setCell ⟨g,(k + 1) * 3 + 2,none⟩ (.bool (!ay))) (some ⟨g,0,none⟩) n k' (toldW l (k + 1 + 1))):=HNX
      clear HNX
      go_wp2
      go_roundw
      case rel=>exact ⟨k + 1 + 1,by omega,by go_num,HN2,hid (BN.out (!ay))⟩
      case measure=>simp [intOf];omega
  ·obtain rfl:i=n:=by omega
   clear hlt
   go_wp2
   go_ret
   refine ⟨_,_,rfl,?_,HB.out⟩
   have:=HO.out
   rw [← HN.out,toldW_all] at this
   rw [← HN.out]
   exact this
theorem rask_any (l:List Wnt) (A:Option Addr) (n c:Nat) (s:Int) (ex:Bool) (w:World) (h:Wnts w A c l) (hN:l.length=n) (hz:n≤10000) :
  Calls Tryz.prog 67 #[.slice A n c,.int .i64 s,.bool ex] w (WnPost (askN l s ex) w):=by
 obtain ⟨i0,hi,hz0,hz1,hz2⟩:=infoWnt
 have BA:=below_alloc1 w (.cells #[] 136)
 have hs:=h.below BA
 unfold Wnts at hs
 rw [hN] at hs
 have SL:=hid hs
 have B0:=hid BA
 have O0:=hid (World.ownsRow_lit (e:=136) (size:=3) w #[] 0 (Nat.le_refl w.heap.size) (by decide) rfl)
 have hs0:w.heap.size≤(w.alloc (.cells #[] 136)).heap.size:=by rw [World.size_alloc];omega
 have HN:=hid hN
 have m1:True:=trivial
 clear h hN hs BA
 go_enter Tryz.func67,Tryz.ntmps67
 go_wp2_with (first
  | (at_builtin;clear m1;go_must (refine append_sl rfl _ _ _ rfl w.heap.size 136 i0 _ 3 16 Tryz.underlying98 hi hz0 hz1 hz2 rfl (by decide) _ 0 _ rfl O0.out A n c _ rfl SL.out (wntsW_one l) (by unfold maxLen;omega) (by omega) hs0 ?_;intro v' w1 hown hgr;obtain ⟨A1,k1,rfl,-⟩:=Sl.own hown;simp only [Nat.zero_add,List.nil_append] at hown;have O1:=hid (own_below hown (below_alloc1 w1 (.cells (wnV s ex false) 136)));have C0:=hid (B0.out.grown hgr hs0 (fun b hb=>own_ge O0.out hb));have C1:=hid (bnext C0.out (below_alloc1 w1 (.cells (wnV s ex false) 136)));have V1:=hid (Bk.new w1 136 (wnV s ex false));have Z1:=C1.out.size;clear hown hgr))
  | (at_builtin;go_must (refine append_row rfl _ _ _ rfl w.heap.size 136 i0 _ 3 16 Tryz.underlying98 hi hz0 hz1 hz2 rfl (by decide) _ n _ rfl O1.out w1.heap.size (wnV s ex false) rfl V1.out rfl rfl (by unfold maxLen;omega) (by omega) Z1 ?_;intro g2 k2 w2 hown hgr;have O2:=hid hown;have C2:=hid (C1.out.grown hgr Z1 (fun b hb=>own_ge O1.out hb));have hgw:=hid (grant_any (l ++ [⟨s,ex,false⟩]) (some ⟨g2,0,none⟩) (n + 1) k2 w.heap.size w2 (by have:=Sl.own' hown;unfold Wnts;rw [wntsW_append,List.length_append,HN.out,wntsW_sing];exact this) (by rw [List.length_append,HN.out];rfl) C2.out.size (by omega));clear hown hgr))
  | (go_at_call 104;go_must ((with_reducible refine hgw.out.mono ?_);rintro e w3 ⟨A3,k3,rfl,hO,hb3⟩;have O3:=hid hO;have C3:=hid (C2.out.trans hb3);clear hO hb3)))
 go_ret
 refine ⟨_,_,_,rfl,?_,C3.out⟩
 rw [← askN_told]
 exact O3.out
end
section
open Go.RowKit
theorem hasS_no {l:List Wnt} {i:Nat} {s:Int} {x:Wnt} (h:∀ j y,j < i→l[j]? = some y→(decide (y.seq=s) && y.has)=false) (hx:l[i]? = some x) (hp:(decide (x.seq=s) && x.has)=false):∀ j y,j < i + 1→l[j]? = some y→(decide (y.seq=s) && y.has)=false:=fun j y hj hy=>by
 by_cases he:j=i
 ·subst he
  rw [hx] at hy
  injection hy with hy
  rw [← hy]
  exact hp
 ·exact h j y (by omega) hy
theorem rhas_any (l:List Wnt) (A:Option Addr) (n c:Nat) (s:Int) (w:World) (h:Wnts w A c l) (hN:l.length=n) (hz:n≤100000) :
  Calls Tryz.prog 76 #[.slice A n c,.int .i64 s] w fun e w'=>e=.returned (.bool (hasS l s))∧Below w.heap.size w w':=by
 have H:=hid h
 have HN:=hid hN
 have hnc:n≤c:=by have:=h.2.1;omega
 obtain ⟨r,hr⟩:∃ r,r=hasS l s:=⟨_,rfl⟩
 rw [← hr]
 have R:=hid hr
 clear h hN hr
 go_enter Tryz.func76,Tryz.ntmps76
 go_wp2
 go_loop [5] (fun cc=>∃ i:Nat,i≤n∧cc=.int .i64 i∧Hid (∀ j y,j < i→l[j]? = some y→(decide (y.seq=s) && y.has)=false)) (fun cc=>n - (intOf cc).toNat)
 case atStart=>exact ⟨0,Nat.zero_le _,rfl,hid (fun j y hj=>absurd hj (by omega))⟩
 case round=>
  obtain ⟨i,hi,rfl,HB⟩:=hrel
  by_cases hlt:i < n
  ·have d1:(i:Int) < (n:Int):=by omega
   have d2:(i:Int) < (c:Int):=by omega
   obtain ⟨x,hx⟩:=wnt_at (l:=l) (i:=i) (by rw [HN.out];exact hlt)
   obtain ⟨bb,off,rfl,hbl,x0,x1,x2⟩:=Wnts.at H.out hx
   obtain ⟨sx,ax,bx⟩:=x
   by_cases hs:sx=s
   ·have e1:(sx == s)=true:=by simp [hs]
    cases bx with
    | true=>
     obtain rfl:true=r:=by
      rw [R.out]
      exact (List.any_eq_true.2 ⟨_,List.mem_of_getElem? hx,by simp [hs]⟩).symm
     clear hx hs
     go_wp2
     go_ret
     exact ⟨rfl,Below.refl _ _⟩
    | false=>
     have HB2:=hid (hasS_no HB.out hx (by simp))
     clear hx hs
     go_wp2
     go_round
     case rel=>exact ⟨i + 1,by omega,by go_num,HB2⟩
     case measure=>simp [intOf];omega
   ·have e1:(sx == s)=false:=beq_eq_false_iff_ne.2 hs
    have HB2:=hid (hasS_no HB.out hx (by simp [hs]))
    clear hx hs
    go_wp2
    go_round
    case rel=>exact ⟨i + 1,by omega,by go_num,HB2⟩
    case measure=>simp [intOf];omega
  ·obtain rfl:i=n:=by omega
   obtain rfl:false=r:=by
    rw [R.out]
    refine (List.any_eq_false.2 fun y hy=>?_).symm
    obtain ⟨j,hj⟩:=List.getElem?_of_mem hy
    have hjl:j < l.length:=by
     rcases Nat.lt_or_ge j l.length with h | h
     ·exact h
     ·rw [List.getElem?_eq_none h] at hj;cases hj
    rw [HB.out j y (by rw [← HN.out];exact hjl) hj]
    decide
   clear hlt
   go_wp2
   go_ret
   exact ⟨rfl,Below.refl _ _⟩
end
section
open Go.RowKit Go.Shelf
def PredW (p:Wnt→Bool) (fn:Nat) (lb:Array Value) (w:World):Prop:=
 ∀ (x:Wnt) (W:World),Below w.heap.size w W→Calls Tryz.prog fn (#[.agg (wnV x.seq x.excl x.has)] ++ lb) W fun e w'=>e=.returned (.bool (p x))∧Below W.heap.size W w'
theorem idxW_any (l:List Wnt) (p:Wnt→Bool) (fn:Nat) (lb:Array Value) (eg:∀ args w,(callFunc fn args).run Tryz.prog w=.ok (.enter fn args) w) (A:Option Addr) (n c:Nat) (w:World) (h:Wnts w A c l) (hN:l.length=n) (hz:n≤100000) (hp:PredW p fn lb w) :
  Calls Tryz.prog 138 #[.slice A n c,.func (.func fn) #[] lb] w fun e w'=>e=.returned (.int .i64 (idxP p l))∧Below w.heap.size w w':=by
 have hc:n≤c:=by have:=h.2.1;omega
 have h':=hid h
 have hN':=hid hN
 have hp':=hid hp
 obtain ⟨r,hr⟩:∃ r,r=idxP p l:=⟨_,rfl⟩
 rw [← hr]
 have hr':=hid hr
 clear h hN hp hr
 go_enter Tryz.func138,Tryz.ntmps138
 go_wp2
 go_loopw [8] (fun cc wr=>∃ i:Nat,i≤n∧cc=.int .i64 i∧Hid (∀ j y,j < i→l[j]? = some y→p y=false)∧Hid (Below w.heap.size w wr)) (fun cc _=>n - (intOf cc).toNat)
 case atStart=>exact ⟨0,Nat.zero_le _,rfl,hid (fun j y hj=>absurd hj (by omega)),hid (Below.refl _ _)⟩
 case round=>
  obtain ⟨i,hi,rfl,HB,HW⟩:=hrel
  by_cases hlt:i < n
  ·have d1:(i:Int) < (n:Int):=by omega
   have d2:(i:Int) < (c:Int):=by omega
   obtain ⟨x,hx⟩:=wnt_at (l:=l) (i:=i) (by rw [hN'.out];exact hlt)
   obtain ⟨bb,off,rfl,hbl,x0,x1,x2⟩:=Wnts.at (h'.out.below HW.out) hx
   have hcall:=hid (hp'.out x wr HW.out)
   have hx':=hid hx
   clear hx
   cases hq:p x with
   | true=>
    rw [hq] at hcall
    obtain rfl:(i:Int)=r:=by rw [hr'.out];exact (idxP_at hx'.out hq HB.out).symm
    clear hq
    go_wp2_with (go_at_fn fn;go_must (refine hcall.out.mono ?_;rintro e w1 ⟨rfl,hb1⟩;have B1:=hid (bnext HW.out hb1);clear hb1))
    go_ret
    exact ⟨rfl,B1.out⟩
   | false=>
    rw [hq] at hcall
    have HB2:Hid (∀ j y,j < i + 1→l[j]? = some y→p y=false):=hid (fun j y hj hy=>by
     by_cases he:j=i
     ·subst he
      have:=hx'.out
      rw [hy] at this
      injection this with this
      rw [this]
      exact hq
     ·exact HB.out j y (by omega) hy)
    clear hq
    go_wp2_with (go_at_fn fn;go_must (refine hcall.out.mono ?_;rintro e w1 ⟨rfl,hb1⟩;have B1:=hid (bnext HW.out hb1);clear hb1))
    go_roundw
    case rel=>exact ⟨i + 1,by omega,by go_num,HB2,B1⟩
    case measure=>simp [intOf];omega
  ·obtain rfl:i=n:=by omega
   obtain rfl : -1=r:=by
    rw [hr'.out]
    exact (idxP_none fun j y hj hy=>HB.out j y (by rw [← hN'.out];exact hj) hy).symm
   clear hlt
   go_wp2
   go_ret
   exact ⟨rfl,HW.out⟩
theorem conW_any (l:List Wnt) (p:Wnt→Bool) (fn:Nat) (lb:Array Value) (eg:∀ args w,(callFunc fn args).run Tryz.prog w=.ok (.enter fn args) w) (A:Option Addr) (n c:Nat) (w:World) (h:Wnts w A c l) (hN:l.length=n) (hz:n≤100000) (hp:PredW p fn lb w) :
  Calls Tryz.prog 124 #[.slice A n c,.func (.func fn) #[] lb] w fun e w'=>e=.returned (.bool (l.any p))∧Below w.heap.size w w':=by
 have hi:=hid (idxW_any l p fn lb eg A n c w h hN hz hp)
 rw [← idxP_any]
 obtain ⟨r,hr⟩:∃ r,r=idxP p l:=⟨_,rfl⟩
 rw [← hr] at hi ⊢
 clear h hN hp hr
 go_enter Tryz.func124,Tryz.ntmps124
 go_wp2_with (go_at_call 138;go_must ((with_reducible refine hi.out.mono ?_);rintro e w1 ⟨rfl,hb1⟩;have B1:=hid hb1;clear hb1))
 go_ret
 exact ⟨rfl,B1.out⟩
end
section
open Go.RowKit Go.Shelf
theorem having1_any (x:Wnt) (w:World):Calls Tryz.prog 139 #[.agg (wnV x.seq x.excl x.has)] w fun e w'=>e=.returned (.bool x.excl)∧Below w.heap.size w w':=by
 have B0:=hid (below_alloc1 w (.cells (wnV x.seq x.excl x.has) 136))
 go_enter Tryz.func139,Tryz.ntmps139
 go_wp2
 go_ret
 exact ⟨rfl,B0.out⟩
theorem has1_any (x:Wnt) (s:Int) (g:Nat) (w:World) (hg:w.cell? ⟨g,0,none⟩=some (.int .i64 s)) (hl:g < w.heap.size):Calls Tryz.prog 123 #[.agg (wnV x.seq x.excl x.has),.pointer (some ⟨g,0,none⟩)] w fun e w'=>e=.returned (.bool (decide (x.seq=s)))∧Below w.heap.size w w':=by
 have B0:=hid (below_alloc1 w (.cells (wnV x.seq x.excl x.has) 136))
 have hne:g≠w.heap.size:=by omega
 go_enter Tryz.func123,Tryz.ntmps123
 go_wp2
 go_ret
 exact ⟨by simp [BEq.beq],B0.out⟩
theorem egHaving:∀ args w,(callFunc 139 args).run Tryz.prog w=.ok (.enter 139 args) w:=enters_of Tryz.func139 (by kernel_rfl) rfl
theorem egHas:∀ args w,(callFunc 123 args).run Tryz.prog w=.ok (.enter 123 args) w:=enters_of Tryz.func123 (by kernel_rfl) rfl
theorem having_any (l:List Wnt) (A:Option Addr) (n c:Nat) (w:World) (h:Wnts w A c l) (hN:l.length=n) (hz:n≤100000) :
  Calls Tryz.prog 121 #[.slice A n c] w fun e w'=>e=.returned (.int .i64 (havW l:Nat))∧Below w.heap.size w w':=by
 have hi:=hid (idxW_any l Wnt.excl 139 #[] egHaving A n c w h hN hz (fun x W _=>having1_any x W))
 rcases idxP_is Wnt.excl l with ⟨h1,-⟩ | ⟨i,x,h1,h2,-⟩
 ·have hh:havW l=n:=by unfold havW;rw [h1,if_pos (by omega)];exact hN
  rw [h1] at hi
  rw [hh]
  clear h hN h1 hh
  go_enter Tryz.func121,Tryz.ntmps121
  go_wp2_with (go_at_call 138;go_must ((with_reducible refine hi.out.mono ?_);rintro e w1 ⟨rfl,hb1⟩;have B1:=hid hb1;clear hb1))
  go_ret
  exact ⟨rfl,B1.out⟩
 ·have hh:havW l=max i 1:=by unfold havW;rw [h1,if_neg (by omega),Int.toNat_natCast]
  have hi0:(0:Int)≤(i:Int):=by omega
  have hin:i < n:=by omega
  rw [h1] at hi
  rw [hh]
  clear h hN h1 hh h2
  obtain ⟨k,hk⟩:∃ k:Nat,k=max i 1:=⟨_,rfl⟩
  rw [← hk]
  have K:=hid hk
  clear hk
  go_enter Tryz.func121,Tryz.ntmps121
  go_wp2_with (go_at_call 138;go_must ((with_reducible refine hi.out.mono ?_);rintro e w1 ⟨rfl,hb1⟩;have B1:=hid hb1;clear hb1))
  all_goals go_ret
  all_goals exact ⟨congrArg (fun z:Int=>Ending.returned (.int .i64 z)) (by have:=K.out;omega),B1.out⟩
theorem has_any (l:List Wnt) (A:Option Addr) (n c:Nat) (s:Int) (w:World) (h:Wnts w A c l) (hN:l.length=n) (hz:n≤10000) :
  Calls Tryz.prog 108 #[.slice A n c,.int .i64 s] w fun e w'=>e=.returned (.bool (hasO l s))∧Below w.heap.size w w':=by
 have B0:=hid (below_alloc1 w (.cells #[.int .i64 s] 3))
 have V0:=hid (Bk.new w 3 #[.int .i64 s])
 have hav:=hid (having_any l A n c _ (h.below B0.out) hN (by omega))
 have hle:=havW_le l
 rw [hN] at hle
 have hnc:n≤c:=by have:=h.2.1;omega
 have hcon:Hid (∀ (W:World),Below (w.alloc (.cells #[.int .i64 s] 3)).heap.size (w.alloc (.cells #[.int .i64 s] 3)) W→Calls Tryz.prog 124 #[.slice A (havW l) c,.func (.func 123) #[] #[.pointer (some ⟨w.heap.size,0,none⟩)]] W
   fun e w'=>e=.returned (.bool (hasO l s))∧Below W.heap.size W w'):=hid (fun W hW=>by
  have hS:=(h.below B0.out).below hW
  have hT:Wnts W A c (l.take (havW l)):=by
   unfold Wnts at hS ⊢
   rw [List.length_take,Nat.min_eq_left (havW_le l)]
   have h1:=hS.2.1
   refine ⟨by rw [wntsW_length,List.length_take,Nat.min_eq_left (havW_le l)],by omega,fun e=>?_,fun h0=>?_⟩
   ·have:=hS.2.2.1 e
    omega
   ·obtain ⟨b,off,e,hb,hc⟩:=hS.2.2.2 (by omega)
    refine ⟨b,off,e,hb,fun j hj=>?_⟩
    rw [hc j (by omega),← wntsW_take,List.getElem?_take,if_pos hj]
  exact conW_any (l.take (havW l)) (fun x=>decide (x.seq=s)) 123 #[.pointer (some ⟨w.heap.size,0,none⟩)] egHas A (havW l) c W hT (by rw [List.length_take,Nat.min_eq_left (havW_le l)]) (by omega)
   (fun x V hV=>has1_any x s w.heap.size V (((V0.out.below hW).below hV).cell 0) ((V0.out.below hW).below hV).lt))
 obtain ⟨m,hm⟩:∃ m,m=havW l:=⟨_,rfl⟩
 rw [← hm] at hav hcon hle
 clear h hN hm
 go_enter Tryz.func108,Tryz.ntmps108
 go_wp2_with (first
  | (go_at_call 121;go_must ((with_reducible refine hav.out.mono ?_);rintro e w1 ⟨rfl,hb1⟩;have C1:=hid hb1;clear hb1))
  | (go_at_call 124;go_must ((with_reducible refine (hcon.out _ C1.out).mono ?_);rintro e w2 ⟨rfl,hb2⟩;have C2:=hid (bnext (bnext B0.out C1.out) hb2);clear hb2)))
 go_ret
 exact ⟨rfl,C2.out⟩
end
end Go.Proofs.YtpaocjpjlogkgaaGreat
