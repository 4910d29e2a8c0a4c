/-
  What foremanref15.Ready answers, in whatever memory, of commands whose blocks are there. No conditions but those that stand there.
-/
import Derived.Test.YtpaocjpjlogkgaaGreatQWords
import Derived.Test.YtpaocjpjlogkgaaGreatQQueE
import Derived.Test.YtpaocjpjlogkgaaGreatQRely
import Derived.BigQuiet
namespace Go.Proofs.YtpaocjpjlogkgaaGreat
open Go.RowKit
set_option maxRecDepth 100000
attribute [local go_sem] look findAt
attribute [local simp] depsOf isV Region.binds
section
variable (c:Cmd) (ra:Option Addr) (nr rc:Nat) (wa:Option Addr) (nw wc:Nat) (aa:Option Addr) (na ac:Nat) (fuel:Int) (ca:Option Addr) (nc cc:Nat) (L:Lks) (A:Option Addr) (n k:Nat) (s:Int)
theorem all_int {l:List Int} {p:Int→Bool} (h:∀ (i:Nat) (x:Int),l[i]? = some x→p x=true):l.all p=true:=by
 rw [List.all_eq_true]
 intro x hx
 obtain ⟨i,hi⟩:=List.getElem?_of_mem hx
 exact h i x hi
theorem all_no {l:List Int} {p:Int→Bool} {i:Nat} {x:Int} (hx:l[i]? = some x) (hp:p x=false):l.all p=false:=by
 cases e:l.all p with
 | false=>rfl
 | true=>
  rw [List.all_eq_true] at e
  rw [e x (List.mem_of_getElem? hx)] at hp
  cases hp
set_option maxHeartbeats 8000000 in
set_option maxRecDepth 100000 in
theorem rready15_any (w:World) (h:LkSl w A n k L) (hM:∀ b,(lkAt L b).length≤9000) (hc:CmLk w c ra nr rc wa nw wc n) :
  Calls Tryz.prog 41 #[.slice A n k,cmV ra nr rc wa nw wc aa na ac fuel ca nc cc,.int .i64 s] w fun e w'=>e=.returned (.bool (readyL L c s))∧Below w.heap.size w w':=by
 have B0:=below_alloc1 w (CmObj ra nr rc wa nw wc aa na ac fuel ca nc cc)
 have C0:Hid (Bk (w.alloc (CmObj ra nr rc wa nw wc aa na ac fuel ca nc cc)) w.heap.size 56 #[.slice ra nr rc,.slice wa nw wc,.slice aa na ac,.int .i64 fuel,.slice ca nc cc]):=Lib.hid (Bk.new w _ _)
 have hc0:=hc.below B0
 have Hreads:=Lib.hid hc0.reads
 have Hwrites:=Lib.hid hc0.writes
 have Nreads:=Lib.hid hc.lr
 have Nwrites:=Lib.hid hc.lw
 have Xreads:=Lib.hid hc.inr
 have Xwrites:=Lib.hid hc.inw
 have h8r:=hc.br
 have h8w:=hc.bw
 have hrc:nr≤rc:=by have:=hc.reads.2.1;rw [hc.lr] at this;exact this
 have hwc:nw≤wc:=by have:=hc.writes.2.1;rw [hc.lw] at this;exact this
 have HL:=Lib.hid (h.below B0)
 have HM:=Lib.hid hM
 have hcap:=h.cap
 have BB:=Lib.hid B0
 have erd:readyL L c s=(c.reads.all (fun b=>hasS (lkAt L b.toNat) s) && c.writes.all (fun b=>hasS (lkAt L b.toNat) s)):=by unfold readyL blocksN;rw [List.all_append]
 obtain ⟨b,hb⟩:∃ b,b=readyL L c s:=⟨_,rfl⟩
 rw [← hb] at erd ⊢
 have noreads:Hid (∀ (i:Nat) (x:Int),c.reads[i]? = some x→hasS (lkAt L x.toNat) s=false→b=false):=Lib.hid (fun i x hx hp=>by rw [erd,all_no (p:=fun b=>hasS (lkAt L b.toNat) s) hx hp,Bool.false_and])
 have nowrites:Hid (∀ (i:Nat) (x:Int),c.writes[i]? = some x→hasS (lkAt L x.toNat) s=false→b=false):=Lib.hid (fun i x hx hp=>by rw [erd,all_no (p:=fun b=>hasS (lkAt L b.toNat) s) hx hp,Bool.and_false])
 have yes:Hid ((∀ (i:Nat) (x:Int),c.reads[i]? = some x→hasS (lkAt L x.toNat) s=true)→(∀ (i:Nat) (x:Int),c.writes[i]? = some x→hasS (lkAt L x.toNat) s=true)→b=true):=Lib.hid (fun h1 h2=>by rw [erd,all_int (p:=fun b=>hasS (lkAt L b.toNat) s) h1,all_int (p:=fun b=>hasS (lkAt L b.toNat) s) h2];rfl)
 obtain ⟨W0,hW0⟩:∃ W,W=w.alloc (CmObj ra nr rc wa nw wc aa na ac fuel ca nc cc):=⟨_,rfl⟩
 rw [← hW0] at C0 Hreads Hwrites HL BB
 have HW0:=Lib.hid hW0
 clear h hM hc hc0 B0 hW0 hb erd
 go_enter Tryz.func41,Tryz.ntmps41
 go_wp2
 rw [← HW0.out]
 go_loopw [7] (fun cc wr=>∃ i:Nat,i≤nr∧cc=.int .i64 i∧Hid (∀ (j:Nat) (x:Int),j < i→c.reads[j]? = some x→hasS (lkAt L x.toNat) s=true)∧Hid (Below W0.heap.size W0 wr)) (fun cc _=>nr - (intOf cc).toNat)
 case atStart=>exact ⟨0,Nat.zero_le _,rfl,Lib.hid (fun j x hj=>absurd hj (by omega)),Lib.hid (Below.refl _ _)⟩
 case round=>
  obtain ⟨i,hi,rfl,HP,HB⟩:=hrel
  obtain ⟨c0,c1,c2,c3,c4,cf⟩:=(C0.out.below HB.out).cmd
  have cl:=(C0.out.below HB.out).lt
  by_cases hlt:i < nr
  ·have d1:(i:Int) < (nr:Int):=by omega
   have d2:(i:Int) < (rc:Int):=by omega
   obtain ⟨bb,off,rfl,hbl,x0⟩:=(Hreads.out.below HB.out).cellAt (j:=i) (by rw [Nreads.out];exact hlt)
   obtain ⟨x,hx,hxm⟩:=int_at (l:=c.reads) (i:=i) (by rw [Nreads.out];exact hlt)
   have hj:=Xreads.out x hxm
   obtain ⟨j,hjj⟩:=Int.eq_ofNat_of_zero_le hj.1
   have hno:=noreads.out i x hx
   rw [hx,Option.getD_some,hjj] at x0
   rw [hjj] at hj hno
   rw [Int.toNat_natCast] at hno
   have hjn:j < n:=by omega
   have e1:(j:Int) < (n:Int):=by omega
   have e2:(j:Int) < (k:Int):=by omega
   obtain ⟨g,off2,A2,m,k2,rfl,hgl,y0,hm,hw,-⟩:=(HL.out.below HB.out).at hjn
   have hmM:m≤9000:=by have h1:=HM.out j;have h2:(lkAt L j).length=m:=hm;omega
   have hh:=Lib.hid (rhas_any (lkAt L j) A2 m k2 s wr hw hm (by omega))
   have HX:=Lib.hid hx
   have HJ:=Lib.hid hjj
   clear hx hj hjj hxm hw hm
   obtain ⟨hb,hhb⟩:∃ hb,hb=hasS (lkAt L j) s:=⟨_,rfl⟩
   rw [← hhb] at hh hno
   have HH:=Lib.hid hhb
   clear hhb
   cases hb with
   | true=>
    have HP2:Hid (∀ (j:Nat) (x:Int),j < i + 1→c.reads[j]? = some x→hasS (lkAt L x.toNat) s=true):=Lib.hid (fun t y ht hy=>by
     by_cases e:t=i
     ·subst e
      have:=HX.out
      rw [hy] at this
      injection this with this
      rw [this,HJ.out,Int.toNat_natCast]
      exact HH.out.symm
     ·exact HP.out t y (by omega) hy)
    clear hno
    go_wp2_with (go_at_call 76;go_must ((with_reducible refine hh.out.mono ?_);rintro e w1 ⟨rfl,hb1⟩;have B1:=Lib.hid (HB.out.trans (hb1.mono HB.out.size));clear hb1;clear c0 c1 c2 c3 c4 cf cl x0 y0 hbl hgl))
    go_roundw
    case rel=>exact ⟨i + 1,by omega,by go_num,HP2,B1⟩
    case measure=>simp [intOf];omega
   | false=>
    obtain rfl:=hno rfl
    clear hno
    go_wp2_with (go_at_call 76;go_must ((with_reducible refine hh.out.mono ?_);rintro e w1 ⟨rfl,hb1⟩;have B1:=Lib.hid (HB.out.trans (hb1.mono HB.out.size));clear hb1;clear c0 c1 c2 c3 c4 cf cl x0 y0 hbl hgl))
    go_ret
    exact ⟨rfl,BB.out.trans (B1.out.mono BB.out.size)⟩
  ·obtain rfl:nr=i:=by omega
   clear hlt
   have RP:=HP
   clear HP
   go_wp2
   clear c0 c1 c2 c3 c4 cf cl
   go_loopw [8] (fun cc wr=>∃ i:Nat,i≤nw∧cc=.int .i64 i∧Hid (∀ (j:Nat) (x:Int),j < i→c.writes[j]? = some x→hasS (lkAt L x.toNat) s=true)∧Hid (Below W0.heap.size W0 wr)) (fun cc _=>nw - (intOf cc).toNat)
   case atStart=>exact ⟨0,Nat.zero_le _,rfl,Lib.hid (fun j x hj=>absurd hj (by omega)),HB⟩
   case round=>
    obtain ⟨i,hi,rfl,HP,HB⟩:=hrel
    obtain ⟨c0,c1,c2,c3,c4,cf⟩:=(C0.out.below HB.out).cmd
    have cl:=(C0.out.below HB.out).lt
    by_cases hlt:i < nw
    ·have d1:(i:Int) < (nw:Int):=by omega
     have d2:(i:Int) < (wc:Int):=by omega
     obtain ⟨bb,off,rfl,hbl,x0⟩:=(Hwrites.out.below HB.out).cellAt (j:=i) (by rw [Nwrites.out];exact hlt)
     obtain ⟨x,hx,hxm⟩:=int_at (l:=c.writes) (i:=i) (by rw [Nwrites.out];exact hlt)
     have hj:=Xwrites.out x hxm
     obtain ⟨j,hjj⟩:=Int.eq_ofNat_of_zero_le hj.1
     have hno:=nowrites.out i x hx
     rw [hx,Option.getD_some,hjj] at x0
     rw [hjj] at hj hno
     rw [Int.toNat_natCast] at hno
     have hjn:j < n:=by omega
     have e1:(j:Int) < (n:Int):=by omega
     have e2:(j:Int) < (k:Int):=by omega
     obtain ⟨g,off2,A2,m,k2,rfl,hgl,y0,hm,hw,-⟩:=(HL.out.below HB.out).at hjn
     have hmM:m≤9000:=by have h1:=HM.out j;have h2:(lkAt L j).length=m:=hm;omega
     have hh:=Lib.hid (rhas_any (lkAt L j) A2 m k2 s wr hw hm (by omega))
     have HX:=Lib.hid hx
     have HJ:=Lib.hid hjj
     clear hx hj hjj hxm hw hm
     obtain ⟨hb,hhb⟩:∃ hb,hb=hasS (lkAt L j) s:=⟨_,rfl⟩
     rw [← hhb] at hh hno
     have HH:=Lib.hid hhb
     clear hhb
     cases hb with
     | true=>
      have HP2:Hid (∀ (j:Nat) (x:Int),j < i + 1→c.writes[j]? = some x→hasS (lkAt L x.toNat) s=true):=Lib.hid (fun t y ht hy=>by
       by_cases e:t=i
       ·subst e
        have:=HX.out
        rw [hy] at this
        injection this with this
        rw [this,HJ.out,Int.toNat_natCast]
        exact HH.out.symm
       ·exact HP.out t y (by omega) hy)
      clear hno
      go_wp2_with (go_at_call 76;go_must ((with_reducible refine hh.out.mono ?_);rintro e w1 ⟨rfl,hb1⟩;have B1:=Lib.hid (HB.out.trans (hb1.mono HB.out.size));clear hb1;clear c0 c1 c2 c3 c4 cf cl x0 y0 hbl hgl))
      go_roundw
      case rel=>exact ⟨i + 1,by omega,by go_num,HP2,B1⟩
      case measure=>simp [intOf];omega
     | false=>
      obtain rfl:=hno rfl
      clear hno
      go_wp2_with (go_at_call 76;go_must ((with_reducible refine hh.out.mono ?_);rintro e w1 ⟨rfl,hb1⟩;have B1:=Lib.hid (HB.out.trans (hb1.mono HB.out.size));clear hb1;clear c0 c1 c2 c3 c4 cf cl x0 y0 hbl hgl))
      go_ret
      exact ⟨rfl,BB.out.trans (B1.out.mono BB.out.size)⟩
    ·obtain rfl:nw=i:=by omega
     clear hlt
     obtain rfl:=yes.out (fun i x hx=>RP.out i x (by
      rcases Nat.lt_or_ge i c.reads.length with q | q
      ·have:=Nreads.out;omega
      ·rw [List.getElem?_eq_none q] at hx;cases hx) hx) (fun i x hx=>HP.out i x (by
      rcases Nat.lt_or_ge i c.writes.length with q | q
      ·have:=Nwrites.out;omega
      ·rw [List.getElem?_eq_none q] at hx;cases hx) hx)
     go_wp2
     go_ret
     exact ⟨rfl,BB.out.trans (HB.out.mono BB.out.size)⟩
end
end Go.Proofs.YtpaocjpjlogkgaaGreat
