/-
  Words and contracts of this claim, 2 texts laid into one, each under its own remark. No conditions but those that stand at each.
-/
import Derived.Test.YtpaocjpjlogkgaaGreatQWords
import Derived.Test.YtpaocjpjlogkgaaGreatZLckBy
import Derived.Test.YtpaocjpjlogkgaaGreatQQueA
import Derived.Test.YtpaocjpjlogkgaaGreatQRely
import Derived.BigQuiet
namespace Go.Proofs.YtpaocjpjlogkgaaGreat
set_option maxRecDepth 100000
set_option maxHeartbeats 32000000
open Go
open Go.Lib (hid)
section
open Go.RowKit Go.Shelf
theorem lclone_any (A:Option Addr) (n c:Nat) (L:Lks) (w:World) (h:LkSl w A n c L) (hn:n≤1000) :
  Calls Tryz.prog 99 #[.slice A n c] w
   fun e w'=>∃ A' c',e=.returned (.slice A' n c')∧LkOwn w.heap.size w' A' n c' L∧Below w.heap.size w w':=by
 obtain ⟨i0,hi,hz0,hz1,hz2⟩:=infoLk
 obtain ⟨hl,vs,hs,hin⟩:=h
 have HA:=hid hs
 have HI:=hid hin
 have HN:=hid hl
 clear hl hs hin
 cases A with
 | none=>
  obtain ⟨rfl,rfl⟩:=HA.out.2.2.1 rfl
  have hq:=Lib.run_eql_slice_nil (P:=Tryz.prog) w 27 98 none 0 0 0 0 Tryz.underlying27
  go_enter Tryz.func99,Tryz.ntmps99
  go_wp2
  go_ret
  exact ⟨none,0,rfl,⟨HN.out,vs,⟨HA.out.1,.inl ⟨rfl,rfl⟩⟩,HI.out⟩,Below.refl _ _⟩
 | some a=>
  have hq:=Lib.run_eql_slice_nil (P:=Tryz.prog) w 27 98 (some a) n c 0 0 Tryz.underlying27
  go_enter Tryz.func99,Tryz.ntmps99
  go_wp2_with (at_builtin;go_must (refine wpList_append_own _ rfl (.tmp 5) (.tmp 6) _ rfl w.heap.size 98 i0 _ 1 24 Tryz.underlying27 hi hz0 hz1 hz2 rfl (by decide) _ 0 [] rfl (World.ownsRow_lit w #[] 0 (Nat.le_refl _) (by decide) rfl) a n c vs rfl HA.out.1 ((HA.out.alloc _).olds a rfl) HI.out.one (by unfold maxLen;omega) (by omega) (by simp) ?_;intro v' w1 hown hg hnil))
  obtain ⟨A',c',rfl,hsl⟩:=Sl.own hown
  simp only [Nat.zero_add,List.nil_append] at hown
  have hb1:=((Below.refl w.heap.size w).alloc (Nat.le_refl _) (.cells #[] 98)).grown hg (by simp) (fun k hk=>by
   have hk':(Value.slice (some ⟨w.heap.size,0,none⟩) 0 0).ownBlock=some k:=hk
   simp [Value.ownBlock] at hk'
   omega)
  go_wp2
  go_ret
  exact ⟨A',c',by simp,⟨HN.out,vs,hown,HI.out.below hb1⟩,hb1⟩
theorem copied_any (A:Option Addr) (n c:Nat) (L:Lks) (w:World) (h:LkSl w A n c L) (hn:n≤1000) (hM:∀ b,(lkAt L b).length≤9000) :
  Calls Tryz.prog 60 #[.slice A n c] w fun e w'=>∃ A' c',e=.returned (.slice A' n c')∧LkOwn w.heap.size w' A' n c' L∧Below w.heap.size w w':=by
 have hcl:=hid (lclone_any A n c L w h hn)
 have HM:=hid hM
 clear h hM
 go_enter Tryz.func60,Tryz.ntmps60
 go_wp2_with (go_at_call 99;go_must ((with_reducible refine hcl.out.mono ?_);rintro e w1 ⟨A1,c1,rfl,hO,hb1⟩;have O1:=hid hO;have B1:=hid hb1;clear hO hb1))
 have hcap:=O1.out.cap
 go_loopw [8] (fun cc wr=>∃ i:Nat,i≤n∧cc=.int .i64 i∧Hid (LkOwn w.heap.size wr A1 n c1 L)∧Hid (Below w.heap.size w wr)) (fun cc _=>n - (intOf cc).toNat)
 case atStart=>exact ⟨0,Nat.zero_le _,rfl,O1,B1⟩
 case round=>
  obtain ⟨i,hi,rfl,HO,HB⟩:=hrel
  by_cases hlt:i < n
  ·have d1:(i:Int) < (n:Int):=by omega
   have d2:(i:Int) < (c1:Int):=by omega
   obtain ⟨g,A',m,k,rfl,hg,hgl,hf,x0,hm,hw⟩:=HO.out.at hlt
   have hmM:m≤9000:=by have:=HM.out i;omega
   have hc:=hid (clone_wnts A' m k (lkAt L i) wr hw hm (by omega))
   clear hw
   go_wp2_with (go_at_call 100;go_must ((with_reducible refine hc.out.mono ?_);rintro e w2 ⟨A2,k2,rfl,hO,hb2⟩;obtain ⟨g',A3,m3,k3,hA3,-,hgl2,hf2,x2,-,-⟩:=(HO.out.below hb2).at hlt;injection hA3 with hA3;injection hA3 with hA3;subst hA3;have O2:=hid ((HO.out.below hb2).set (by omega) (isWn.own hO) (i:=i));have B2:=hid ((HB.out.trans (hb2.mono HB.out.size)).setCell (p:=⟨g,i,none⟩) hg (.slice A2 m k2));clear hO hb2))
   go_roundw
   case rel=>exact ⟨i + 1,by omega,by go_num,hid (by have:=O2.out;rwa [lk_same] at this),B2⟩
   case measure=>simp [intOf];omega
  ·obtain rfl:i=n:=by omega
   clear hlt
   go_wp2
   go_ret
   exact ⟨_,_,rfl,HO.out,HB.out⟩
theorem change_any (f:List Wnt→List Wnt) (hf:∀ l,(f l).length≤l.length + 1) (fn:Nat) (lb:Array Value) (eg:∀ args w,(callFunc fn args).run Tryz.prog w=.ok (.enter fn args) w)
  (bs:List Int) (ba:Option Addr) (nb bc:Nat) (L:Lks) (A:Option Addr) (n c B:Nat) (w0 w:World) (M:Nat) (h:LkOwn B w A n c L) (hB:B=w0.heap.size) (h0:Below B w0 w) (hb:Ints w0 ba bc bs) (hN:bs.length=nb) (hz:nb≤1000) (hin:∀ x∈bs,0≤x∧x < (n:Int))
  (hM:∀ b,(lkAt L b).length≤M) (hp:∀ (A:Option Addr) (m k:Nat) (l:List Wnt) (W:World),Below B w0 W→Wnts W A k l→l.length=m→m≤M + nb→Calls Tryz.prog fn (#[.slice A m k] ++ lb) W (WnPost (f l) W)) :
  Calls Tryz.prog 61 #[.slice A n c,.slice ba nb bc,.func (.func fn) #[] lb] w fun e w'=>(∃ v,e=.returned v)∧LkOwn B w' A n c (turnsL f bs L nb)∧Below B w0 w':=by
 have hbc:nb≤bc:=by have:=hb.2.1;omega
 have hcap:=h.cap
 have H:=hid h
 have H0:=hid h0
 have HI:=hid (fun W (hW:Below B w0 W)=>hb.below (w':=W) (by rw [← hB];exact hW))
 have HN:=hid hN
 have HX:=hid hin
 have HP:=hid hp
 have HM:=hid (turns_max hf bs L hM)
 have hBz:=hid (Nat.le_of_eq hB)
 clear h h0 hb hN hin hp hM hB
 go_enter Tryz.func61,Tryz.ntmps61
 go_wp2
 go_loopw [10] (fun cc wr=>∃ i:Nat,i≤nb∧cc=.int .i64 i∧Hid (LkOwn B wr A n c (turnsL f bs L i))∧Hid (Below B w0 wr)) (fun cc _=>nb - (intOf cc).toNat)
 case atStart=>exact ⟨0,Nat.zero_le _,rfl,H,H0⟩
 case round=>
  obtain ⟨i,hi,rfl,HO,HB⟩:=hrel
  by_cases hlt:i < nb
  ·have d1:(i:Int) < (nb:Int):=by omega
   have d2:(i:Int) < (bc:Int):=by omega
   obtain ⟨bb,off,rfl,hbl,x0⟩:=(HI.out wr HB.out).cellAt (j:=i) (by rw [HN.out];exact hlt)
   obtain ⟨x,hx,hxm⟩:=int_at (l:=bs) (i:=i) (by rw [HN.out];exact hlt)
   have hj:=HX.out x hxm
   obtain ⟨j,hjj⟩:=Int.eq_ofNat_of_zero_le hj.1
   have hstep:turnsL f bs L (i + 1)=(turnsL f bs L i).set j (f (lkAt (turnsL f bs L i) j)):=by
    rw [turnsL,turnL,hx,Option.getD_some,hjj,Int.toNat_natCast]
   rw [hx,Option.getD_some,hjj] at x0
   rw [hjj] at hj
   have hjn:j < n:=by omega
   have e1:(j:Int) < (n:Int):=by omega
   have e2:(j:Int) < (c:Int):=by omega
   have HS:=hid hstep
   clear hstep hx hj hjj hxm
   obtain ⟨g,A',m,k,rfl,hg,hgl,hfz,y0,hm,hw⟩:=HO.out.at hjn
   have hmM:m≤M + nb:=by have:=HM.out i j;omega
   have hh:=hid (fun W=>lhas_any (some ⟨g,0,none⟩) n c (j:Int) (by omega) e1 W)
   have hc:=hid (HP.out A' m k _ wr HB.out hw hm hmM)
   clear hw hm
   go_wp2_with (first
    | (go_at_call 101;(with_reducible refine (hh.out _).mono ?_);go_must (rintro e w1 ⟨rfl,rfl⟩))
    | (go_at_fn fn;go_must (refine hc.out.mono ?_;rintro e w2 ⟨A2,m2,k2,rfl,hO,hb2⟩;obtain ⟨g',A3,m3,k3,hA3,-,hgl2,hf2,x2,-,-⟩:=(HO.out.below hb2).at hjn;injection hA3 with hA3;injection hA3 with hA3;subst hA3;have O2:=hid ((HO.out.below hb2).set (by omega) (isWn.own hO) (i:=j));have B2:=hid ((HB.out.trans (hb2.mono (Nat.le_trans hBz.out HB.out.size))).setCell (p:=⟨g,j,none⟩) hg (.slice A2 m2 k2));clear hO hb2)))
   go_roundw
   case rel=>exact ⟨i + 1,by omega,by go_num,hid (by rw [HS.out];exact O2.out),B2⟩
   case measure=>simp [intOf];omega
  ·obtain rfl:i=nb:=by omega
   clear hlt
   go_wp2
   go_end0
   exact ⟨⟨_,rfl⟩,HO.out,HB.out⟩
theorem ask1_any (l:List Wnt) (A:Option Addr) (m k:Nat) (s:Int) (g:Nat) (w:World) (hg:w.cell? ⟨g,0,none⟩=some (.int .i64 s)) (h:Wnts w A k l) (hN:l.length=m) (hz:m≤10000) :
  Calls Tryz.prog 62 #[.slice A m k,.pointer (some ⟨g,0,none⟩)] w (WnPost (askN l s false) w):=by
 have ha:=hid (ask_any l A m k s false w h hN hz)
 clear h hN
 go_enter Tryz.func62,Tryz.ntmps62
 go_wp2_with (go_at_call 63;go_must ((with_reducible refine ha.out.mono ?_);rintro e w1 ⟨A1,n1,c1,rfl,hO,hb⟩;have O1:=hid hO;have B1:=hid hb;clear hO hb))
 go_ret
 exact ⟨_,_,_,rfl,O1.out,B1.out⟩
theorem ask2_any (l:List Wnt) (A:Option Addr) (m k:Nat) (s:Int) (g:Nat) (w:World) (hg:w.cell? ⟨g,0,none⟩=some (.int .i64 s)) (h:Wnts w A k l) (hN:l.length=m) (hz:m≤10000) :
  Calls Tryz.prog 64 #[.slice A m k,.pointer (some ⟨g,0,none⟩)] w (WnPost (askN l s true) w):=by
 have ha:=hid (ask_any l A m k s true w h hN hz)
 clear h hN
 go_enter Tryz.func64,Tryz.ntmps64
 go_wp2_with (go_at_call 63;go_must ((with_reducible refine ha.out.mono ?_);rintro e w1 ⟨A1,n1,c1,rfl,hO,hb⟩;have O1:=hid hO;have B1:=hid hb;clear hO hb))
 go_ret
 exact ⟨_,_,_,rfl,O1.out,B1.out⟩
theorem givel_any (l:List Wnt) (A:Option Addr) (m k:Nat) (s:Int) (g:Nat) (w:World) (hg:w.cell? ⟨g,0,none⟩=some (.int .i64 s)) (h:Wnts w A k l) (hN:l.length=m) (hz:m≤10000) :
  Calls Tryz.prog 116 #[.slice A m k,.pointer (some ⟨g,0,none⟩)] w (WnPost (giveN l s) w):=by
 have ha:=hid (give_any l A m k s w h hN hz)
 clear h hN
 go_enter Tryz.func116,Tryz.ntmps116
 go_wp2_with (go_at_call 117;go_must ((with_reducible refine ha.out.mono ?_);rintro e w1 ⟨A1,n1,c1,rfl,hO,hb⟩;have O1:=hid hO;have B1:=hid hb;clear hO hb))
 go_ret
 exact ⟨_,_,_,rfl,O1.out,B1.out⟩
theorem egAsk1:∀ args w,(callFunc 62 args).run Tryz.prog w=.ok (.enter 62 args) w:=enters_of Tryz.func62 (by kernel_rfl) rfl
theorem egAsk2:∀ args w,(callFunc 64 args).run Tryz.prog w=.ok (.enter 64 args) w:=enters_of Tryz.func64 (by kernel_rfl) rfl
theorem egGive1:∀ args w,(callFunc 116 args).run Tryz.prog w=.ok (.enter 116 args) w:=enters_of Tryz.func116 (by kernel_rfl) rfl
end
section
open Go.RowKit Go.Shelf
attribute [local go_sem] look findAt
attribute [local simp] depsOf isV Region.binds
section
variable (c:Cmd) (ra:Option Addr) (nr rc:Nat) (wa:Option Addr) (nw wc:Nat) (aa:Option Addr) (na ac:Nat) (fuel:Int) (ca:Option Addr) (nc cc:Nat) (L:Lks) (A:Option Addr) (n k:Nat) (s:Int)
theorem lask_any (w:World) (h:LkSl w A n k L) (hn:n≤1000) (hM:∀ b,(lkAt L b).length≤8000) (hc:CmLk w c ra nr rc wa nw wc n) :
  Calls Tryz.prog 27 #[.slice A n k,cmV ra nr rc wa nw wc aa na ac fuel ca nc cc,.int .i64 s] w (LkPost (asksL L c s) n w):=by
 have B0:=below_alloc1 w (CmObj ra nr rc wa nw wc aa na ac fuel ca nc cc)
 have B1:=below_alloc1 (w.alloc (CmObj ra nr rc wa nw wc aa na ac fuel ca nc cc)) (.cells #[.int .i64 s] 3)
 have BB:=bnext B0 B1
 have C0:Hid (Bk ((w.alloc (CmObj ra nr rc wa nw wc aa na ac fuel ca nc cc)).alloc (.cells #[.int .i64 s] 3)) w.heap.size 56 #[.slice ra nr rc,.slice wa nw wc,.slice aa na ac,.int .i64 fuel,.slice ca nc cc]):=hid ((Bk.new w _ _).below B1)
 have V0:Hid (Bk ((w.alloc (CmObj ra nr rc wa nw wc aa na ac fuel ca nc cc)).alloc (.cells #[.int .i64 s] 3)) (w.heap.size + 1) 3 #[.int .i64 s]):=hid (by have:=Bk.new (w.alloc (CmObj ra nr rc wa nw wc aa na ac fuel ca nc cc)) 3 #[.int .i64 s];rwa [World.size_alloc] at this)
 have h0:=hc.below BB
 have hcl:=copied_any A n k L _ (h.below BB) hn (fun b=>by have:=hM b;omega)
 obtain ⟨W0,hW0⟩:∃ W,W=((w.alloc (CmObj ra nr rc wa nw wc aa na ac fuel ca nc cc)).alloc (.cells #[.int .i64 s] 3)):=⟨_,rfl⟩
 rw [← hW0] at C0 V0 h0 hcl BB
 have hBW:w.heap.size + 1 + 1=W0.heap.size:=by rw [hW0,World.size_alloc,World.size_alloc]
 have hch1:Hid (∀ (W:World) (A1:Option Addr) (k1:Nat),LkOwn (w.heap.size + 1 + 1) W A1 n k1 L→Below (w.heap.size + 1 + 1) W0 W→Calls Tryz.prog 61 #[.slice A1 n k1,.slice ra nr rc,.func (.func 62) #[] #[.pointer (some ⟨w.heap.size + 1,0,none⟩)]] W fun e w'=>(∃ v,e=.returned v)∧LkOwn (w.heap.size + 1 + 1) w' A1 n k1 (turnsL (fun l=>askN l s false) c.reads L nr)∧Below (w.heap.size + 1 + 1) W0 w'):=hid (fun W A1 k1 hO hW=>change_any (fun l=>askN l s false) (fun l=>Nat.le_of_eq (askN_length l s false)) 62 #[.pointer (some ⟨w.heap.size + 1,0,none⟩)] egAsk1 c.reads ra nr rc (L) A1 n k1 (w.heap.size + 1 + 1) W0 W 8000 hO hBW hW (h0.reads) hc.lr (by have:=hc.br;omega) hc.inr hM (fun A m k l V hV hl hN hm=>ask1_any l A m k s (w.heap.size + 1) V (((V0.out.below (by rw [hBW] at hV;exact hV))).cell 0) hl hN (by have:=hc.br;omega)))
 have hch2:Hid (∀ (W:World) (A1:Option Addr) (k1:Nat),LkOwn (w.heap.size + 1 + 1) W A1 n k1 (turnsL (fun l=>askN l s false) c.reads L nr)→Below (w.heap.size + 1 + 1) W0 W→Calls Tryz.prog 61 #[.slice A1 n k1,.slice wa nw wc,.func (.func 64) #[] #[.pointer (some ⟨w.heap.size + 1,0,none⟩)]] W fun e w'=>(∃ v,e=.returned v)∧LkOwn (w.heap.size + 1 + 1) w' A1 n k1 (turnsL (fun l=>askN l s true) c.writes (turnsL (fun l=>askN l s false) c.reads L nr) nw)∧Below (w.heap.size + 1 + 1) W0 w'):=hid (fun W A1 k1 hO hW=>change_any (fun l=>askN l s true) (fun l=>Nat.le_of_eq (askN_length l s true)) 64 #[.pointer (some ⟨w.heap.size + 1,0,none⟩)] egAsk2 c.writes wa nw wc (turnsL (fun l=>askN l s false) c.reads L nr) A1 n k1 (w.heap.size + 1 + 1) W0 W 8008 hO hBW hW (h0.writes) hc.lw (by have:=hc.bw;omega) hc.inw (fun b=>by have h1:=turns_max (f:=fun l=>askN l s false) (fun l=>Nat.le_of_eq (askN_length l s false)) c.reads L hM nr b;have:=hc.br;omega) (fun A m k l V hV hl hN hm=>ask2_any l A m k s (w.heap.size + 1) V (((V0.out.below (by rw [hBW] at hV;exact hV))).cell 0) hl hN (by have:=hc.bw;omega)))
 have hpl:Hid (turnsL (fun l=>askN l s true) c.writes (turnsL (fun l=>askN l s false) c.reads L nr) nw=asksL L c s):=hid (by unfold asksL;rw [hc.lr,hc.lw])
 have CC:Hid (∀ W,Below (w.heap.size + 1 + 1) W0 W→Bk W w.heap.size 56 #[.slice ra nr rc,.slice wa nw wc,.slice aa na ac,.int .i64 fuel,.slice ca nc cc]):=hid (fun W hW=>C0.out.below (by rw [hBW] at hW;exact hW))
 have HBW:=hid hBW
 have HCL:=hid hcl
 have HBB:=hid BB
 clear h hM hc h0 hcl B0 B1 BB hn
 rw [hW0] at HCL HBB hch1 hch2 CC
 rw [World.size_alloc,World.size_alloc] at HCL
 clear C0 V0 hBW HBW hW0
 go_enter Tryz.func27,Tryz.ntmps27
 have m1:True:=trivial
 go_wp2_with (first
  | (go_at_call 60;go_must ((with_reducible refine HCL.out.mono ?_);rintro e w1 ⟨A1,k1,rfl,hO,hb1⟩;have O1:=hid hO;have B1:=hid hb1;obtain ⟨c0,c1,c2,c3,c4,cf⟩:=(CC.out _ hb1).cmd;have cl:=(CC.out _ hb1).lt;clear hO hb1))
  | (go_at_call 61;clear m1;go_must ((with_reducible refine (hch1.out _ _ _ O1.out B1.out).mono ?_);rintro e w2 ⟨⟨v2,rfl⟩,hO,hb2⟩;have O2:=hid hO;have B2:=hid hb2;clear c0 c1 c2 c3 c4 cf cl;obtain ⟨c0,c1,c2,c3,c4,cf⟩:=(CC.out _ hb2).cmd;have cl:=(CC.out _ hb2).lt;clear hO hb2))
  | (go_at_call 61;go_must ((with_reducible refine (hch2.out _ _ _ O2.out B2.out).mono ?_);rintro e w3 ⟨⟨v3,rfl⟩,hO,hb3⟩;have O3:=hid hO;have B3:=hid hb3;clear hO hb3)))
 go_ret
 refine ⟨_,_,rfl,?_,HBB.out.trans (B3.out.mono (by omega))⟩
 rw [← hpl.out]
 exact O3.out.lower (by omega)
theorem lgive_any (w:World) (h:LkSl w A n k L) (hn:n≤1000) (hM:∀ b,(lkAt L b).length≤8000) (hc:CmLk w c ra nr rc wa nw wc n) :
  Calls Tryz.prog 83 #[.slice A n k,cmV ra nr rc wa nw wc aa na ac fuel ca nc cc,.int .i64 s] w (LkPost (givesL L c s) n w):=by
 have B0:=below_alloc1 w (CmObj ra nr rc wa nw wc aa na ac fuel ca nc cc)
 have B1:=below_alloc1 (w.alloc (CmObj ra nr rc wa nw wc aa na ac fuel ca nc cc)) (.cells #[.int .i64 s] 3)
 have BB:=bnext B0 B1
 have C0:Hid (Bk ((w.alloc (CmObj ra nr rc wa nw wc aa na ac fuel ca nc cc)).alloc (.cells #[.int .i64 s] 3)) w.heap.size 56 #[.slice ra nr rc,.slice wa nw wc,.slice aa na ac,.int .i64 fuel,.slice ca nc cc]):=hid ((Bk.new w _ _).below B1)
 have V0:Hid (Bk ((w.alloc (CmObj ra nr rc wa nw wc aa na ac fuel ca nc cc)).alloc (.cells #[.int .i64 s] 3)) (w.heap.size + 1) 3 #[.int .i64 s]):=hid (by have:=Bk.new (w.alloc (CmObj ra nr rc wa nw wc aa na ac fuel ca nc cc)) 3 #[.int .i64 s];rwa [World.size_alloc] at this)
 have h0:=hc.below BB
 have hcl:=copied_any A n k L _ (h.below BB) hn (fun b=>by have:=hM b;omega)
 obtain ⟨W0,hW0⟩:∃ W,W=((w.alloc (CmObj ra nr rc wa nw wc aa na ac fuel ca nc cc)).alloc (.cells #[.int .i64 s] 3)):=⟨_,rfl⟩
 rw [← hW0] at C0 V0 h0 hcl BB
 have hBW:w.heap.size + 1 + 1=W0.heap.size:=by rw [hW0,World.size_alloc,World.size_alloc]
 have hch1:Hid (∀ (W:World) (A1:Option Addr) (k1:Nat),LkOwn (w.heap.size + 1 + 1) W A1 n k1 L→Below (w.heap.size + 1 + 1) W0 W→Calls Tryz.prog 61 #[.slice A1 n k1,.slice ra nr rc,.func (.func 116) #[] #[.pointer (some ⟨w.heap.size + 1,0,none⟩)]] W fun e w'=>(∃ v,e=.returned v)∧LkOwn (w.heap.size + 1 + 1) w' A1 n k1 (turnsL (fun l=>giveN l s) c.reads L nr)∧Below (w.heap.size + 1 + 1) W0 w'):=hid (fun W A1 k1 hO hW=>change_any (fun l=>giveN l s) (fun l=>Nat.le_succ_of_le (giveN_length l s)) 116 #[.pointer (some ⟨w.heap.size + 1,0,none⟩)] egGive1 c.reads ra nr rc (L) A1 n k1 (w.heap.size + 1 + 1) W0 W 8000 hO hBW hW (h0.reads) hc.lr (by have:=hc.br;omega) hc.inr hM (fun A m k l V hV hl hN hm=>givel_any l A m k s (w.heap.size + 1) V (((V0.out.below (by rw [hBW] at hV;exact hV))).cell 0) hl hN (by have:=hc.br;omega)))
 have hch2:Hid (∀ (W:World) (A1:Option Addr) (k1:Nat),LkOwn (w.heap.size + 1 + 1) W A1 n k1 (turnsL (fun l=>giveN l s) c.reads L nr)→Below (w.heap.size + 1 + 1) W0 W→Calls Tryz.prog 61 #[.slice A1 n k1,.slice wa nw wc,.func (.func 116) #[] #[.pointer (some ⟨w.heap.size + 1,0,none⟩)]] W fun e w'=>(∃ v,e=.returned v)∧LkOwn (w.heap.size + 1 + 1) w' A1 n k1 (turnsL (fun l=>giveN l s) c.writes (turnsL (fun l=>giveN l s) c.reads L nr) nw)∧Below (w.heap.size + 1 + 1) W0 w'):=hid (fun W A1 k1 hO hW=>change_any (fun l=>giveN l s) (fun l=>Nat.le_succ_of_le (giveN_length l s)) 116 #[.pointer (some ⟨w.heap.size + 1,0,none⟩)] egGive1 c.writes wa nw wc (turnsL (fun l=>giveN l s) c.reads L nr) A1 n k1 (w.heap.size + 1 + 1) W0 W 8008 hO hBW hW (h0.writes) hc.lw (by have:=hc.bw;omega) hc.inw (fun b=>by have h1:=turns_max (f:=fun l=>giveN l s) (fun l=>Nat.le_succ_of_le (giveN_length l s)) c.reads L hM nr b;have:=hc.br;omega) (fun A m k l V hV hl hN hm=>givel_any l A m k s (w.heap.size + 1) V (((V0.out.below (by rw [hBW] at hV;exact hV))).cell 0) hl hN (by have:=hc.bw;omega)))
 have hpl:Hid (turnsL (fun l=>giveN l s) c.writes (turnsL (fun l=>giveN l s) c.reads L nr) nw=givesL L c s):=hid (by unfold givesL;rw [hc.lr,hc.lw])
 have CC:Hid (∀ W,Below (w.heap.size + 1 + 1) W0 W→Bk W w.heap.size 56 #[.slice ra nr rc,.slice wa nw wc,.slice aa na ac,.int .i64 fuel,.slice ca nc cc]):=hid (fun W hW=>C0.out.below (by rw [hBW] at hW;exact hW))
 have HBW:=hid hBW
 have HCL:=hid hcl
 have HBB:=hid BB
 clear h hM hc h0 hcl B0 B1 BB hn
 rw [hW0] at HCL HBB hch1 hch2 CC
 rw [World.size_alloc,World.size_alloc] at HCL
 clear C0 V0 hBW HBW hW0
 go_enter Tryz.func83,Tryz.ntmps83
 have m1:True:=trivial
 go_wp2_with (first
  | (go_at_call 60;go_must ((with_reducible refine HCL.out.mono ?_);rintro e w1 ⟨A1,k1,rfl,hO,hb1⟩;have O1:=hid hO;have B1:=hid hb1;obtain ⟨c0,c1,c2,c3,c4,cf⟩:=(CC.out _ hb1).cmd;have cl:=(CC.out _ hb1).lt;clear hO hb1))
  | (go_at_call 61;clear m1;go_must ((with_reducible refine (hch1.out _ _ _ O1.out B1.out).mono ?_);rintro e w2 ⟨⟨v2,rfl⟩,hO,hb2⟩;have O2:=hid hO;have B2:=hid hb2;clear c0 c1 c2 c3 c4 cf cl;obtain ⟨c0,c1,c2,c3,c4,cf⟩:=(CC.out _ hb2).cmd;have cl:=(CC.out _ hb2).lt;clear hO hb2))
  | (go_at_call 61;go_must ((with_reducible refine (hch2.out _ _ _ O2.out B2.out).mono ?_);rintro e w3 ⟨⟨v3,rfl⟩,hO,hb3⟩;have O3:=hid hO;have B3:=hid hb3;clear hO hb3)))
 go_ret
 refine ⟨_,_,rfl,?_,HBB.out.trans (B3.out.mono (by omega))⟩
 rw [← hpl.out]
 exact O3.out.lower (by omega)
end
end
end Go.Proofs.YtpaocjpjlogkgaaGreat
