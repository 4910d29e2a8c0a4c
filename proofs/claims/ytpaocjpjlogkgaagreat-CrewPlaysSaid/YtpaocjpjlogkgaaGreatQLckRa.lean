/-
  Words and contracts of this claim, 3 texts laid into one, each under its own remark. No conditions but those that stand at each.
-/
import Derived.Test.YtpaocjpjlogkgaaGreatQWords
import Derived.Test.YtpaocjpjlogkgaaGreatQQueE
import Derived.Test.YtpaocjpjlogkgaaGreatQRely
import Derived.BigQuiet
import Derived.Test.YtpaocjpjlogkgaaGreatZLckRy
namespace Go.Proofs.YtpaocjpjlogkgaaGreat
set_option maxRecDepth 100000
set_option maxHeartbeats 32000000
open Go
open Go.Lib (hid)
section
open Go.RowKit
attribute [local go_sem] look findAt
attribute [local simp] depsOf isV Region.binds
def lwnV (B:Nat) (l:List Wnt):Says:=fun v w=>∃ A n c,v=.slice A n c∧OwnW B w A n c l
theorem lwnV_keep {B:Nat} {l:List Wnt} (v:Value) (w w':World) (hb:Below w.heap.size w w') (h:lwnV B l v w):lwnV B l v w':=by
 obtain ⟨A,n,c,rfl,hO⟩:=h
 exact ⟨A,n,c,rfl,hO.below hb⟩
theorem rnew15_any (n:Nat) (h1:1≤n) (hn:n≤1000) (w:World) :
  Calls Tryz.prog 22 #[.int .i64 (n:Int)] w (LkPost (List.replicate n []) n w):=by
 have hmk:=makeLk w n hn
 have HO:=hid (LkOwn.made w n hn)
 have HB:=hid (below_alloc1 w (.cells (madeCells #[.slice none 0 0] n) 98))
 have d1:(0:Int) < (n:Int):=by omega
 go_enter Tryz.func22,Tryz.ntmps22
 go_wp2
 go_ret
 exact ⟨_,_,rfl,HO.out,HB.out⟩
theorem rwith_any (L:Lks) (l:List Wnt) (A:Option Addr) (n c j:Nat) (A2:Option Addr) (m k:Nat) (w:World) (h:LkSl w A n c L) (hj:j < n) (hn:n≤1000) (hv:isWn w (.slice A2 m k) l) :
  Calls Tryz.prog 66 #[.slice A n c,.int .i64 (j:Int),.slice A2 m k] w (LkPost (L.set j l) n w):=by
 obtain ⟨i0,hi,hz0,hz1,hz2⟩:=infoLk
 obtain ⟨hl,vs,hs,hin⟩:=h
 have d1:(j:Int) < (n:Int):=by omega
 have BA:=below_alloc1 w (.cells #[] 98)
 have SL:=hid (hs.below BA)
 have HI:=hid hin
 have HV:=hid hv
 have B0:=hid BA
 have O0:=hid (World.ownsRow_lit (e:=98) (size:=1) w #[] 0 (Nat.le_refl w.heap.size) (by decide) rfl)
 have hs0:w.heap.size≤(w.alloc (.cells #[] 98)).heap.size:=by rw [World.size_alloc];omega
 have HL:=hid hl
 clear hl hs hin hv BA
 go_enter Tryz.func66,Tryz.ntmps66
 go_wp2_with (at_builtin;go_must (refine append_sl rfl _ _ _ rfl w.heap.size 98 i0 _ 1 24 Tryz.underlying27 hi hz0 hz1 hz2 rfl (by decide) _ 0 _ rfl O0.out A n c _ rfl SL.out HI.out.one (by unfold maxLen;omega) (by omega) hs0 ?_;intro v' w1 hown hgr;obtain ⟨A1,k1,rfl,-⟩:=Sl.own hown;simp only [Nat.zero_add,List.nil_append] at hown;rw [Nat.zero_add];have C1:=hid (B0.out.grown hgr hs0 (fun b hb=>own_ge O0.out hb));have O1:Hid (LkOwn w.heap.size w1 A1 n k1 L):=hid ⟨HL.out,vs,hown,HI.out.below C1.out⟩;have hcap:=O1.out.cap;have d2:(j:Int) < (k1:Int):=(by omega);obtain ⟨g,A',m',k',rfl,hg,hgl,hf,x0,-,-⟩:=O1.out.at hj;clear hown hgr))
 go_ret
 exact ⟨_,_,rfl,O1.out.set (by omega) (HV.out.below C1.out),C1.out.setCell (p:=⟨g,j,none⟩) hg _⟩
section
variable (c:Cmd) (ra:Option Addr) (nr rc:Nat) (wa:Option Addr) (nw wc:Nat) (aa:Option Addr) (na ac:Nat) (fuel:Int) (ca:Option Addr) (nc cc:Nat) (L:Lks) (A:Option Addr) (n k:Nat) (s:Int)
theorem turns_in {f:List Wnt→List Wnt} {bs:List Int} {i j:Nat} {x:Int} (L:Lks) (hx:bs[i]? = some x) (hj:x=(j:Int)):turnsL f bs L (i + 1)=(turnsL f bs L i).set j (f (lkAt (turnsL f bs L i) j)):=by
 rw [turnsL,turnL,hx,Option.getD_some,hj,Int.toNat_natCast]
end
end
section
open Go.RowKit
theorem line_length (u:Who) (b:Nat):(lineOf u b).length≤u.length:=by
 unfold lineOf
 induction u with
 | nil=>simp
 | cons x u ih=>
  rw [List.flatMap_cons,List.length_append,List.length_cons]
  have:(wantOf x b).length≤1:=by unfold wantOf;split <;> simp
  omega
theorem lksW_len (u:Who) (n b:Nat):(lkAt (lksW u n) b).length≤u.length:=by
 by_cases h:b < n
 ·rw [lksW_at u h,grK_length]
  exact line_length u b
 ·unfold lkAt
  rw [List.getElem?_eq_none (by rw [lksW_length];omega)]
  simp
theorem CmL.lk {x:CmL} {w:World} {n:Nat} (h:x.In w) (hm:MayBe x.c) (hf:fitsT x.c n):CmLk w x.c x.ra x.nr x.rc x.wa x.nw x.wc n:=by
 have h1:=hm.few.1
 have h2:x.c.reads.length=x.nr:=h.lr
 have h3:x.c.writes.length=x.nw:=h.lw
 refine ⟨h.lr,h.lw,h.reads,h.writes,by omega,by omega,fun y hy=>⟨risesT_ge hm.sets.1 y hy,hf.1 y hy⟩,fun y hy=>⟨risesT_ge hm.sets.2.1 y hy,hf.2 y hy⟩⟩
section
variable (c:Cmd) (ra:Option Addr) (nr rc:Nat) (wa:Option Addr) (nw wc:Nat) (aa:Option Addr) (na ac:Nat) (fuel:Int) (ca:Option Addr) (nc cc:Nat) (u:Who) (A:Option Addr) (n k:Nat) (s:Int) (W:World)
theorem rnew_who (h1:1≤n) (hn:n≤1000):Calls Tryz.prog 22 #[.int .i64 (n:Int)] W (LkPost (lksW [] n) n W):=by
 rw [lks_nil]
 exact rnew15_any n h1 hn W
theorem rready_who (hl:LkSl W A n k (lksW u n)) (hu:u.length≤1000) (hk:CmLk W c ra nr rc wa nw wc n):Calls Tryz.prog 41 #[.slice A n k,cmV ra nr rc wa nw wc aa na ac fuel ca nc cc,.int .i64 s] W fun e w'=>e=.returned (.bool (readyL (lksW u n) c s))∧Below W.heap.size W w':=
 rready15_any c ra nr rc wa nw wc aa na ac fuel ca nc cc _ A n k s W hl (fun b=>by have:=lksW_len u n b;omega) hk
end
end
section
open Go.RowKit
attribute [local go_sem] look findAt
attribute [local simp] depsOf isV Region.binds
def LoPost (L:Lks) (n:Nat) (w:World) (e:Ending) (w':World):Prop:=∃ A c,e=.returned (.slice A n c)∧LkOwn 0 w' A n c L∧Below w.heap.size w w'
def lkoV (n:Nat) (L:Lks):Says:=fun v w=>∃ A c,v=.slice A n c∧LkOwn 0 w A n c L
theorem lkoV_keep {n:Nat} {L:Lks} (v:Value) (w w':World) (hb:Below w.heap.size w w') (h:lkoV n L v w):lkoV n L v w':=by
 obtain ⟨A,c,rfl,hO⟩:=h
 exact ⟨A,c,rfl,hO.below hb⟩
theorem LkOwn.turns {B g:Nat} {w w':World} {A:Option Addr} {n c:Nat} {L:List (List Wnt)} (h:LkOwn B w A n c L) (hg:w.grownBy w' (some g)) {t:TypeId} {cs:Array Value} (hk:Bk w g t cs) (h1:t≠136) (h2:t≠98):LkOwn B w' A n c L:=
 h.grown hg (fun b cur hb e=>by injection e with e;exact hk.ne hb h1 e) (fun b cur hb e=>by injection e with e;exact hk.ne hb h2 e)
section
variable (c:Cmd) (ra:Option Addr) (nr rc:Nat) (wa:Option Addr) (nw wc:Nat) (aa:Option Addr) (na ac:Nat) (fuel:Int) (ca:Option Addr) (nc cc:Nat) (L:Lks) (A:Option Addr) (n k:Nat) (s:Int)
theorem rask15O_any (w:World) (h:LkOwn 0 w A n k L) (hn:n≤1000) (hM:∀ b,(lkAt L b).length≤8000) (hc:CmLk w c ra nr rc wa nw wc n) :
  Calls Tryz.prog 29 #[.slice A n k,cmV ra nr rc wa nw wc aa na ac fuel ca nc cc,.int .i64 s] w (LoPost (asksL L c s) n w):=by
 have B0:=below_alloc1 w (CmObj ra nr rc wa nw wc aa na ac fuel ca nc cc)
 have C0:Hid (Bk (w.alloc (CmObj ra nr rc wa nw wc aa na ac fuel ca nc cc)) w.heap.size 56 #[.slice ra nr rc,.slice wa nw wc,.slice aa na ac,.int .i64 fuel,.slice ca nc cc]):=hid (Bk.new w _ _)
 have hc0:=hc.below B0
 have Hreads:=hid hc0.reads
 have Hwrites:=hid hc0.writes
 have Nreads:=hid hc.lr
 have Nwrites:=hid hc.lw
 have Xreads:=hid hc.inr
 have Xwrites:=hid hc.inw
 have h8r:=hc.br
 have h8w:=hc.bw
 have hrc:nr≤rc:=by have:=hc.reads.2.1;rw [hc.lr] at this;exact this
 have hwc:nw≤wc:=by have:=hc.writes.2.1;rw [hc.lw] at this;exact this
 have Mreads:Hid (∀ i b,(lkAt (turnsL (fun l=>askN l s false) c.reads L i) b).length≤8000 + i):=hid (turns_max (fun l=>Nat.le_of_eq (askN_length l s false)) c.reads L hM)
 have Mwrites:Hid (∀ i b,(lkAt (turnsL (fun l=>askN l s true) c.writes (turnsL (fun l=>askN l s false) c.reads L nr) i) b).length≤8008 + i):=hid (turns_max (fun l=>Nat.le_of_eq (askN_length l s true)) c.writes _ (fun b=>by have:=Mreads.out nr b;omega))
 have HL:=hid (h.below B0)
 have hpl:Hid (turnsL (fun l=>askN l s true) c.writes (turnsL (fun l=>askN l s false) c.reads L nr) nw=asksL L c s):=hid (by unfold asksL;rw [hc.lr,hc.lw])
 have BB:=hid B0
 obtain ⟨W0,hW0⟩:∃ W,W=w.alloc (CmObj ra nr rc wa nw wc aa na ac fuel ca nc cc):=⟨_,rfl⟩
 rw [← hW0] at C0 Hreads Hwrites HL BB
 have HW0:=hid hW0
 clear h hM hc hc0 B0 hW0
 go_enter Tryz.func29,Tryz.ntmps29
 go_wp2
 rw [← HW0.out]
 go_loopw [0,7] (fun ls cc wr=>∃ (i k':Nat) (A':Option Addr),i≤nr∧ls=.slice A' n k'∧cc=.int .i64 i∧Hid (LkOwn 0 wr A' n k' (turnsL (fun l=>askN l s false) c.reads (L) i))∧Hid (Below W0.heap.size W0 wr)) (fun _ cc _=>nr - (intOf cc).toNat)
 case atStart=>exact ⟨0,k,A,Nat.zero_le _,rfl,rfl,HL,hid (Below.refl _ _)⟩
 case round=>
  obtain ⟨i,k',A',hi,rfl,rfl,HO,HB⟩:=hrel
  obtain ⟨c0,c1,c2,c3,c4,cf⟩:=(C0.out.below HB.out).cmd
  have cl:=(C0.out.below HB.out).lt
  by_cases hlt:i < nr
  ·have d1:(i:Int) < (nr:Int):=by omega
   have d2:(i:Int) < (rc:Int):=by omega
   obtain ⟨bb,off,rfl,hbl,x0⟩:=(Hreads.out.below HB.out).cellAt (j:=i) (by rw [Nreads.out];exact hlt)
   obtain ⟨x,hx,hxm⟩:=int_at (l:=c.reads) (i:=i) (by rw [Nreads.out];exact hlt)
   have hj:=Xreads.out x hxm
   obtain ⟨j,hjj⟩:=Int.eq_ofNat_of_zero_le hj.1
   have HS:=hid (turns_in (f:=(fun l=>askN l s false)) (L) hx hjj)
   rw [hx,Option.getD_some,hjj] at x0
   rw [hjj] at hj
   have hjn:j < n:=by omega
   have e1:(j:Int) < (n:Int):=by omega
   have hcap:=HO.out.sl.cap
   have e2:(j:Int) < (k':Int):=by omega
   clear hx hj hjj hxm
   obtain ⟨g,off2,A2,m,k2,rfl,hgl,y0,hm,hw,-⟩:=HO.out.sl.at hjn
   have hmM:m≤9000:=by have h1:=Mreads.out i j;have h2:(lkAt (turnsL (fun l=>askN l s false) c.reads (L) i) j).length=m:=hm;omega
   have hQ:Hid (∀ X,Below wr.heap.size wr X→X.cell? ⟨w.heap.size,0,none⟩=some (.slice (some ⟨bb,off,none⟩) nr rc)∧X.cell? ⟨bb,off + i,none⟩=some (.int .i64 (j:Int))∧X.cell? ⟨g,off2 + j,none⟩=some (.slice A2 m k2)∧w.heap.size < X.heap.size∧bb < X.heap.size∧g < X.heap.size):=hid (fun X hX=>⟨(hX.cell (p:=⟨w.heap.size,_,none⟩) cl).trans c0,(hX.cell (p:=⟨bb,_,none⟩) hbl).trans x0,(hX.cell (p:=⟨g,_,none⟩) hgl).trans y0,Nat.lt_of_lt_of_le cl hX.size,Nat.lt_of_lt_of_le hbl hX.size,Nat.lt_of_lt_of_le hgl hX.size⟩)
   have ha:Hid (∀ X,Below wr.heap.size wr X→Calls Tryz.prog 67 #[.slice A2 m k2,.int .i64 s,.bool false] X fun e X'=>∃ v,e=.returned v∧Below X.heap.size X X'∧lwnV 0 (askN (lkAt (turnsL (fun l=>askN l s false) c.reads (L) i) j) s false) v X'):=hid (fun X hX=>(rask_any (lkAt (turnsL (fun l=>askN l s false) c.reads (L) i) j) A2 m k2 s false X (hw.below hX) hm (by omega)).mono fun e X' ⟨A3,n3,c3,he,hO,hb⟩=>⟨_,he,hb,A3,n3,c3,rfl,hO.lower (Nat.zero_le _)⟩)
   have hwi:Hid (∀ (X:World) A3 m3 k3,Below wr.heap.size wr X→OwnW 0 X A3 m3 k3 (askN (lkAt (turnsL (fun l=>askN l s false) c.reads (L) i) j) s false)→Calls Tryz.prog 66 #[.slice (some ⟨g,off2,none⟩) n k',.int .i64 (j:Int),.slice A3 m3 k3] X fun e X'=>∃ v,e=.returned v∧Below X.heap.size X X'∧lkoV n (turnsL (fun l=>askN l s false) c.reads (L) (i + 1)) v X'):=hid (fun X A3 m3 k3 hX hO=>(rwith_any (turnsL (fun l=>askN l s false) c.reads (L) i) _ (some ⟨g,off2,none⟩) n k' j A3 m3 k3 X (HO.out.below hX).sl hjn hn (isWn.own hO)).mono fun e X' ⟨A4,c4,he,hO4,hb⟩=>⟨_,he,hb,A4,c4,rfl,by rw [HS.out];exact hO4.lower (Nat.zero_le _)⟩)
   clear x0 y0 hm hw
   go_wp2
   try simp only [List.append_eq,List.cons_append,List.nil_append]
   refine wp_region_saysK 17 (fun x y=>Below x.heap.size x y) (fun _ _ _ h k=>bnext h k) wr (below_drew1 wr) (by kernel_rfl) (by kernel_rfl) (by kernel_rfl) (by kernel_rfl) (by rfl) ?_
   simp only [List.take_succ_cons,List.take_zero,List.drop_succ_cons,List.drop_zero]
   iterate 15
    refine wkI ?_ (fun u X hX hd=>?_) ?_
    rotate_left
    ·obtain ⟨q1,q2,q3,q4,q5,q6⟩:=hQ.out X hX
     try simp at hd
     go_simp
     try rfl
   refine walkK_call (lwnV 0 (askN (lkAt (turnsL (fun l=>askN l s false) c.reads (L) i) j) s false)) 67 ?_ (by first | exact gs0 rfl | exact gs1 rfl rfl rfl) (fun v x y hb h=>lwnV_keep v x y hb h) (fun u X hX hd=>?_) (fun X hX=>?_) ?_
   rotate_left
   ·obtain ⟨q1,q2,q3,q4,q5,q6⟩:=hQ.out X hX
    try simp at hd
    go_simp
    try rfl
   ·exact ha.out X hX
   refine wkN ?_
   refine walkK_callU (lkoV n (turnsL (fun l=>askN l s false) c.reads (L) (i + 1))) 66 (by first | exact gs0 rfl | exact gs1 rfl rfl rfl) (fun v x y hb h=>lkoV_keep v x y hb h) (fun u X hX hd=>?_) ?_
   ·simp at hd
    obtain ⟨h0,h5,A3,m3,k3,hv,hO⟩:=hd
    refine ⟨#[.slice (some ⟨g,off2,none⟩) n k',.int .i64 (j:Int),.slice A3 m3 k3],?_,hwi.out X A3 m3 k3 hX hO⟩
    go_simp
   refine wkN ?_
   intro u X hX hsay
   simp only [sayAll,isV] at hsay
   obtain ⟨-,-,-,-,-,-,-,-,-,-,-,-,-,-,-,-,v16,-⟩:=hsay
   obtain ⟨A3,k3,v16,hS⟩:=v16
   simp only [putAll,Act.put,v16,List.setIfInBounds_toArray,List.set_cons_succ,List.set_cons_zero,Nat.zero_add,Nat.reduceAdd]
   have SX:=hid hS
   have BX:=hid (HB.out.trans (hX.mono HB.out.size))
   clear hS v16 hX
   go_wp2
   go_roundw
   case rel=>exact ⟨i + 1,k3,A3,by omega,rfl,by go_num,SX,BX⟩
   case measure=>simp [intOf];omega
  ·obtain rfl:nr=i:=by omega
   clear hlt
   go_wp2
   clear c0 c1 c2 c3 c4 cf cl
   go_loopw [0,8] (fun ls cc wr=>∃ (i k':Nat) (A':Option Addr),i≤nw∧ls=.slice A' n k'∧cc=.int .i64 i∧Hid (LkOwn 0 wr A' n k' (turnsL (fun l=>askN l s true) c.writes (turnsL (fun l=>askN l s false) c.reads L nr) i))∧Hid (Below W0.heap.size W0 wr)) (fun _ cc _=>nw - (intOf cc).toNat)
   case atStart=>exact ⟨0,k',A',Nat.zero_le _,rfl,rfl,HO,HB⟩
   case round=>
    obtain ⟨i,k',A',hi,rfl,rfl,HO,HB⟩:=hrel
    obtain ⟨c0,c1,c2,c3,c4,cf⟩:=(C0.out.below HB.out).cmd
    have cl:=(C0.out.below HB.out).lt
    by_cases hlt:i < nw
    ·have d1:(i:Int) < (nw:Int):=by omega
     have d2:(i:Int) < (wc:Int):=by omega
     obtain ⟨bb,off,rfl,hbl,x0⟩:=(Hwrites.out.below HB.out).cellAt (j:=i) (by rw [Nwrites.out];exact hlt)
     obtain ⟨x,hx,hxm⟩:=int_at (l:=c.writes) (i:=i) (by rw [Nwrites.out];exact hlt)
     have hj:=Xwrites.out x hxm
     obtain ⟨j,hjj⟩:=Int.eq_ofNat_of_zero_le hj.1
     have HS:=hid (turns_in (f:=(fun l=>askN l s true)) (turnsL (fun l=>askN l s false) c.reads L nr) hx hjj)
     rw [hx,Option.getD_some,hjj] at x0
     rw [hjj] at hj
     have hjn:j < n:=by omega
     have e1:(j:Int) < (n:Int):=by omega
     have hcap:=HO.out.sl.cap
     have e2:(j:Int) < (k':Int):=by omega
     clear hx hj hjj hxm
     obtain ⟨g,off2,A2,m,k2,rfl,hgl,y0,hm,hw,-⟩:=HO.out.sl.at hjn
     have hmM:m≤9000:=by have h1:=Mwrites.out i j;have h2:(lkAt (turnsL (fun l=>askN l s true) c.writes (turnsL (fun l=>askN l s false) c.reads L nr) i) j).length=m:=hm;omega
     have hQ:Hid (∀ X,Below wr.heap.size wr X→X.cell? ⟨w.heap.size,1,none⟩=some (.slice (some ⟨bb,off,none⟩) nw wc)∧X.cell? ⟨bb,off + i,none⟩=some (.int .i64 (j:Int))∧X.cell? ⟨g,off2 + j,none⟩=some (.slice A2 m k2)∧w.heap.size < X.heap.size∧bb < X.heap.size∧g < X.heap.size):=hid (fun X hX=>⟨(hX.cell (p:=⟨w.heap.size,_,none⟩) cl).trans c1,(hX.cell (p:=⟨bb,_,none⟩) hbl).trans x0,(hX.cell (p:=⟨g,_,none⟩) hgl).trans y0,Nat.lt_of_lt_of_le cl hX.size,Nat.lt_of_lt_of_le hbl hX.size,Nat.lt_of_lt_of_le hgl hX.size⟩)
     have ha:Hid (∀ X,Below wr.heap.size wr X→Calls Tryz.prog 67 #[.slice A2 m k2,.int .i64 s,.bool true] X fun e X'=>∃ v,e=.returned v∧Below X.heap.size X X'∧lwnV 0 (askN (lkAt (turnsL (fun l=>askN l s true) c.writes (turnsL (fun l=>askN l s false) c.reads L nr) i) j) s true) v X'):=hid (fun X hX=>(rask_any (lkAt (turnsL (fun l=>askN l s true) c.writes (turnsL (fun l=>askN l s false) c.reads L nr) i) j) A2 m k2 s true X (hw.below hX) hm (by omega)).mono fun e X' ⟨A3,n3,c3,he,hO,hb⟩=>⟨_,he,hb,A3,n3,c3,rfl,hO.lower (Nat.zero_le _)⟩)
     have hwi:Hid (∀ (X:World) A3 m3 k3,Below wr.heap.size wr X→OwnW 0 X A3 m3 k3 (askN (lkAt (turnsL (fun l=>askN l s true) c.writes (turnsL (fun l=>askN l s false) c.reads L nr) i) j) s true)→Calls Tryz.prog 66 #[.slice (some ⟨g,off2,none⟩) n k',.int .i64 (j:Int),.slice A3 m3 k3] X fun e X'=>∃ v,e=.returned v∧Below X.heap.size X X'∧lkoV n (turnsL (fun l=>askN l s true) c.writes (turnsL (fun l=>askN l s false) c.reads L nr) (i + 1)) v X'):=hid (fun X A3 m3 k3 hX hO=>(rwith_any (turnsL (fun l=>askN l s true) c.writes (turnsL (fun l=>askN l s false) c.reads L nr) i) _ (some ⟨g,off2,none⟩) n k' j A3 m3 k3 X (HO.out.below hX).sl hjn hn (isWn.own hO)).mono fun e X' ⟨A4,c4,he,hO4,hb⟩=>⟨_,he,hb,A4,c4,rfl,by rw [HS.out];exact hO4.lower (Nat.zero_le _)⟩)
     clear x0 y0 hm hw
     go_wp2
     try simp only [List.append_eq,List.cons_append,List.nil_append]
     refine wp_region_saysK 17 (fun x y=>Below x.heap.size x y) (fun _ _ _ h k=>bnext h k) wr (below_drew1 wr) (by kernel_rfl) (by kernel_rfl) (by kernel_rfl) (by kernel_rfl) (by rfl) ?_
     simp only [List.take_succ_cons,List.take_zero,List.drop_succ_cons,List.drop_zero]
     iterate 15
      refine wkI ?_ (fun u X hX hd=>?_) ?_
      rotate_left
      ·obtain ⟨q1,q2,q3,q4,q5,q6⟩:=hQ.out X hX
       try simp at hd
       go_simp
       try rfl
     refine walkK_call (lwnV 0 (askN (lkAt (turnsL (fun l=>askN l s true) c.writes (turnsL (fun l=>askN l s false) c.reads L nr) i) j) s true)) 67 ?_ (by first | exact gs0 rfl | exact gs1 rfl rfl rfl) (fun v x y hb h=>lwnV_keep v x y hb h) (fun u X hX hd=>?_) (fun X hX=>?_) ?_
     rotate_left
     ·obtain ⟨q1,q2,q3,q4,q5,q6⟩:=hQ.out X hX
      try simp at hd
      go_simp
      try rfl
     ·exact ha.out X hX
     refine wkN ?_
     refine walkK_callU (lkoV n (turnsL (fun l=>askN l s true) c.writes (turnsL (fun l=>askN l s false) c.reads L nr) (i + 1))) 66 (by first | exact gs0 rfl | exact gs1 rfl rfl rfl) (fun v x y hb h=>lkoV_keep v x y hb h) (fun u X hX hd=>?_) ?_
     ·simp at hd
      obtain ⟨h0,h5,A3,m3,k3,hv,hO⟩:=hd
      refine ⟨#[.slice (some ⟨g,off2,none⟩) n k',.int .i64 (j:Int),.slice A3 m3 k3],?_,hwi.out X A3 m3 k3 hX hO⟩
      go_simp
     refine wkN ?_
     intro u X hX hsay
     simp only [sayAll,isV] at hsay
     obtain ⟨-,-,-,-,-,-,-,-,-,-,-,-,-,-,-,-,v16,-⟩:=hsay
     obtain ⟨A3,k3,v16,hS⟩:=v16
     simp only [putAll,Act.put,v16,List.setIfInBounds_toArray,List.set_cons_succ,List.set_cons_zero,Nat.zero_add,Nat.reduceAdd]
     have SX:=hid hS
     have BX:=hid (HB.out.trans (hX.mono HB.out.size))
     clear hS v16 hX
     go_wp2
     go_roundw
     case rel=>exact ⟨i + 1,k3,A3,by omega,rfl,by go_num,SX,BX⟩
     case measure=>simp [intOf];omega
    ·obtain rfl:nw=i:=by omega
     clear hlt
     go_wp2
     go_ret
     refine ⟨_,_,rfl,?_,BB.out.trans (HB.out.mono BB.out.size)⟩
     rw [← hpl.out]
     exact HO.out
theorem raskO_who (u:Who) (w:World) (hl:LkOwn 0 w A n k (lksW u n)) (hn:n≤1000) (hu:u.length≤1000) (hs:setsN c) (hk:CmLk w c ra nr rc wa nw wc n):Calls Tryz.prog 29 #[.slice A n k,cmV ra nr rc wa nw wc aa na ac fuel ca nc cc,.int .i64 s] w (LoPost (lksW (u ++ [(s,c)]) n) n w):=by
 rw [← asks_W u n hs s]
 exact rask15O_any c ra nr rc wa nw wc aa na ac fuel ca nc cc _ A n k s w hl hn (fun b=>by have:=lksW_len u n b;omega) hk
end
end
end Go.Proofs.YtpaocjpjlogkgaaGreat
