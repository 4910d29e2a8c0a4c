/-
  Words and contracts of this claim, 2 texts laid into one, each under its own remark. No conditions but those that stand at each.
-/
import Derived.Test.YtpaocjpjlogkgaaGreatQLckRa
import Derived.Test.YtpaocjpjlogkgaaGreatQQueA
import Derived.Test.YtpaocjpjlogkgaaGreatQLckA
import Derived.Test.YtpaocjpjlogkgaaGreatZLckRy
namespace Go.Proofs.YtpaocjpjlogkgaaGreat
set_option maxRecDepth 100000
set_option maxHeartbeats 32000000
open Go
open Go.Lib (hid)
section
open Go.RowKit Go.Shelf
attribute [local go_sem] look findAt
attribute [local simp] depsOf isV Region.binds
theorem rsame15_yes (L:Lks) (A:Option Addr) (c:Nat) (B:Option Addr) (d n:Nat) (w:World) (h1:LkSl w A n c L) (h2:LkSl w B n d L) (hn:n≤1000) (hM:∀ b,(lkAt L b).length≤9000) :
  Calls Tryz.prog 21 #[.slice A n c,.slice B n d] w fun e w'=>e=.returned (.bool true)∧Below w.heap.size w w':=by
 have H1:=hid h1
 have H2:=hid h2
 have HM:=hid hM
 have hnc:=h1.cap
 have hnd:=h2.cap
 clear h1 h2 hM
 go_enter Tryz.func21,Tryz.ntmps21
 go_wp2
 go_loopw [5] (fun cc wr=>∃ i:Nat,i≤n∧cc=.int .i64 i∧Hid (Below w.heap.size w wr)) (fun cc _=>n - (intOf cc).toNat)
 case atStart=>exact ⟨0,Nat.zero_le _,rfl,hid (Below.refl _ _)⟩
 case round=>
  obtain ⟨i,hi,rfl,HB⟩:=hrel
  by_cases hlt:i < n
  ·obtain ⟨g1,o1,A1,m1,k1,rfl,hl1,x0,hm1,hw1,-⟩:=(H1.out.below HB.out).at hlt
   obtain ⟨g2,o2,A2,m2,k2,rfl,hl2,y0,hm2,hw2,-⟩:=(H2.out.below HB.out).at hlt
   obtain rfl:m1=m2:=by omega
   have hm1':(lkAt L i).length=m1:=hm1
   have hmM:m1≤9000:=by have h1:=HM.out i;omega
   have d0:(i:Int) < (n:Int):=by omega
   have d1:(i:Int) < (c:Int):=by omega
   have d2:(i:Int) < (d:Int):=by omega
   have hQ:Hid (∀ X,Below wr.heap.size wr X→X.cell? ⟨g1,o1 + i,none⟩=some (.slice A1 m1 k1)∧X.cell? ⟨g2,o2 + i,none⟩=some (.slice A2 m1 k2)∧g1 < X.heap.size∧g2 < X.heap.size):=hid (fun X hX=>⟨(hX.cell (p:=⟨g1,_,none⟩) hl1).trans x0,(hX.cell (p:=⟨g2,_,none⟩) hl2).trans y0,Nat.lt_of_lt_of_le hl1 hX.size,Nat.lt_of_lt_of_le hl2 hX.size⟩)
   have sm:Hid (∀ X,Below wr.heap.size wr X→Calls Tryz.prog 52 #[.slice A1 m1 k1,.slice A2 m1 k2] X fun e w'=>e=.returned (.bool true)∧Below X.heap.size X w'):=hid (fun X hX=>rsameW_yes (lkAt L i) A1 k1 A2 k2 m1 X (hw1.below hX) (hw2.below hX) hm1 (by omega))
   clear hm1' hm1 hm2 hw1 hw2 x0 y0
   go_wp2
   try simp only [List.append_eq,List.cons_append,List.nil_append]
   refine wp_region_saysK 9 (fun x y=>Below x.heap.size x y) (fun _ _ _ h k=>bnext h k) wr (below_drew1 wr) (by kernel_rfl) (by kernel_rfl) (by kernel_rfl) (by kernel_rfl) (by rfl) ?_
   simp only [List.take_succ_cons,List.take_zero,List.drop_succ_cons,List.drop_zero]
   iterate 8
    refine wkI ?_ (fun u X hX hd=>?_) ?_
    rotate_left
    ·obtain ⟨q1,q2,q3,q4⟩:=hQ.out X hX
     try simp at hd
     go_simp
     try rfl
   refine walkK_call (isV (.bool true)) 52 ?_ (by first | exact gs0 rfl | exact gs1 rfl rfl rfl) (fun _ _ _ _ h=>h) (fun u X hX hd=>?_) (fun X hX=>?_) ?_
   rotate_left
   ·obtain ⟨q1,q2,q3,q4⟩:=hQ.out X hX
    try simp at hd
    go_simp
    try rfl
   ·exact (sm.out X hX).mono fun e X' ⟨he,hb⟩=>⟨_,he,hb,rfl⟩
   refine wkN ?_
   intro u X hX hsay
   simp only [sayAll,isV] at hsay
   obtain ⟨-,-,-,-,-,-,-,-,v8,-⟩:=hsay
   simp only [putAll,Act.put,v8,List.setIfInBounds_toArray,List.set_cons_succ,List.set_cons_zero,Nat.zero_add,Nat.reduceAdd]
   have BX:=hid (bnext HB.out hX)
   clear hX v8
   go_wp2
   go_roundw
   case rel=>exact ⟨i + 1,by omega,by go_num,BX⟩
   case measure=>simp [intOf];omega
  ·go_wp2
   go_ret
   exact ⟨rfl,HB.out⟩
end
section
open Go.RowKit Go.Shelf
attribute [local go_sem] look findAt
attribute [local simp] depsOf isV Region.binds
section
variable (c:Cmd) (ra:Option Addr) (nr rc:Nat) (wa:Option Addr) (nw wc:Nat) (aa:Option Addr) (na ac:Nat) (fuel:Int) (ca:Option Addr) (nc cc:Nat) (L:Lks) (A:Option Addr) (n k:Nat) (s:Int)
theorem rgive15O_any (w:World) (h:LkOwn 0 w A n k L) (hn:n≤1000) (hM:∀ b,(lkAt L b).length≤8000) (hc:CmLk w c ra nr rc wa nw wc n) :
  Calls Tryz.prog 93 #[.slice A n k,cmV ra nr rc wa nw wc aa na ac fuel ca nc cc,.int .i64 s] w (LoPost (givesL L c s) n w):=by
 have B0:=below_alloc1 w (CmObj ra nr rc wa nw wc aa na ac fuel ca nc cc)
 have C0:Hid (Bk (w.alloc (CmObj ra nr rc wa nw wc aa na ac fuel ca nc cc)) w.heap.size 56 #[.slice ra nr rc,.slice wa nw wc,.slice aa na ac,.int .i64 fuel,.slice ca nc cc]):=hid (Bk.new w _ _)
 have hc0:=hc.below B0
 have Hreads:=hid hc0.reads
 have Hwrites:=hid hc0.writes
 have Nreads:=hid hc.lr
 have Nwrites:=hid hc.lw
 have Xreads:=hid hc.inr
 have Xwrites:=hid hc.inw
 have h8r:=hc.br
 have h8w:=hc.bw
 have hrc:nr≤rc:=by have:=hc.reads.2.1;rw [hc.lr] at this;exact this
 have hwc:nw≤wc:=by have:=hc.writes.2.1;rw [hc.lw] at this;exact this
 have Mreads:Hid (∀ i b,(lkAt (turnsL (fun l=>giveN l s) c.reads L i) b).length≤8000 + i):=hid (turns_max (fun l=>Nat.le_succ_of_le (giveN_length l s)) c.reads L hM)
 have Mwrites:Hid (∀ i b,(lkAt (turnsL (fun l=>giveN l s) c.writes (turnsL (fun l=>giveN l s) c.reads L nr) i) b).length≤8008 + i):=hid (turns_max (fun l=>Nat.le_succ_of_le (giveN_length l s)) c.writes _ (fun b=>by have:=Mreads.out nr b;omega))
 have HL:=hid (h.below B0)
 have hpl:Hid (turnsL (fun l=>giveN l s) c.writes (turnsL (fun l=>giveN l s) c.reads L nr) nw=givesL L c s):=hid (by unfold givesL;rw [hc.lr,hc.lw])
 have BB:=hid B0
 obtain ⟨W0,hW0⟩:∃ W,W=w.alloc (CmObj ra nr rc wa nw wc aa na ac fuel ca nc cc):=⟨_,rfl⟩
 rw [← hW0] at C0 Hreads Hwrites HL BB
 have HW0:=hid hW0
 clear h hM hc hc0 B0 hW0
 go_enter Tryz.func93,Tryz.ntmps93
 go_wp2
 rw [← HW0.out]
 go_loopw [0,7] (fun ls cc wr=>∃ (i k':Nat) (A':Option Addr),i≤nr∧ls=.slice A' n k'∧cc=.int .i64 i∧Hid (LkOwn 0 wr A' n k' (turnsL (fun l=>giveN l s) c.reads (L) i))∧Hid (Below W0.heap.size W0 wr)) (fun _ cc _=>nr - (intOf cc).toNat)
 case atStart=>exact ⟨0,k,A,Nat.zero_le _,rfl,rfl,HL,hid (Below.refl _ _)⟩
 case round=>
  obtain ⟨i,k',A',hi,rfl,rfl,HO,HB⟩:=hrel
  obtain ⟨c0,c1,c2,c3,c4,cf⟩:=(C0.out.below HB.out).cmd
  have cl:=(C0.out.below HB.out).lt
  by_cases hlt:i < nr
  ·have d1:(i:Int) < (nr:Int):=by omega
   have d2:(i:Int) < (rc:Int):=by omega
   obtain ⟨bb,off,rfl,hbl,x0⟩:=(Hreads.out.below HB.out).cellAt (j:=i) (by rw [Nreads.out];exact hlt)
   obtain ⟨x,hx,hxm⟩:=int_at (l:=c.reads) (i:=i) (by rw [Nreads.out];exact hlt)
   have hj:=Xreads.out x hxm
   obtain ⟨j,hjj⟩:=Int.eq_ofNat_of_zero_le hj.1
   have HS:=hid (turns_in (f:=(fun l=>giveN l s)) (L) hx hjj)
   rw [hx,Option.getD_some,hjj] at x0
   rw [hjj] at hj
   have hjn:j < n:=by omega
   have e1:(j:Int) < (n:Int):=by omega
   have hcap:=HO.out.sl.cap
   have e2:(j:Int) < (k':Int):=by omega
   clear hx hj hjj hxm
   obtain ⟨g,off2,A2,m,k2,rfl,hgl,y0,hm,hw,-⟩:=HO.out.sl.at hjn
   have hmM:m≤9000:=by have h1:=Mreads.out i j;have h2:(lkAt (turnsL (fun l=>giveN l s) c.reads (L) i) j).length=m:=hm;omega
   have hQ:Hid (∀ X,Below wr.heap.size wr X→X.cell? ⟨w.heap.size,0,none⟩=some (.slice (some ⟨bb,off,none⟩) nr rc)∧X.cell? ⟨bb,off + i,none⟩=some (.int .i64 (j:Int))∧X.cell? ⟨g,off2 + j,none⟩=some (.slice A2 m k2)∧w.heap.size < X.heap.size∧bb < X.heap.size∧g < X.heap.size):=hid (fun X hX=>⟨(hX.cell (p:=⟨w.heap.size,_,none⟩) cl).trans c0,(hX.cell (p:=⟨bb,_,none⟩) hbl).trans x0,(hX.cell (p:=⟨g,_,none⟩) hgl).trans y0,Nat.lt_of_lt_of_le cl hX.size,Nat.lt_of_lt_of_le hbl hX.size,Nat.lt_of_lt_of_le hgl hX.size⟩)
   have ha:Hid (∀ X,Below wr.heap.size wr X→Calls Tryz.prog 119 #[.slice A2 m k2,.int .i64 s] X fun e X'=>∃ v,e=.returned v∧Below X.heap.size X X'∧lwnV 0 (giveN (lkAt (turnsL (fun l=>giveN l s) c.reads (L) i) j) s) v X'):=hid (fun X hX=>(rgive_any (lkAt (turnsL (fun l=>giveN l s) c.reads (L) i) j) A2 m k2 s X (hw.below hX) hm (by omega)).mono fun e X' ⟨A3,n3,c3,he,hO,hb⟩=>⟨_,he,hb,A3,n3,c3,rfl,hO.lower (Nat.zero_le _)⟩)
   have hwi:Hid (∀ (X:World) A3 m3 k3,Below wr.heap.size wr X→OwnW 0 X A3 m3 k3 (giveN (lkAt (turnsL (fun l=>giveN l s) c.reads (L) i) j) s)→Calls Tryz.prog 66 #[.slice (some ⟨g,off2,none⟩) n k',.int .i64 (j:Int),.slice A3 m3 k3] X fun e X'=>∃ v,e=.returned v∧Below X.heap.size X X'∧lkoV n (turnsL (fun l=>giveN l s) c.reads (L) (i + 1)) v X'):=hid (fun X A3 m3 k3 hX hO=>(rwith_any (turnsL (fun l=>giveN l s) c.reads (L) i) _ (some ⟨g,off2,none⟩) n k' j A3 m3 k3 X (HO.out.below hX).sl hjn hn (isWn.own hO)).mono fun e X' ⟨A4,c4,he,hO4,hb⟩=>⟨_,he,hb,A4,c4,rfl,by rw [HS.out];exact hO4.lower (Nat.zero_le _)⟩)
   clear x0 y0 hm hw
   go_wp2
   try simp only [List.append_eq,List.cons_append,List.nil_append]
   refine wp_region_saysK 17 (fun x y=>Below x.heap.size x y) (fun _ _ _ h k=>bnext h k) wr (below_drew1 wr) (by kernel_rfl) (by kernel_rfl) (by kernel_rfl) (by kernel_rfl) (by rfl) ?_
   simp only [List.take_succ_cons,List.take_zero,List.drop_succ_cons,List.drop_zero]
   iterate 15
    refine wkI ?_ (fun u X hX hd=>?_) ?_
    rotate_left
    ·obtain ⟨q1,q2,q3,q4,q5,q6⟩:=hQ.out X hX
     try simp at hd
     go_simp
     try rfl
   refine walkK_call (lwnV 0 (giveN (lkAt (turnsL (fun l=>giveN l s) c.reads (L) i) j) s)) 119 ?_ (by first | exact gs0 rfl | exact gs1 rfl rfl rfl) (fun v x y hb h=>lwnV_keep v x y hb h) (fun u X hX hd=>?_) (fun X hX=>?_) ?_
   rotate_left
   ·obtain ⟨q1,q2,q3,q4,q5,q6⟩:=hQ.out X hX
    try simp at hd
    go_simp
    try rfl
   ·exact ha.out X hX
   refine wkN ?_
   refine walkK_callU (lkoV n (turnsL (fun l=>giveN l s) c.reads (L) (i + 1))) 66 (by first | exact gs0 rfl | exact gs1 rfl rfl rfl) (fun v x y hb h=>lkoV_keep v x y hb h) (fun u X hX hd=>?_) ?_
   ·simp at hd
    obtain ⟨h0,h5,A3,m3,k3,hv,hO⟩:=hd
    refine ⟨#[.slice (some ⟨g,off2,none⟩) n k',.int .i64 (j:Int),.slice A3 m3 k3],?_,hwi.out X A3 m3 k3 hX hO⟩
    go_simp
   refine wkN ?_
   intro u X hX hsay
   simp only [sayAll,isV] at hsay
   obtain ⟨-,-,-,-,-,-,-,-,-,-,-,-,-,-,-,-,v16,-⟩:=hsay
   obtain ⟨A3,k3,v16,hS⟩:=v16
   simp only [putAll,Act.put,v16,List.setIfInBounds_toArray,List.set_cons_succ,List.set_cons_zero,Nat.zero_add,Nat.reduceAdd]
   have SX:=hid hS
   have BX:=hid (HB.out.trans (hX.mono HB.out.size))
   clear hS v16 hX
   go_wp2
   go_roundw
   case rel=>exact ⟨i + 1,k3,A3,by omega,rfl,by go_num,SX,BX⟩
   case measure=>simp [intOf];omega
  ·obtain rfl:nr=i:=by omega
   clear hlt
   go_wp2
   clear c0 c1 c2 c3 c4 cf cl
   go_loopw [0,8] (fun ls cc wr=>∃ (i k':Nat) (A':Option Addr),i≤nw∧ls=.slice A' n k'∧cc=.int .i64 i∧Hid (LkOwn 0 wr A' n k' (turnsL (fun l=>giveN l s) c.writes (turnsL (fun l=>giveN l s) c.reads L nr) i))∧Hid (Below W0.heap.size W0 wr)) (fun _ cc _=>nw - (intOf cc).toNat)
   case atStart=>exact ⟨0,k',A',Nat.zero_le _,rfl,rfl,HO,HB⟩
   case round=>
    obtain ⟨i,k',A',hi,rfl,rfl,HO,HB⟩:=hrel
    obtain ⟨c0,c1,c2,c3,c4,cf⟩:=(C0.out.below HB.out).cmd
    have cl:=(C0.out.below HB.out).lt
    by_cases hlt:i < nw
    ·have d1:(i:Int) < (nw:Int):=by omega
     have d2:(i:Int) < (wc:Int):=by omega
     obtain ⟨bb,off,rfl,hbl,x0⟩:=(Hwrites.out.below HB.out).cellAt (j:=i) (by rw [Nwrites.out];exact hlt)
     obtain ⟨x,hx,hxm⟩:=int_at (l:=c.writes) (i:=i) (by rw [Nwrites.out];exact hlt)
     have hj:=Xwrites.out x hxm
     obtain ⟨j,hjj⟩:=Int.eq_ofNat_of_zero_le hj.1
     have HS:=hid (turns_in (f:=(fun l=>giveN l s)) (turnsL (fun l=>giveN l s) c.reads L nr) hx hjj)
     rw [hx,Option.getD_some,hjj] at x0
     rw [hjj] at hj
     have hjn:j < n:=by omega
     have e1:(j:Int) < (n:Int):=by omega
     have hcap:=HO.out.sl.cap
     have e2:(j:Int) < (k':Int):=by omega
     clear hx hj hjj hxm
     obtain ⟨g,off2,A2,m,k2,rfl,hgl,y0,hm,hw,-⟩:=HO.out.sl.at hjn
     have hmM:m≤9000:=by have h1:=Mwrites.out i j;have h2:(lkAt (turnsL (fun l=>giveN l s) c.writes (turnsL (fun l=>giveN l s) c.reads L nr) i) j).length=m:=hm;omega
     have hQ:Hid (∀ X,Below wr.heap.size wr X→X.cell? ⟨w.heap.size,1,none⟩=some (.slice (some ⟨bb,off,none⟩) nw wc)∧X.cell? ⟨bb,off + i,none⟩=some (.int .i64 (j:Int))∧X.cell? ⟨g,off2 + j,none⟩=some (.slice A2 m k2)∧w.heap.size < X.heap.size∧bb < X.heap.size∧g < X.heap.size):=hid (fun X hX=>⟨(hX.cell (p:=⟨w.heap.size,_,none⟩) cl).trans c1,(hX.cell (p:=⟨bb,_,none⟩) hbl).trans x0,(hX.cell (p:=⟨g,_,none⟩) hgl).trans y0,Nat.lt_of_lt_of_le cl hX.size,Nat.lt_of_lt_of_le hbl hX.size,Nat.lt_of_lt_of_le hgl hX.size⟩)
     have ha:Hid (∀ X,Below wr.heap.size wr X→Calls Tryz.prog 119 #[.slice A2 m k2,.int .i64 s] X fun e X'=>∃ v,e=.returned v∧Below X.heap.size X X'∧lwnV 0 (giveN (lkAt (turnsL (fun l=>giveN l s) c.writes (turnsL (fun l=>giveN l s) c.reads L nr) i) j) s) v X'):=hid (fun X hX=>(rgive_any (lkAt (turnsL (fun l=>giveN l s) c.writes (turnsL (fun l=>giveN l s) c.reads L nr) i) j) A2 m k2 s X (hw.below hX) hm (by omega)).mono fun e X' ⟨A3,n3,c3,he,hO,hb⟩=>⟨_,he,hb,A3,n3,c3,rfl,hO.lower (Nat.zero_le _)⟩)
     have hwi:Hid (∀ (X:World) A3 m3 k3,Below wr.heap.size wr X→OwnW 0 X A3 m3 k3 (giveN (lkAt (turnsL (fun l=>giveN l s) c.writes (turnsL (fun l=>giveN l s) c.reads L nr) i) j) s)→Calls Tryz.prog 66 #[.slice (some ⟨g,off2,none⟩) n k',.int .i64 (j:Int),.slice A3 m3 k3] X fun e X'=>∃ v,e=.returned v∧Below X.heap.size X X'∧lkoV n (turnsL (fun l=>giveN l s) c.writes (turnsL (fun l=>giveN l s) c.reads L nr) (i + 1)) v X'):=hid (fun X A3 m3 k3 hX hO=>(rwith_any (turnsL (fun l=>giveN l s) c.writes (turnsL (fun l=>giveN l s) c.reads L nr) i) _ (some ⟨g,off2,none⟩) n k' j A3 m3 k3 X (HO.out.below hX).sl hjn hn (isWn.own hO)).mono fun e X' ⟨A4,c4,he,hO4,hb⟩=>⟨_,he,hb,A4,c4,rfl,by rw [HS.out];exact hO4.lower (Nat.zero_le _)⟩)
     clear x0 y0 hm hw
     go_wp2
     try simp only [List.append_eq,List.cons_append,List.nil_append]
     refine wp_region_saysK 17 (fun x y=>Below x.heap.size x y) (fun _ _ _ h k=>bnext h k) wr (below_drew1 wr) (by kernel_rfl) (by kernel_rfl) (by kernel_rfl) (by kernel_rfl) (by rfl) ?_
     simp only [List.take_succ_cons,List.take_zero,List.drop_succ_cons,List.drop_zero]
     iterate 15
      refine wkI ?_ (fun u X hX hd=>?_) ?_
      rotate_left
      ·obtain ⟨q1,q2,q3,q4,q5,q6⟩:=hQ.out X hX
       try simp at hd
       go_simp
       try rfl
     refine walkK_call (lwnV 0 (giveN (lkAt (turnsL (fun l=>giveN l s) c.writes (turnsL (fun l=>giveN l s) c.reads L nr) i) j) s)) 119 ?_ (by first | exact gs0 rfl | exact gs1 rfl rfl rfl) (fun v x y hb h=>lwnV_keep v x y hb h) (fun u X hX hd=>?_) (fun X hX=>?_) ?_
     rotate_left
     ·obtain ⟨q1,q2,q3,q4,q5,q6⟩:=hQ.out X hX
      try simp at hd
      go_simp
      try rfl
     ·exact ha.out X hX
     refine wkN ?_
     refine walkK_callU (lkoV n (turnsL (fun l=>giveN l s) c.writes (turnsL (fun l=>giveN l s) c.reads L nr) (i + 1))) 66 (by first | exact gs0 rfl | exact gs1 rfl rfl rfl) (fun v x y hb h=>lkoV_keep v x y hb h) (fun u X hX hd=>?_) ?_
     ·simp at hd
      obtain ⟨h0,h5,A3,m3,k3,hv,hO⟩:=hd
      refine ⟨#[.slice (some ⟨g,off2,none⟩) n k',.int .i64 (j:Int),.slice A3 m3 k3],?_,hwi.out X A3 m3 k3 hX hO⟩
      go_simp
     refine wkN ?_
     intro u X hX hsay
     simp only [sayAll,isV] at hsay
     obtain ⟨-,-,-,-,-,-,-,-,-,-,-,-,-,-,-,-,v16,-⟩:=hsay
     obtain ⟨A3,k3,v16,hS⟩:=v16
     simp only [putAll,Act.put,v16,List.setIfInBounds_toArray,List.set_cons_succ,List.set_cons_zero,Nat.zero_add,Nat.reduceAdd]
     have SX:=hid hS
     have BX:=hid (HB.out.trans (hX.mono HB.out.size))
     clear hS v16 hX
     go_wp2
     go_roundw
     case rel=>exact ⟨i + 1,k3,A3,by omega,rfl,by go_num,SX,BX⟩
     case measure=>simp [intOf];omega
    ·obtain rfl:nw=i:=by omega
     clear hlt
     go_wp2
     go_ret
     refine ⟨_,_,rfl,?_,BB.out.trans (HB.out.mono BB.out.size)⟩
     rw [← hpl.out]
     exact HO.out
theorem rgiveO_who (u:Who) (w:World) (hl:LkOwn 0 w A n k (lksW u n)) (hn:n≤1000) (hu:u.length≤1000) (hs:setsN c) (hw:∀ x∈u,x.1=s→x.2=c) (hk:CmLk w c ra nr rc wa nw wc n):Calls Tryz.prog 93 #[.slice A n k,cmV ra nr rc wa nw wc aa na ac fuel ca nc cc,.int .i64 s] w (LoPost (lksW (u.filter fun x=>decide (x.1≠s)) n) n w):=by
 rw [← gives_W n hs hw]
 exact rgive15O_any c ra nr rc wa nw wc aa na ac fuel ca nc cc _ A n k s w hl hn (fun b=>by have:=lksW_len u n b;omega) hk
end
end
end Go.Proofs.YtpaocjpjlogkgaaGreat
