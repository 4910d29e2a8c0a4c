/-
  Words and contracts of this claim, 2 texts laid into one, each under its own remark. No conditions but those that stand at each.
-/
import Derived.Test.YtpaocjpjlogkgaaGreatQMchK
import Derived.Test.YtpaocjpjlogkgaaGreatQMchF

/-
  What the reference's Step of layer 10 answers, in whatever memory: of a skip, a keep, an emit. No conditions but those that stand there.
-/
namespace Go.Proofs.YtpaocjpjlogkgaaGreat
open Go.RowKit
set_option maxRecDepth 100000
attribute [local go_sem] look findAt
attribute [local simp] depsOf isV Region.binds
theorem own_cellBelow {w:World} {B n c G:Nat} {e:TypeId} {size:Nat} {A:Option Addr} {xs:List Value} (h:w.ownsRow B e size (.slice A n c) n xs) (hG:G < B) (k:Nat) (u:Value):(w.setCell ⟨G,k,none⟩ u).ownsRow B e size (.slice A n c) n xs:=
 own_keep h (fun g _ hg=>Below.heap_setCell w ⟨G,k,none⟩ u g (by have:=own_ge h hg;simp only;omega))
section
variable (ra:Option Addr) (nr rc:Nat) (wa:Option Addr) (nw wc:Nat) (aa:Option Addr) (na ac:Nat) (cf:Int) (ca:Option Addr) (nc cc:Nat)
variable (fuel:Int) (sA:Option Addr) (sn sc:Nat) (r0 r1 r2 r3:Int) (oA:Option Addr) (on oc:Nat) (e0:Int) (bA:Option Addr) (bn bc:Nat)
set_option maxHeartbeats 4000000 in
set_option maxRecDepth 100000 in
theorem rstep3_0 (l:List Ins) (i:Nat) (k:Nat) (hk:k≤1000) (b:Int) (st ou:List Int) (own:Blks) (w:World) (hC:Inss w ca cc l) (hl:l.length=nc) (hi:i < nc) (hic:nc≤1000) (hx:insAt l i=⟨3,0,b⟩) (hM:MIn w st ou own sA (k + 1) sc oA on oc bA bn bc) (hf:fuel≠0) (hf2:0≤fuel∧fuel≤1000) :
  Calls Tryz.prog 46 #[cmV ra nr rc wa nw wc aa na ac cf ca nc cc,.agg (mC (i:Int) fuel (.slice sA (k + 1:Nat) sc) r0 r1 r2 r3 (.slice oA on oc) false e0),.slice bA bn bc] w (RSPost ((i:Int) + 1) (fuel - 1) (st.take k) (st[k]?.getD 0) r1 r2 r3 ou false e0 own sA (k + 1) oA on bA bn w):=by
 obtain ⟨top,htop⟩:∃ x,x=st[k]?.getD 0:=⟨_,rfl⟩
 try rw [← htop]
 have HT:=Lib.hid htop
 clear htop
 obtain ⟨cb,co,rfl,hcb,x0,x1,x2⟩:=hC.cellAt (j:=i) (by omega)
 rw [hx] at x0 x1 x2
 simp only at x0 x1 x2
 have hcc:=hC.2.1
 rw [hl] at hcc
 have d1:(i:Int) < (nc:Int):=by omega
 have d2:(i:Int) < (cc:Int):=by omega
 have f0:(fuel == 0)=false:=by simpa using hf
 have bb:=sB_below #[.slice ra nr rc,.slice wa nw wc,.slice aa na ac,.int .i64 cf,.slice (some ⟨cb,co,none⟩) nc cc] (mC (i:Int) (fuel - 1) (.slice sA (k + 1:Nat) sc) r0 r1 r2 r3 (.slice oA on oc) false e0) w
 have y0:=(bb.cell (p:=⟨cb,co + i * 3,none⟩) hcb).trans x0
 have y1:=(bb.cell (p:=⟨cb,co + i * 3 + 1,none⟩) hcb).trans x1
 have y2:=(bb.cell (p:=⟨cb,co + i * 3 + 2,none⟩) hcb).trans x2
 have HM:=Lib.hid hM
 clear hC hx hl bb hM
 obtain ⟨i0,hi0,hz0,hz1,hz2⟩:=infoInt
 obtain ⟨sb,so,rfl,-,-⟩:=HM.out.st.2.2.2 (by omega)
 have B0:Hid (Below w.heap.size w ((sB #[.slice ra nr rc,.slice wa nw wc,.slice aa na ac,.int .i64 cf,.slice (some ⟨cb,co,none⟩) nc cc] (mC ((i:Int) + 1) (fuel - 1) (.slice (some ⟨sb,so,none⟩) (k + 1:Nat) sc) r0 r1 r2 r3 (.slice oA on oc) false e0) w).alloc (.cells #[.int .i64 3,.int .i64 0,.int .i64 b] 72))):=Lib.hid (bnext (sB_below _ _ _) (below_alloc1 _ _))
 have X0:Hid (Bk ((sB #[.slice ra nr rc,.slice wa nw wc,.slice aa na ac,.int .i64 cf,.slice (some ⟨cb,co,none⟩) nc cc] (mC ((i:Int) + 1) (fuel - 1) (.slice (some ⟨sb,so,none⟩) (k + 1:Nat) sc) r0 r1 r2 r3 (.slice oA on oc) false e0) w).alloc (.cells #[.int .i64 3,.int .i64 0,.int .i64 b] 72)) (w.heap.size + 1) 64 (mC ((i:Int) + 1) (fuel - 1) (.slice (some ⟨sb,so,none⟩) (k + 1:Nat) sc) r0 r1 r2 r3 (.slice oA on oc) false e0)):=Lib.hid ((sB_box _ _ _).alloc _)
 have R0:Hid (Bk ((sB #[.slice ra nr rc,.slice wa nw wc,.slice aa na ac,.int .i64 cf,.slice (some ⟨cb,co,none⟩) nc cc] (mC ((i:Int) + 1) (fuel - 1) (.slice (some ⟨sb,so,none⟩) (k + 1:Nat) sc) r0 r1 r2 r3 (.slice oA on oc) false e0) w).alloc (.cells #[.int .i64 3,.int .i64 0,.int .i64 b] 72)) (w.heap.size + 1 + 1) 64 mZ):=Lib.hid ((sB_res _ _ _).alloc _)
 have I0:Hid (Bk ((sB #[.slice ra nr rc,.slice wa nw wc,.slice aa na ac,.int .i64 cf,.slice (some ⟨cb,co,none⟩) nc cc] (mC ((i:Int) + 1) (fuel - 1) (.slice (some ⟨sb,so,none⟩) (k + 1:Nat) sc) r0 r1 r2 r3 (.slice oA on oc) false e0) w).alloc (.cells #[.int .i64 3,.int .i64 0,.int .i64 b] 72)) (w.heap.size + 1 + 1 + 1) 72 #[.int .i64 3,.int .i64 0,.int .i64 b]):=Lib.hid (rW_ins _ _ _ _)
 have hpop:=Lib.hid (rpop1 ((i:Int) + 1) (fuel - 1) st r0 r1 r2 r3 false e0 (some ⟨sb,so,none⟩) sc oA on oc k ((sB #[.slice ra nr rc,.slice wa nw wc,.slice aa na ac,.int .i64 cf,.slice (some ⟨cb,co,none⟩) nc cc] (mC ((i:Int) + 1) (fuel - 1) (.slice (some ⟨sb,so,none⟩) (k + 1:Nat) sc) r0 r1 r2 r3 (.slice oA on oc) false e0) w).alloc (.cells #[.int .i64 3,.int .i64 0,.int .i64 b] 72)) (HM.out.st.below B0.out) hk)
 have hWs:Hid (w.heap.size + 1 + 1 + 1 < ((sB #[.slice ra nr rc,.slice wa nw wc,.slice aa na ac,.int .i64 cf,.slice (some ⟨cb,co,none⟩) nc cc] (mC ((i:Int) + 1) (fuel - 1) (.slice (some ⟨sb,so,none⟩) (k + 1:Nat) sc) r0 r1 r2 r3 (.slice oA on oc) false e0) w).alloc (.cells #[.int .i64 3,.int .i64 0,.int .i64 b] 72)).heap.size):=Lib.hid I0.out.lt
 go_enter Tryz.func46,Tryz.ntmps46
 go_wp2_with (first
  | (with_reducible refine ld_mach (w.heap.size + 1) X0.out _ rfl rfl rfl ?_)
  | (go_at_call 89;go_must ((with_reducible refine hpop.out.mono ?_);rintro e w1 ⟨⟨A,c,A',c',rfl,p1,p2⟩,hb1⟩;have BB:Hid (Below w.heap.size w (w1.setCell ⟨w.heap.size + 1,2,none⟩ (.slice A' k c'))):=Lib.hid ((bnext B0.out hb1).setCell (p:=⟨w.heap.size + 1,2,none⟩) (by simp) _);have P1:=Lib.hid (own_cellBelow p1 (G:=w.heap.size + 1) (by have:=hWs.out;omega) 2 (.slice A' k c'));have P2:=Lib.hid (own_cellBelow p2 (G:=w.heap.size + 1) (by have:=hWs.out;omega) 2 (.slice A' k c'));have X1:=Lib.hid (X0.out.below hb1);have X2:Hid (Bk (w1.setCell ⟨w.heap.size + 1,2,none⟩ (.slice A' k c')) (w.heap.size + 1) 64 (mC ((i:Int) + 1) (fuel - 1) (.slice A' k c') r0 r1 r2 r3 (.slice oA on oc) false e0)):=Lib.hid (by simpa using X1.out.set 2 (.slice A' k c'));have R2:=Lib.hid ((R0.out.below hb1).far (p:=⟨w.heap.size + 1,2,none⟩) (by simp only;omega) (.slice A' k c'));have I2:=Lib.hid ((I0.out.below hb1).far (p:=⟨w.heap.size + 1,2,none⟩) (by simp only;omega) (.slice A' k c'));have M2:=Lib.hid (((HM.out.below B0.out).below hb1).setCell (HM.out.offNew (G:=w.heap.size + 1) (by omega)) 2 (.slice A' k c'));have z2:=X1.out.cell 2;have zf:=X1.out.frozen;have zl:=X1.out.lt;have zi:=I2.out.cell 0;simp only [List.getElem?_toArray,List.getElem?_cons_zero,List.getElem?_cons_succ] at z2 zi;clear p1 p2 hb1)))
 have hb2:Hid (w.heap.size + 1 + 1 + 1 < (w1.setCell ⟨w.heap.size + 1,2,none⟩ (.slice A' k c')).heap.size):=Lib.hid I2.out.lt
 generalize w1.setCell ⟨w.heap.size + 1,2,none⟩ (.slice A' k c')=wr at *
 have hWr:=hb2.out
 have hWz:=hWs.out
 try simp only [List.append_eq,List.cons_append,List.nil_append]
 obtain ⟨g,cur,rfl,hgB,hgk,hgc,-,hgs,hgt⟩:=own_pos P1.out (by omega)
 have hg0:Hid (∀ X,Below wr.heap.size wr X→X.cell? ⟨g,0,none⟩=some (.int .i64 top)):=Lib.hid (fun X hX=>by
  rw [HT.out,(hgk.below hX).cell 0,← Array.getElem?_toList]
  have hl:=HM.out.st.1
  simp at hl
  have h1:(cur.toList.take (1 * 1))[0]? = (((st.drop k).map (Value.int .i64)))[0]?:=by rw [hgt]
  rw [List.getElem?_take,if_pos (by omega)] at h1
  rw [h1,List.getElem?_map,List.getElem?_drop]
  simp [show k < st.length by omega])
 have hgc1:(1:Int)≤(c:Int):=by omega
 have hgB2:w.heap.size + 1 + 1 + 1 < g:=by have:=hWs.out;omega
 clear hgk hgs hgt
 refine wp_region_saysK 7 (fun x y=>Below x.heap.size x y) (fun _ _ _ h k=>bnext h k) wr (below_drew1 wr) (by kernel_rfl) (by kernel_rfl) (by kernel_rfl) (by kernel_rfl) (by rfl) ?_
 simp only [List.take_succ_cons,List.take_zero,List.drop_succ_cons,List.drop_zero]
 refine walkK_is ?_ (by first | exact gs0 rfl | exact gs1 rfl rfl rfl) (fun _=>Below.refl _ _) (fun u X hX hd=>?_) ?_
 rotate_left
 ·have q1:=(I2.out.below hX).cell 1
  have q2:=hg0.out X hX
  simp only [List.getElem?_toArray,List.getElem?_cons_zero,List.getElem?_cons_succ] at q1
  try simp at hd
  go_simp
  try rfl
 apply walkK_norm
 ·first | (simp only [List.nil_append];rfl) | simp only [List.nil_append]
 refine walkK_is ?_ (by first | exact gs0 rfl | exact gs1 rfl rfl rfl) (fun _=>Below.refl _ _) (fun u X hX hd=>?_) ?_
 rotate_left
 ·have q1:=(I2.out.below hX).cell 1
  have q2:=hg0.out X hX
  simp only [List.getElem?_toArray,List.getElem?_cons_zero,List.getElem?_cons_succ] at q1
  try simp at hd
  go_simp
  try rfl
 apply walkK_norm
 ·first | (simp only [List.nil_append,List.cons_append];rfl) | simp only [List.nil_append,List.cons_append]
 refine walkK_is ?_ (by first | exact gs0 rfl | exact gs1 rfl rfl rfl) (fun _=>Below.refl _ _) (fun u X hX hd=>?_) ?_
 rotate_left
 ·have q1:=(I2.out.below hX).cell 1
  have q2:=hg0.out X hX
  simp only [List.getElem?_toArray,List.getElem?_cons_zero,List.getElem?_cons_succ] at q1
  try simp at hd
  go_simp
  try rfl
 apply walkK_norm
 ·first | (simp only [List.nil_append,List.cons_append];rfl) | simp only [List.nil_append,List.cons_append]
 refine walkK_is ?_ (by first | exact gs0 rfl | exact gs1 rfl rfl rfl) (fun _=>Below.refl _ _) (fun u X hX hd=>?_) ?_
 rotate_left
 ·have q1:=(I2.out.below hX).cell 1
  have q2:=hg0.out X hX
  simp only [List.getElem?_toArray,List.getElem?_cons_zero,List.getElem?_cons_succ] at q1
  try simp at hd
  go_simp
  try rfl
 apply walkK_norm
 ·first | (simp only [List.nil_append,List.cons_append];rfl) | simp only [List.nil_append,List.cons_append]
 refine walkK_is ?_ (by first | exact gs0 rfl | exact gs1 rfl rfl rfl) (fun _=>Below.refl _ _) (fun u X hX hd=>?_) ?_
 rotate_left
 ·have q1:=(I2.out.below hX).cell 1
  have q2:=hg0.out X hX
  simp only [List.getElem?_toArray,List.getElem?_cons_zero,List.getElem?_cons_succ] at q1
  try simp at hd
  go_simp
  try rfl
 apply walkK_norm
 ·first | (simp only [List.nil_append,List.cons_append];rfl) | simp only [List.nil_append,List.cons_append]
 refine walkK_is ?_ (by first | exact gs0 rfl | exact gs1 rfl rfl rfl) (fun _=>Below.refl _ _) (fun u X hX hd=>?_) ?_
 rotate_left
 ·have q1:=(I2.out.below hX).cell 1
  have q2:=hg0.out X hX
  simp only [List.getElem?_toArray,List.getElem?_cons_zero,List.getElem?_cons_succ] at q1
  try simp at hd
  go_simp
  try rfl
 apply walkK_norm
 ·first | (simp only [List.nil_append,List.cons_append];rfl) | simp only [List.nil_append,List.cons_append]
 refine walkK_is ?_ (by first | exact gs0 rfl | exact gs1 rfl rfl rfl) (fun _=>Below.refl _ _) (fun u X hX hd=>?_) ?_
 rotate_left
 ·have q1:=(I2.out.below hX).cell 1
  have q2:=hg0.out X hX
  simp only [List.getElem?_toArray,List.getElem?_cons_zero,List.getElem?_cons_succ] at q1
  try simp at hd
  go_simp
  try rfl
 apply walkK_norm
 ·first | (simp only [List.nil_append,List.cons_append];rfl) | simp only [List.nil_append,List.cons_append]
 intro u X hX hsay
 simp only [sayAll,isV] at hsay
 obtain ⟨v0,v1,v2,v3,v4,v5,v6,-⟩:=hsay
 have XB:=Lib.hid (X2.out.below hX)
 have z3:=XB.out.cell 3
 have zg:=XB.out.frozen
 have zm:=XB.out.lt
 simp only [List.getElem?_toArray,List.getElem?_cons_zero,List.getElem?_cons_succ] at z3
 have X3:Hid (Bk (X.setCell ⟨w.heap.size + 1,3,none⟩ (.int .i64 top)) (w.heap.size + 1) 64 (mC ((i:Int) + 1) (fuel - 1) (.slice A' k c') top r1 r2 r3 (.slice oA on oc) false e0)):=Lib.hid (by simpa using XB.out.set 3 (.int .i64 top))
 have R3:=Lib.hid ((R2.out.below hX).far (p:=⟨w.heap.size + 1,3,none⟩) (by simp) (.int .i64 top))
 have P3:=Lib.hid (own_cellBelow (own_below P2.out hX) (G:=w.heap.size + 1) (by omega) 3 (.int .i64 top))
 have M3:=Lib.hid ((M2.out.below hX).setCell (HM.out.offNew (G:=w.heap.size + 1) (by omega)) 3 (.int .i64 top))
 have B3:=Lib.hid ((bnext BB.out hX).setCell (p:=⟨w.heap.size + 1,3,none⟩) (by simp) (.int .i64 top))
 simp only [putAll,Act.put,v0,v1,v2,v3,v4,v5,v6,List.setIfInBounds_toArray,List.set_cons_succ,List.set_cons_zero]
 clear z2 zf zl zi v0 v1 v2 v3 v4 v5 v6
 go_wp2_with (first
  | (with_reducible refine ld_mach (w.heap.size + 1) X3.out _ rfl rfl rfl ?_)
  | (with_reducible refine st_mach (w.heap.size + 1 + 1) R3.out rfl rfl _ _ rfl rfl rfl rfl ?_))
 exact bodyPost_ret (v:=.tuple #[.agg (mC ((i:Int) + 1) (fuel - 1) (.slice A' k c') top r1 r2 r3 (.slice oA on oc) false e0),.slice bA bn bc]) (res2_mach rfl _ _ (w.heap.size + 1 + 1) _ rfl rfl (Bk.setRow R3.out _)) rfl
  ⟨_,_,_,_,_,_,_,_,_,rfl,MIn.setRow (⟨by have:=Sl.own' P3.out;simpa using this,M3.out.ou,M3.out.bk⟩) (⟨own_offA P3.out (by omega),(HM.out.offNew (by omega)).2⟩) _,below_row B3.out (by omega) _,fun G hG h=>⟨own_offA P3.out (by omega),h.2⟩⟩
set_option maxHeartbeats 4000000 in
set_option maxRecDepth 100000 in
theorem rstep3_1 (l:List Ins) (i:Nat) (k:Nat) (hk:k≤1000) (b:Int) (st ou:List Int) (own:Blks) (w:World) (hC:Inss w ca cc l) (hl:l.length=nc) (hi:i < nc) (hic:nc≤1000) (hx:insAt l i=⟨3,1,b⟩) (hM:MIn w st ou own sA (k + 1) sc oA on oc bA bn bc) (hf:fuel≠0) (hf2:0≤fuel∧fuel≤1000) :
  Calls Tryz.prog 46 #[cmV ra nr rc wa nw wc aa na ac cf ca nc cc,.agg (mC (i:Int) fuel (.slice sA (k + 1:Nat) sc) r0 r1 r2 r3 (.slice oA on oc) false e0),.slice bA bn bc] w (RSPost ((i:Int) + 1) (fuel - 1) (st.take k) r0 (st[k]?.getD 0) r2 r3 ou false e0 own sA (k + 1) oA on bA bn w):=by
 obtain ⟨top,htop⟩:∃ x,x=st[k]?.getD 0:=⟨_,rfl⟩
 try rw [← htop]
 have HT:=Lib.hid htop
 clear htop
 obtain ⟨cb,co,rfl,hcb,x0,x1,x2⟩:=hC.cellAt (j:=i) (by omega)
 rw [hx] at x0 x1 x2
 simp only at x0 x1 x2
 have hcc:=hC.2.1
 rw [hl] at hcc
 have d1:(i:Int) < (nc:Int):=by omega
 have d2:(i:Int) < (cc:Int):=by omega
 have f0:(fuel == 0)=false:=by simpa using hf
 have bb:=sB_below #[.slice ra nr rc,.slice wa nw wc,.slice aa na ac,.int .i64 cf,.slice (some ⟨cb,co,none⟩) nc cc] (mC (i:Int) (fuel - 1) (.slice sA (k + 1:Nat) sc) r0 r1 r2 r3 (.slice oA on oc) false e0) w
 have y0:=(bb.cell (p:=⟨cb,co + i * 3,none⟩) hcb).trans x0
 have y1:=(bb.cell (p:=⟨cb,co + i * 3 + 1,none⟩) hcb).trans x1
 have y2:=(bb.cell (p:=⟨cb,co + i * 3 + 2,none⟩) hcb).trans x2
 have HM:=Lib.hid hM
 clear hC hx hl bb hM
 obtain ⟨i0,hi0,hz0,hz1,hz2⟩:=infoInt
 obtain ⟨sb,so,rfl,-,-⟩:=HM.out.st.2.2.2 (by omega)
 have B0:Hid (Below w.heap.size w ((sB #[.slice ra nr rc,.slice wa nw wc,.slice aa na ac,.int .i64 cf,.slice (some ⟨cb,co,none⟩) nc cc] (mC ((i:Int) + 1) (fuel - 1) (.slice (some ⟨sb,so,none⟩) (k + 1:Nat) sc) r0 r1 r2 r3 (.slice oA on oc) false e0) w).alloc (.cells #[.int .i64 3,.int .i64 1,.int .i64 b] 72))):=Lib.hid (bnext (sB_below _ _ _) (below_alloc1 _ _))
 have X0:Hid (Bk ((sB #[.slice ra nr rc,.slice wa nw wc,.slice aa na ac,.int .i64 cf,.slice (some ⟨cb,co,none⟩) nc cc] (mC ((i:Int) + 1) (fuel - 1) (.slice (some ⟨sb,so,none⟩) (k + 1:Nat) sc) r0 r1 r2 r3 (.slice oA on oc) false e0) w).alloc (.cells #[.int .i64 3,.int .i64 1,.int .i64 b] 72)) (w.heap.size + 1) 64 (mC ((i:Int) + 1) (fuel - 1) (.slice (some ⟨sb,so,none⟩) (k + 1:Nat) sc) r0 r1 r2 r3 (.slice oA on oc) false e0)):=Lib.hid ((sB_box _ _ _).alloc _)
 have R0:Hid (Bk ((sB #[.slice ra nr rc,.slice wa nw wc,.slice aa na ac,.int .i64 cf,.slice (some ⟨cb,co,none⟩) nc cc] (mC ((i:Int) + 1) (fuel - 1) (.slice (some ⟨sb,so,none⟩) (k + 1:Nat) sc) r0 r1 r2 r3 (.slice oA on oc) false e0) w).alloc (.cells #[.int .i64 3,.int .i64 1,.int .i64 b] 72)) (w.heap.size + 1 + 1) 64 mZ):=Lib.hid ((sB_res _ _ _).alloc _)
 have I0:Hid (Bk ((sB #[.slice ra nr rc,.slice wa nw wc,.slice aa na ac,.int .i64 cf,.slice (some ⟨cb,co,none⟩) nc cc] (mC ((i:Int) + 1) (fuel - 1) (.slice (some ⟨sb,so,none⟩) (k + 1:Nat) sc) r0 r1 r2 r3 (.slice oA on oc) false e0) w).alloc (.cells #[.int .i64 3,.int .i64 1,.int .i64 b] 72)) (w.heap.size + 1 + 1 + 1) 72 #[.int .i64 3,.int .i64 1,.int .i64 b]):=Lib.hid (rW_ins _ _ _ _)
 have hpop:=Lib.hid (rpop1 ((i:Int) + 1) (fuel - 1) st r0 r1 r2 r3 false e0 (some ⟨sb,so,none⟩) sc oA on oc k ((sB #[.slice ra nr rc,.slice wa nw wc,.slice aa na ac,.int .i64 cf,.slice (some ⟨cb,co,none⟩) nc cc] (mC ((i:Int) + 1) (fuel - 1) (.slice (some ⟨sb,so,none⟩) (k + 1:Nat) sc) r0 r1 r2 r3 (.slice oA on oc) false e0) w).alloc (.cells #[.int .i64 3,.int .i64 1,.int .i64 b] 72)) (HM.out.st.below B0.out) hk)
 have hWs:Hid (w.heap.size + 1 + 1 + 1 < ((sB #[.slice ra nr rc,.slice wa nw wc,.slice aa na ac,.int .i64 cf,.slice (some ⟨cb,co,none⟩) nc cc] (mC ((i:Int) + 1) (fuel - 1) (.slice (some ⟨sb,so,none⟩) (k + 1:Nat) sc) r0 r1 r2 r3 (.slice oA on oc) false e0) w).alloc (.cells #[.int .i64 3,.int .i64 1,.int .i64 b] 72)).heap.size):=Lib.hid I0.out.lt
 go_enter Tryz.func46,Tryz.ntmps46
 go_wp2_with (first
  | (with_reducible refine ld_mach (w.heap.size + 1) X0.out _ rfl rfl rfl ?_)
  | (go_at_call 89;go_must ((with_reducible refine hpop.out.mono ?_);rintro e w1 ⟨⟨A,c,A',c',rfl,p1,p2⟩,hb1⟩;have BB:Hid (Below w.heap.size w (w1.setCell ⟨w.heap.size + 1,2,none⟩ (.slice A' k c'))):=Lib.hid ((bnext B0.out hb1).setCell (p:=⟨w.heap.size + 1,2,none⟩) (by simp) _);have P1:=Lib.hid (own_cellBelow p1 (G:=w.heap.size + 1) (by have:=hWs.out;omega) 2 (.slice A' k c'));have P2:=Lib.hid (own_cellBelow p2 (G:=w.heap.size + 1) (by have:=hWs.out;omega) 2 (.slice A' k c'));have X1:=Lib.hid (X0.out.below hb1);have X2:Hid (Bk (w1.setCell ⟨w.heap.size + 1,2,none⟩ (.slice A' k c')) (w.heap.size + 1) 64 (mC ((i:Int) + 1) (fuel - 1) (.slice A' k c') r0 r1 r2 r3 (.slice oA on oc) false e0)):=Lib.hid (by simpa using X1.out.set 2 (.slice A' k c'));have R2:=Lib.hid ((R0.out.below hb1).far (p:=⟨w.heap.size + 1,2,none⟩) (by simp only;omega) (.slice A' k c'));have I2:=Lib.hid ((I0.out.below hb1).far (p:=⟨w.heap.size + 1,2,none⟩) (by simp only;omega) (.slice A' k c'));have M2:=Lib.hid (((HM.out.below B0.out).below hb1).setCell (HM.out.offNew (G:=w.heap.size + 1) (by omega)) 2 (.slice A' k c'));have z2:=X1.out.cell 2;have zf:=X1.out.frozen;have zl:=X1.out.lt;have zi:=I2.out.cell 0;simp only [List.getElem?_toArray,List.getElem?_cons_zero,List.getElem?_cons_succ] at z2 zi;clear p1 p2 hb1)))
 have hb2:Hid (w.heap.size + 1 + 1 + 1 < (w1.setCell ⟨w.heap.size + 1,2,none⟩ (.slice A' k c')).heap.size):=Lib.hid I2.out.lt
 generalize w1.setCell ⟨w.heap.size + 1,2,none⟩ (.slice A' k c')=wr at *
 have hWr:=hb2.out
 have hWz:=hWs.out
 try simp only [List.append_eq,List.cons_append,List.nil_append]
 obtain ⟨g,cur,rfl,hgB,hgk,hgc,-,hgs,hgt⟩:=own_pos P1.out (by omega)
 have hg0:Hid (∀ X,Below wr.heap.size wr X→X.cell? ⟨g,0,none⟩=some (.int .i64 top)):=Lib.hid (fun X hX=>by
  rw [HT.out,(hgk.below hX).cell 0,← Array.getElem?_toList]
  have hl:=HM.out.st.1
  simp at hl
  have h1:(cur.toList.take (1 * 1))[0]? = (((st.drop k).map (Value.int .i64)))[0]?:=by rw [hgt]
  rw [List.getElem?_take,if_pos (by omega)] at h1
  rw [h1,List.getElem?_map,List.getElem?_drop]
  simp [show k < st.length by omega])
 have hgc1:(1:Int)≤(c:Int):=by omega
 have hgB2:w.heap.size + 1 + 1 + 1 < g:=by have:=hWs.out;omega
 clear hgk hgs hgt
 refine wp_region_saysK 7 (fun x y=>Below x.heap.size x y) (fun _ _ _ h k=>bnext h k) wr (below_drew1 wr) (by kernel_rfl) (by kernel_rfl) (by kernel_rfl) (by kernel_rfl) (by rfl) ?_
 simp only [List.take_succ_cons,List.take_zero,List.drop_succ_cons,List.drop_zero]
 refine walkK_is ?_ (by first | exact gs0 rfl | exact gs1 rfl rfl rfl) (fun _=>Below.refl _ _) (fun u X hX hd=>?_) ?_
 rotate_left
 ·have q1:=(I2.out.below hX).cell 1
  have q2:=hg0.out X hX
  simp only [List.getElem?_toArray,List.getElem?_cons_zero,List.getElem?_cons_succ] at q1
  try simp at hd
  go_simp
  try rfl
 apply walkK_norm
 ·first | (simp only [List.nil_append];rfl) | simp only [List.nil_append]
 refine walkK_is ?_ (by first | exact gs0 rfl | exact gs1 rfl rfl rfl) (fun _=>Below.refl _ _) (fun u X hX hd=>?_) ?_
 rotate_left
 ·have q1:=(I2.out.below hX).cell 1
  have q2:=hg0.out X hX
  simp only [List.getElem?_toArray,List.getElem?_cons_zero,List.getElem?_cons_succ] at q1
  try simp at hd
  go_simp
  try rfl
 apply walkK_norm
 ·first | (simp only [List.nil_append,List.cons_append];rfl) | simp only [List.nil_append,List.cons_append]
 refine walkK_is ?_ (by first | exact gs0 rfl | exact gs1 rfl rfl rfl) (fun _=>Below.refl _ _) (fun u X hX hd=>?_) ?_
 rotate_left
 ·have q1:=(I2.out.below hX).cell 1
  have q2:=hg0.out X hX
  simp only [List.getElem?_toArray,List.getElem?_cons_zero,List.getElem?_cons_succ] at q1
  try simp at hd
  go_simp
  try rfl
 apply walkK_norm
 ·first | (simp only [List.nil_append,List.cons_append];rfl) | simp only [List.nil_append,List.cons_append]
 refine walkK_is ?_ (by first | exact gs0 rfl | exact gs1 rfl rfl rfl) (fun _=>Below.refl _ _) (fun u X hX hd=>?_) ?_
 rotate_left
 ·have q1:=(I2.out.below hX).cell 1
  have q2:=hg0.out X hX
  simp only [List.getElem?_toArray,List.getElem?_cons_zero,List.getElem?_cons_succ] at q1
  try simp at hd
  go_simp
  try rfl
 apply walkK_norm
 ·first | (simp only [List.nil_append,List.cons_append];rfl) | simp only [List.nil_append,List.cons_append]
 refine walkK_is ?_ (by first | exact gs0 rfl | exact gs1 rfl rfl rfl) (fun _=>Below.refl _ _) (fun u X hX hd=>?_) ?_
 rotate_left
 ·have q1:=(I2.out.below hX).cell 1
  have q2:=hg0.out X hX
  simp only [List.getElem?_toArray,List.getElem?_cons_zero,List.getElem?_cons_succ] at q1
  try simp at hd
  go_simp
  try rfl
 apply walkK_norm
 ·first | (simp only [List.nil_append,List.cons_append];rfl) | simp only [List.nil_append,List.cons_append]
 refine walkK_is ?_ (by first | exact gs0 rfl | exact gs1 rfl rfl rfl) (fun _=>Below.refl _ _) (fun u X hX hd=>?_) ?_
 rotate_left
 ·have q1:=(I2.out.below hX).cell 1
  have q2:=hg0.out X hX
  simp only [List.getElem?_toArray,List.getElem?_cons_zero,List.getElem?_cons_succ] at q1
  try simp at hd
  go_simp
  try rfl
 apply walkK_norm
 ·first | (simp only [List.nil_append,List.cons_append];rfl) | simp only [List.nil_append,List.cons_append]
 refine walkK_is ?_ (by first | exact gs0 rfl | exact gs1 rfl rfl rfl) (fun _=>Below.refl _ _) (fun u X hX hd=>?_) ?_
 rotate_left
 ·have q1:=(I2.out.below hX).cell 1
  have q2:=hg0.out X hX
  simp only [List.getElem?_toArray,List.getElem?_cons_zero,List.getElem?_cons_succ] at q1
  try simp at hd
  go_simp
  try rfl
 apply walkK_norm
 ·first | (simp only [List.nil_append,List.cons_append];rfl) | simp only [List.nil_append,List.cons_append]
 intro u X hX hsay
 simp only [sayAll,isV] at hsay
 obtain ⟨v0,v1,v2,v3,v4,v5,v6,-⟩:=hsay
 have XB:=Lib.hid (X2.out.below hX)
 have z3:=XB.out.cell 4
 have zg:=XB.out.frozen
 have zm:=XB.out.lt
 simp only [List.getElem?_toArray,List.getElem?_cons_zero,List.getElem?_cons_succ] at z3
 have X3:Hid (Bk (X.setCell ⟨w.heap.size + 1,4,none⟩ (.int .i64 top)) (w.heap.size + 1) 64 (mC ((i:Int) + 1) (fuel - 1) (.slice A' k c') r0 top r2 r3 (.slice oA on oc) false e0)):=Lib.hid (by simpa using XB.out.set 4 (.int .i64 top))
 have R3:=Lib.hid ((R2.out.below hX).far (p:=⟨w.heap.size + 1,4,none⟩) (by simp) (.int .i64 top))
 have P3:=Lib.hid (own_cellBelow (own_below P2.out hX) (G:=w.heap.size + 1) (by omega) 4 (.int .i64 top))
 have M3:=Lib.hid ((M2.out.below hX).setCell (HM.out.offNew (G:=w.heap.size + 1) (by omega)) 4 (.int .i64 top))
 have B3:=Lib.hid ((bnext BB.out hX).setCell (p:=⟨w.heap.size + 1,4,none⟩) (by simp) (.int .i64 top))
 simp only [putAll,Act.put,v0,v1,v2,v3,v4,v5,v6,List.setIfInBounds_toArray,List.set_cons_succ,List.set_cons_zero]
 clear z2 zf zl zi v0 v1 v2 v3 v4 v5 v6
 go_wp2_with (first
  | (with_reducible refine ld_mach (w.heap.size + 1) X3.out _ rfl rfl rfl ?_)
  | (with_reducible refine st_mach (w.heap.size + 1 + 1) R3.out rfl rfl _ _ rfl rfl rfl rfl ?_))
 exact bodyPost_ret (v:=.tuple #[.agg (mC ((i:Int) + 1) (fuel - 1) (.slice A' k c') r0 top r2 r3 (.slice oA on oc) false e0),.slice bA bn bc]) (res2_mach rfl _ _ (w.heap.size + 1 + 1) _ rfl rfl (Bk.setRow R3.out _)) rfl
  ⟨_,_,_,_,_,_,_,_,_,rfl,MIn.setRow (⟨by have:=Sl.own' P3.out;simpa using this,M3.out.ou,M3.out.bk⟩) (⟨own_offA P3.out (by omega),(HM.out.offNew (by omega)).2⟩) _,below_row B3.out (by omega) _,fun G hG h=>⟨own_offA P3.out (by omega),h.2⟩⟩
set_option maxHeartbeats 4000000 in
set_option maxRecDepth 100000 in
theorem rstep3_2 (l:List Ins) (i:Nat) (k:Nat) (hk:k≤1000) (b:Int) (st ou:List Int) (own:Blks) (w:World) (hC:Inss w ca cc l) (hl:l.length=nc) (hi:i < nc) (hic:nc≤1000) (hx:insAt l i=⟨3,2,b⟩) (hM:MIn w st ou own sA (k + 1) sc oA on oc bA bn bc) (hf:fuel≠0) (hf2:0≤fuel∧fuel≤1000) :
  Calls Tryz.prog 46 #[cmV ra nr rc wa nw wc aa na ac cf ca nc cc,.agg (mC (i:Int) fuel (.slice sA (k + 1:Nat) sc) r0 r1 r2 r3 (.slice oA on oc) false e0),.slice bA bn bc] w (RSPost ((i:Int) + 1) (fuel - 1) (st.take k) r0 r1 (st[k]?.getD 0) r3 ou false e0 own sA (k + 1) oA on bA bn w):=by
 obtain ⟨top,htop⟩:∃ x,x=st[k]?.getD 0:=⟨_,rfl⟩
 try rw [← htop]
 have HT:=Lib.hid htop
 clear htop
 obtain ⟨cb,co,rfl,hcb,x0,x1,x2⟩:=hC.cellAt (j:=i) (by omega)
 rw [hx] at x0 x1 x2
 simp only at x0 x1 x2
 have hcc:=hC.2.1
 rw [hl] at hcc
 have d1:(i:Int) < (nc:Int):=by omega
 have d2:(i:Int) < (cc:Int):=by omega
 have f0:(fuel == 0)=false:=by simpa using hf
 have bb:=sB_below #[.slice ra nr rc,.slice wa nw wc,.slice aa na ac,.int .i64 cf,.slice (some ⟨cb,co,none⟩) nc cc] (mC (i:Int) (fuel - 1) (.slice sA (k + 1:Nat) sc) r0 r1 r2 r3 (.slice oA on oc) false e0) w
 have y0:=(bb.cell (p:=⟨cb,co + i * 3,none⟩) hcb).trans x0
 have y1:=(bb.cell (p:=⟨cb,co + i * 3 + 1,none⟩) hcb).trans x1
 have y2:=(bb.cell (p:=⟨cb,co + i * 3 + 2,none⟩) hcb).trans x2
 have HM:=Lib.hid hM
 clear hC hx hl bb hM
 obtain ⟨i0,hi0,hz0,hz1,hz2⟩:=infoInt
 obtain ⟨sb,so,rfl,-,-⟩:=HM.out.st.2.2.2 (by omega)
 have B0:Hid (Below w.heap.size w ((sB #[.slice ra nr rc,.slice wa nw wc,.slice aa na ac,.int .i64 cf,.slice (some ⟨cb,co,none⟩) nc cc] (mC ((i:Int) + 1) (fuel - 1) (.slice (some ⟨sb,so,none⟩) (k + 1:Nat) sc) r0 r1 r2 r3 (.slice oA on oc) false e0) w).alloc (.cells #[.int .i64 3,.int .i64 2,.int .i64 b] 72))):=Lib.hid (bnext (sB_below _ _ _) (below_alloc1 _ _))
 have X0:Hid (Bk ((sB #[.slice ra nr rc,.slice wa nw wc,.slice aa na ac,.int .i64 cf,.slice (some ⟨cb,co,none⟩) nc cc] (mC ((i:Int) + 1) (fuel - 1) (.slice (some ⟨sb,so,none⟩) (k + 1:Nat) sc) r0 r1 r2 r3 (.slice oA on oc) false e0) w).alloc (.cells #[.int .i64 3,.int .i64 2,.int .i64 b] 72)) (w.heap.size + 1) 64 (mC ((i:Int) + 1) (fuel - 1) (.slice (some ⟨sb,so,none⟩) (k + 1:Nat) sc) r0 r1 r2 r3 (.slice oA on oc) false e0)):=Lib.hid ((sB_box _ _ _).alloc _)
 have R0:Hid (Bk ((sB #[.slice ra nr rc,.slice wa nw wc,.slice aa na ac,.int .i64 cf,.slice (some ⟨cb,co,none⟩) nc cc] (mC ((i:Int) + 1) (fuel - 1) (.slice (some ⟨sb,so,none⟩) (k + 1:Nat) sc) r0 r1 r2 r3 (.slice oA on oc) false e0) w).alloc (.cells #[.int .i64 3,.int .i64 2,.int .i64 b] 72)) (w.heap.size + 1 + 1) 64 mZ):=Lib.hid ((sB_res _ _ _).alloc _)
 have I0:Hid (Bk ((sB #[.slice ra nr rc,.slice wa nw wc,.slice aa na ac,.int .i64 cf,.slice (some ⟨cb,co,none⟩) nc cc] (mC ((i:Int) + 1) (fuel - 1) (.slice (some ⟨sb,so,none⟩) (k + 1:Nat) sc) r0 r1 r2 r3 (.slice oA on oc) false e0) w).alloc (.cells #[.int .i64 3,.int .i64 2,.int .i64 b] 72)) (w.heap.size + 1 + 1 + 1) 72 #[.int .i64 3,.int .i64 2,.int .i64 b]):=Lib.hid (rW_ins _ _ _ _)
 have hpop:=Lib.hid (rpop1 ((i:Int) + 1) (fuel - 1) st r0 r1 r2 r3 false e0 (some ⟨sb,so,none⟩) sc oA on oc k ((sB #[.slice ra nr rc,.slice wa nw wc,.slice aa na ac,.int .i64 cf,.slice (some ⟨cb,co,none⟩) nc cc] (mC ((i:Int) + 1) (fuel - 1) (.slice (some ⟨sb,so,none⟩) (k + 1:Nat) sc) r0 r1 r2 r3 (.slice oA on oc) false e0) w).alloc (.cells #[.int .i64 3,.int .i64 2,.int .i64 b] 72)) (HM.out.st.below B0.out) hk)
 have hWs:Hid (w.heap.size + 1 + 1 + 1 < ((sB #[.slice ra nr rc,.slice wa nw wc,.slice aa na ac,.int .i64 cf,.slice (some ⟨cb,co,none⟩) nc cc] (mC ((i:Int) + 1) (fuel - 1) (.slice (some ⟨sb,so,none⟩) (k + 1:Nat) sc) r0 r1 r2 r3 (.slice oA on oc) false e0) w).alloc (.cells #[.int .i64 3,.int .i64 2,.int .i64 b] 72)).heap.size):=Lib.hid I0.out.lt
 go_enter Tryz.func46,Tryz.ntmps46
 go_wp2_with (first
  | (with_reducible refine ld_mach (w.heap.size + 1) X0.out _ rfl rfl rfl ?_)
  | (go_at_call 89;go_must ((with_reducible refine hpop.out.mono ?_);rintro e w1 ⟨⟨A,c,A',c',rfl,p1,p2⟩,hb1⟩;have BB:Hid (Below w.heap.size w (w1.setCell ⟨w.heap.size + 1,2,none⟩ (.slice A' k c'))):=Lib.hid ((bnext B0.out hb1).setCell (p:=⟨w.heap.size + 1,2,none⟩) (by simp) _);have P1:=Lib.hid (own_cellBelow p1 (G:=w.heap.size + 1) (by have:=hWs.out;omega) 2 (.slice A' k c'));have P2:=Lib.hid (own_cellBelow p2 (G:=w.heap.size + 1) (by have:=hWs.out;omega) 2 (.slice A' k c'));have X1:=Lib.hid (X0.out.below hb1);have X2:Hid (Bk (w1.setCell ⟨w.heap.size + 1,2,none⟩ (.slice A' k c')) (w.heap.size + 1) 64 (mC ((i:Int) + 1) (fuel - 1) (.slice A' k c') r0 r1 r2 r3 (.slice oA on oc) false e0)):=Lib.hid (by simpa using X1.out.set 2 (.slice A' k c'));have R2:=Lib.hid ((R0.out.below hb1).far (p:=⟨w.heap.size + 1,2,none⟩) (by simp only;omega) (.slice A' k c'));have I2:=Lib.hid ((I0.out.below hb1).far (p:=⟨w.heap.size + 1,2,none⟩) (by simp only;omega) (.slice A' k c'));have M2:=Lib.hid (((HM.out.below B0.out).below hb1).setCell (HM.out.offNew (G:=w.heap.size + 1) (by omega)) 2 (.slice A' k c'));have z2:=X1.out.cell 2;have zf:=X1.out.frozen;have zl:=X1.out.lt;have zi:=I2.out.cell 0;simp only [List.getElem?_toArray,List.getElem?_cons_zero,List.getElem?_cons_succ] at z2 zi;clear p1 p2 hb1)))
 have hb2:Hid (w.heap.size + 1 + 1 + 1 < (w1.setCell ⟨w.heap.size + 1,2,none⟩ (.slice A' k c')).heap.size):=Lib.hid I2.out.lt
 generalize w1.setCell ⟨w.heap.size + 1,2,none⟩ (.slice A' k c')=wr at *
 have hWr:=hb2.out
 have hWz:=hWs.out
 try simp only [List.append_eq,List.cons_append,List.nil_append]
 obtain ⟨g,cur,rfl,hgB,hgk,hgc,-,hgs,hgt⟩:=own_pos P1.out (by omega)
 have hg0:Hid (∀ X,Below wr.heap.size wr X→X.cell? ⟨g,0,none⟩=some (.int .i64 top)):=Lib.hid (fun X hX=>by
  rw [HT.out,(hgk.below hX).cell 0,← Array.getElem?_toList]
  have hl:=HM.out.st.1
  simp at hl
  have h1:(cur.toList.take (1 * 1))[0]? = (((st.drop k).map (Value.int .i64)))[0]?:=by rw [hgt]
  rw [List.getElem?_take,if_pos (by omega)] at h1
  rw [h1,List.getElem?_map,List.getElem?_drop]
  simp [show k < st.length by omega])
 have hgc1:(1:Int)≤(c:Int):=by omega
 have hgB2:w.heap.size + 1 + 1 + 1 < g:=by have:=hWs.out;omega
 clear hgk hgs hgt
 refine wp_region_saysK 7 (fun x y=>Below x.heap.size x y) (fun _ _ _ h k=>bnext h k) wr (below_drew1 wr) (by kernel_rfl) (by kernel_rfl) (by kernel_rfl) (by kernel_rfl) (by rfl) ?_
 simp only [List.take_succ_cons,List.take_zero,List.drop_succ_cons,List.drop_zero]
 refine walkK_is ?_ (by first | exact gs0 rfl | exact gs1 rfl rfl rfl) (fun _=>Below.refl _ _) (fun u X hX hd=>?_) ?_
 rotate_left
 ·have q1:=(I2.out.below hX).cell 1
  have q2:=hg0.out X hX
  simp only [List.getElem?_toArray,List.getElem?_cons_zero,List.getElem?_cons_succ] at q1
  try simp at hd
  go_simp
  try rfl
 apply walkK_norm
 ·first | (simp only [List.nil_append];rfl) | simp only [List.nil_append]
 refine walkK_is ?_ (by first | exact gs0 rfl | exact gs1 rfl rfl rfl) (fun _=>Below.refl _ _) (fun u X hX hd=>?_) ?_
 rotate_left
 ·have q1:=(I2.out.below hX).cell 1
  have q2:=hg0.out X hX
  simp only [List.getElem?_toArray,List.getElem?_cons_zero,List.getElem?_cons_succ] at q1
  try simp at hd
  go_simp
  try rfl
 apply walkK_norm
 ·first | (simp only [List.nil_append,List.cons_append];rfl) | simp only [List.nil_append,List.cons_append]
 refine walkK_is ?_ (by first | exact gs0 rfl | exact gs1 rfl rfl rfl) (fun _=>Below.refl _ _) (fun u X hX hd=>?_) ?_
 rotate_left
 ·have q1:=(I2.out.below hX).cell 1
  have q2:=hg0.out X hX
  simp only [List.getElem?_toArray,List.getElem?_cons_zero,List.getElem?_cons_succ] at q1
  try simp at hd
  go_simp
  try rfl
 apply walkK_norm
 ·first | (simp only [List.nil_append,List.cons_append];rfl) | simp only [List.nil_append,List.cons_append]
 refine walkK_is ?_ (by first | exact gs0 rfl | exact gs1 rfl rfl rfl) (fun _=>Below.refl _ _) (fun u X hX hd=>?_) ?_
 rotate_left
 ·have q1:=(I2.out.below hX).cell 1
  have q2:=hg0.out X hX
  simp only [List.getElem?_toArray,List.getElem?_cons_zero,List.getElem?_cons_succ] at q1
  try simp at hd
  go_simp
  try rfl
 apply walkK_norm
 ·first | (simp only [List.nil_append,List.cons_append];rfl) | simp only [List.nil_append,List.cons_append]
 refine walkK_is ?_ (by first | exact gs0 rfl | exact gs1 rfl rfl rfl) (fun _=>Below.refl _ _) (fun u X hX hd=>?_) ?_
 rotate_left
 ·have q1:=(I2.out.below hX).cell 1
  have q2:=hg0.out X hX
  simp only [List.getElem?_toArray,List.getElem?_cons_zero,List.getElem?_cons_succ] at q1
  try simp at hd
  go_simp
  try rfl
 apply walkK_norm
 ·first | (simp only [List.nil_append,List.cons_append];rfl) | simp only [List.nil_append,List.cons_append]
 refine walkK_is ?_ (by first | exact gs0 rfl | exact gs1 rfl rfl rfl) (fun _=>Below.refl _ _) (fun u X hX hd=>?_) ?_
 rotate_left
 ·have q1:=(I2.out.below hX).cell 1
  have q2:=hg0.out X hX
  simp only [List.getElem?_toArray,List.getElem?_cons_zero,List.getElem?_cons_succ] at q1
  try simp at hd
  go_simp
  try rfl
 apply walkK_norm
 ·first | (simp only [List.nil_append,List.cons_append];rfl) | simp only [List.nil_append,List.cons_append]
 refine walkK_is ?_ (by first | exact gs0 rfl | exact gs1 rfl rfl rfl) (fun _=>Below.refl _ _) (fun u X hX hd=>?_) ?_
 rotate_left
 ·have q1:=(I2.out.below hX).cell 1
  have q2:=hg0.out X hX
  simp only [List.getElem?_toArray,List.getElem?_cons_zero,List.getElem?_cons_succ] at q1
  try simp at hd
  go_simp
  try rfl
 apply walkK_norm
 ·first | (simp only [List.nil_append,List.cons_append];rfl) | simp only [List.nil_append,List.cons_append]
 intro u X hX hsay
 simp only [sayAll,isV] at hsay
 obtain ⟨v0,v1,v2,v3,v4,v5,v6,-⟩:=hsay
 have XB:=Lib.hid (X2.out.below hX)
 have z3:=XB.out.cell 5
 have zg:=XB.out.frozen
 have zm:=XB.out.lt
 simp only [List.getElem?_toArray,List.getElem?_cons_zero,List.getElem?_cons_succ] at z3
 have X3:Hid (Bk (X.setCell ⟨w.heap.size + 1,5,none⟩ (.int .i64 top)) (w.heap.size + 1) 64 (mC ((i:Int) + 1) (fuel - 1) (.slice A' k c') r0 r1 top r3 (.slice oA on oc) false e0)):=Lib.hid (by simpa using XB.out.set 5 (.int .i64 top))
 have R3:=Lib.hid ((R2.out.below hX).far (p:=⟨w.heap.size + 1,5,none⟩) (by simp) (.int .i64 top))
 have P3:=Lib.hid (own_cellBelow (own_below P2.out hX) (G:=w.heap.size + 1) (by omega) 5 (.int .i64 top))
 have M3:=Lib.hid ((M2.out.below hX).setCell (HM.out.offNew (G:=w.heap.size + 1) (by omega)) 5 (.int .i64 top))
 have B3:=Lib.hid ((bnext BB.out hX).setCell (p:=⟨w.heap.size + 1,5,none⟩) (by simp) (.int .i64 top))
 simp only [putAll,Act.put,v0,v1,v2,v3,v4,v5,v6,List.setIfInBounds_toArray,List.set_cons_succ,List.set_cons_zero]
 clear z2 zf zl zi v0 v1 v2 v3 v4 v5 v6
 go_wp2_with (first
  | (with_reducible refine ld_mach (w.heap.size + 1) X3.out _ rfl rfl rfl ?_)
  | (with_reducible refine st_mach (w.heap.size + 1 + 1) R3.out rfl rfl _ _ rfl rfl rfl rfl ?_))
 exact bodyPost_ret (v:=.tuple #[.agg (mC ((i:Int) + 1) (fuel - 1) (.slice A' k c') r0 r1 top r3 (.slice oA on oc) false e0),.slice bA bn bc]) (res2_mach rfl _ _ (w.heap.size + 1 + 1) _ rfl rfl (Bk.setRow R3.out _)) rfl
  ⟨_,_,_,_,_,_,_,_,_,rfl,MIn.setRow (⟨by have:=Sl.own' P3.out;simpa using this,M3.out.ou,M3.out.bk⟩) (⟨own_offA P3.out (by omega),(HM.out.offNew (by omega)).2⟩) _,below_row B3.out (by omega) _,fun G hG h=>⟨own_offA P3.out (by omega),h.2⟩⟩
set_option maxHeartbeats 4000000 in
set_option maxRecDepth 100000 in
theorem rstep3_3 (l:List Ins) (i:Nat) (k:Nat) (hk:k≤1000) (b:Int) (st ou:List Int) (own:Blks) (w:World) (hC:Inss w ca cc l) (hl:l.length=nc) (hi:i < nc) (hic:nc≤1000) (hx:insAt l i=⟨3,3,b⟩) (hM:MIn w st ou own sA (k + 1) sc oA on oc bA bn bc) (hf:fuel≠0) (hf2:0≤fuel∧fuel≤1000) :
  Calls Tryz.prog 46 #[cmV ra nr rc wa nw wc aa na ac cf ca nc cc,.agg (mC (i:Int) fuel (.slice sA (k + 1:Nat) sc) r0 r1 r2 r3 (.slice oA on oc) false e0),.slice bA bn bc] w (RSPost ((i:Int) + 1) (fuel - 1) (st.take k) r0 r1 r2 (st[k]?.getD 0) ou false e0 own sA (k + 1) oA on bA bn w):=by
 obtain ⟨top,htop⟩:∃ x,x=st[k]?.getD 0:=⟨_,rfl⟩
 try rw [← htop]
 have HT:=Lib.hid htop
 clear htop
 obtain ⟨cb,co,rfl,hcb,x0,x1,x2⟩:=hC.cellAt (j:=i) (by omega)
 rw [hx] at x0 x1 x2
 simp only at x0 x1 x2
 have hcc:=hC.2.1
 rw [hl] at hcc
 have d1:(i:Int) < (nc:Int):=by omega
 have d2:(i:Int) < (cc:Int):=by omega
 have f0:(fuel == 0)=false:=by simpa using hf
 have bb:=sB_below #[.slice ra nr rc,.slice wa nw wc,.slice aa na ac,.int .i64 cf,.slice (some ⟨cb,co,none⟩) nc cc] (mC (i:Int) (fuel - 1) (.slice sA (k + 1:Nat) sc) r0 r1 r2 r3 (.slice oA on oc) false e0) w
 have y0:=(bb.cell (p:=⟨cb,co + i * 3,none⟩) hcb).trans x0
 have y1:=(bb.cell (p:=⟨cb,co + i * 3 + 1,none⟩) hcb).trans x1
 have y2:=(bb.cell (p:=⟨cb,co + i * 3 + 2,none⟩) hcb).trans x2
 have HM:=Lib.hid hM
 clear hC hx hl bb hM
 obtain ⟨i0,hi0,hz0,hz1,hz2⟩:=infoInt
 obtain ⟨sb,so,rfl,-,-⟩:=HM.out.st.2.2.2 (by omega)
 have B0:Hid (Below w.heap.size w ((sB #[.slice ra nr rc,.slice wa nw wc,.slice aa na ac,.int .i64 cf,.slice (some ⟨cb,co,none⟩) nc cc] (mC ((i:Int) + 1) (fuel - 1) (.slice (some ⟨sb,so,none⟩) (k + 1:Nat) sc) r0 r1 r2 r3 (.slice oA on oc) false e0) w).alloc (.cells #[.int .i64 3,.int .i64 3,.int .i64 b] 72))):=Lib.hid (bnext (sB_below _ _ _) (below_alloc1 _ _))
 have X0:Hid (Bk ((sB #[.slice ra nr rc,.slice wa nw wc,.slice aa na ac,.int .i64 cf,.slice (some ⟨cb,co,none⟩) nc cc] (mC ((i:Int) + 1) (fuel - 1) (.slice (some ⟨sb,so,none⟩) (k + 1:Nat) sc) r0 r1 r2 r3 (.slice oA on oc) false e0) w).alloc (.cells #[.int .i64 3,.int .i64 3,.int .i64 b] 72)) (w.heap.size + 1) 64 (mC ((i:Int) + 1) (fuel - 1) (.slice (some ⟨sb,so,none⟩) (k + 1:Nat) sc) r0 r1 r2 r3 (.slice oA on oc) false e0)):=Lib.hid ((sB_box _ _ _).alloc _)
 have R0:Hid (Bk ((sB #[.slice ra nr rc,.slice wa nw wc,.slice aa na ac,.int .i64 cf,.slice (some ⟨cb,co,none⟩) nc cc] (mC ((i:Int) + 1) (fuel - 1) (.slice (some ⟨sb,so,none⟩) (k + 1:Nat) sc) r0 r1 r2 r3 (.slice oA on oc) false e0) w).alloc (.cells #[.int .i64 3,.int .i64 3,.int .i64 b] 72)) (w.heap.size + 1 + 1) 64 mZ):=Lib.hid ((sB_res _ _ _).alloc _)
 have I0:Hid (Bk ((sB #[.slice ra nr rc,.slice wa nw wc,.slice aa na ac,.int .i64 cf,.slice (some ⟨cb,co,none⟩) nc cc] (mC ((i:Int) + 1) (fuel - 1) (.slice (some ⟨sb,so,none⟩) (k + 1:Nat) sc) r0 r1 r2 r3 (.slice oA on oc) false e0) w).alloc (.cells #[.int .i64 3,.int .i64 3,.int .i64 b] 72)) (w.heap.size + 1 + 1 + 1) 72 #[.int .i64 3,.int .i64 3,.int .i64 b]):=Lib.hid (rW_ins _ _ _ _)
 have hpop:=Lib.hid (rpop1 ((i:Int) + 1) (fuel - 1) st r0 r1 r2 r3 false e0 (some ⟨sb,so,none⟩) sc oA on oc k ((sB #[.slice ra nr rc,.slice wa nw wc,.slice aa na ac,.int .i64 cf,.slice (some ⟨cb,co,none⟩) nc cc] (mC ((i:Int) + 1) (fuel - 1) (.slice (some ⟨sb,so,none⟩) (k + 1:Nat) sc) r0 r1 r2 r3 (.slice oA on oc) false e0) w).alloc (.cells #[.int .i64 3,.int .i64 3,.int .i64 b] 72)) (HM.out.st.below B0.out) hk)
 have hWs:Hid (w.heap.size + 1 + 1 + 1 < ((sB #[.slice ra nr rc,.slice wa nw wc,.slice aa na ac,.int .i64 cf,.slice (some ⟨cb,co,none⟩) nc cc] (mC ((i:Int) + 1) (fuel - 1) (.slice (some ⟨sb,so,none⟩) (k + 1:Nat) sc) r0 r1 r2 r3 (.slice oA on oc) false e0) w).alloc (.cells #[.int .i64 3,.int .i64 3,.int .i64 b] 72)).heap.size):=Lib.hid I0.out.lt
 go_enter Tryz.func46,Tryz.ntmps46
 go_wp2_with (first
  | (with_reducible refine ld_mach (w.heap.size + 1) X0.out _ rfl rfl rfl ?_)
  | (go_at_call 89;go_must ((with_reducible refine hpop.out.mono ?_);rintro e w1 ⟨⟨A,c,A',c',rfl,p1,p2⟩,hb1⟩;have BB:Hid (Below w.heap.size w (w1.setCell ⟨w.heap.size + 1,2,none⟩ (.slice A' k c'))):=Lib.hid ((bnext B0.out hb1).setCell (p:=⟨w.heap.size + 1,2,none⟩) (by simp) _);have P1:=Lib.hid (own_cellBelow p1 (G:=w.heap.size + 1) (by have:=hWs.out;omega) 2 (.slice A' k c'));have P2:=Lib.hid (own_cellBelow p2 (G:=w.heap.size + 1) (by have:=hWs.out;omega) 2 (.slice A' k c'));have X1:=Lib.hid (X0.out.below hb1);have X2:Hid (Bk (w1.setCell ⟨w.heap.size + 1,2,none⟩ (.slice A' k c')) (w.heap.size + 1) 64 (mC ((i:Int) + 1) (fuel - 1) (.slice A' k c') r0 r1 r2 r3 (.slice oA on oc) false e0)):=Lib.hid (by simpa using X1.out.set 2 (.slice A' k c'));have R2:=Lib.hid ((R0.out.below hb1).far (p:=⟨w.heap.size + 1,2,none⟩) (by simp only;omega) (.slice A' k c'));have I2:=Lib.hid ((I0.out.below hb1).far (p:=⟨w.heap.size + 1,2,none⟩) (by simp only;omega) (.slice A' k c'));have M2:=Lib.hid (((HM.out.below B0.out).below hb1).setCell (HM.out.offNew (G:=w.heap.size + 1) (by omega)) 2 (.slice A' k c'));have z2:=X1.out.cell 2;have zf:=X1.out.frozen;have zl:=X1.out.lt;have zi:=I2.out.cell 0;simp only [List.getElem?_toArray,List.getElem?_cons_zero,List.getElem?_cons_succ] at z2 zi;clear p1 p2 hb1)))
 have hb2:Hid (w.heap.size + 1 + 1 + 1 < (w1.setCell ⟨w.heap.size + 1,2,none⟩ (.slice A' k c')).heap.size):=Lib.hid I2.out.lt
 generalize w1.setCell ⟨w.heap.size + 1,2,none⟩ (.slice A' k c')=wr at *
 have hWr:=hb2.out
 have hWz:=hWs.out
 try simp only [List.append_eq,List.cons_append,List.nil_append]
 obtain ⟨g,cur,rfl,hgB,hgk,hgc,-,hgs,hgt⟩:=own_pos P1.out (by omega)
 have hg0:Hid (∀ X,Below wr.heap.size wr X→X.cell? ⟨g,0,none⟩=some (.int .i64 top)):=Lib.hid (fun X hX=>by
  rw [HT.out,(hgk.below hX).cell 0,← Array.getElem?_toList]
  have hl:=HM.out.st.1
  simp at hl
  have h1:(cur.toList.take (1 * 1))[0]? = (((st.drop k).map (Value.int .i64)))[0]?:=by rw [hgt]
  rw [List.getElem?_take,if_pos (by omega)] at h1
  rw [h1,List.getElem?_map,List.getElem?_drop]
  simp [show k < st.length by omega])
 have hgc1:(1:Int)≤(c:Int):=by omega
 have hgB2:w.heap.size + 1 + 1 + 1 < g:=by have:=hWs.out;omega
 clear hgk hgs hgt
 refine wp_region_saysK 7 (fun x y=>Below x.heap.size x y) (fun _ _ _ h k=>bnext h k) wr (below_drew1 wr) (by kernel_rfl) (by kernel_rfl) (by kernel_rfl) (by kernel_rfl) (by rfl) ?_
 simp only [List.take_succ_cons,List.take_zero,List.drop_succ_cons,List.drop_zero]
 refine walkK_is ?_ (by first | exact gs0 rfl | exact gs1 rfl rfl rfl) (fun _=>Below.refl _ _) (fun u X hX hd=>?_) ?_
 rotate_left
 ·have q1:=(I2.out.below hX).cell 1
  have q2:=hg0.out X hX
  simp only [List.getElem?_toArray,List.getElem?_cons_zero,List.getElem?_cons_succ] at q1
  try simp at hd
  go_simp
  try rfl
 apply walkK_norm
 ·first | (simp only [List.nil_append];rfl) | simp only [List.nil_append]
 refine walkK_is ?_ (by first | exact gs0 rfl | exact gs1 rfl rfl rfl) (fun _=>Below.refl _ _) (fun u X hX hd=>?_) ?_
 rotate_left
 ·have q1:=(I2.out.below hX).cell 1
  have q2:=hg0.out X hX
  simp only [List.getElem?_toArray,List.getElem?_cons_zero,List.getElem?_cons_succ] at q1
  try simp at hd
  go_simp
  try rfl
 apply walkK_norm
 ·first | (simp only [List.nil_append,List.cons_append];rfl) | simp only [List.nil_append,List.cons_append]
 refine walkK_is ?_ (by first | exact gs0 rfl | exact gs1 rfl rfl rfl) (fun _=>Below.refl _ _) (fun u X hX hd=>?_) ?_
 rotate_left
 ·have q1:=(I2.out.below hX).cell 1
  have q2:=hg0.out X hX
  simp only [List.getElem?_toArray,List.getElem?_cons_zero,List.getElem?_cons_succ] at q1
  try simp at hd
  go_simp
  try rfl
 apply walkK_norm
 ·first | (simp only [List.nil_append,List.cons_append];rfl) | simp only [List.nil_append,List.cons_append]
 refine walkK_is ?_ (by first | exact gs0 rfl | exact gs1 rfl rfl rfl) (fun _=>Below.refl _ _) (fun u X hX hd=>?_) ?_
 rotate_left
 ·have q1:=(I2.out.below hX).cell 1
  have q2:=hg0.out X hX
  simp only [List.getElem?_toArray,List.getElem?_cons_zero,List.getElem?_cons_succ] at q1
  try simp at hd
  go_simp
  try rfl
 apply walkK_norm
 ·first | (simp only [List.nil_append,List.cons_append];rfl) | simp only [List.nil_append,List.cons_append]
 refine walkK_is ?_ (by first | exact gs0 rfl | exact gs1 rfl rfl rfl) (fun _=>Below.refl _ _) (fun u X hX hd=>?_) ?_
 rotate_left
 ·have q1:=(I2.out.below hX).cell 1
  have q2:=hg0.out X hX
  simp only [List.getElem?_toArray,List.getElem?_cons_zero,List.getElem?_cons_succ] at q1
  try simp at hd
  go_simp
  try rfl
 apply walkK_norm
 ·first | (simp only [List.nil_append,List.cons_append];rfl) | simp only [List.nil_append,List.cons_append]
 refine walkK_is ?_ (by first | exact gs0 rfl | exact gs1 rfl rfl rfl) (fun _=>Below.refl _ _) (fun u X hX hd=>?_) ?_
 rotate_left
 ·have q1:=(I2.out.below hX).cell 1
  have q2:=hg0.out X hX
  simp only [List.getElem?_toArray,List.getElem?_cons_zero,List.getElem?_cons_succ] at q1
  try simp at hd
  go_simp
  try rfl
 apply walkK_norm
 ·first | (simp only [List.nil_append,List.cons_append];rfl) | simp only [List.nil_append,List.cons_append]
 refine walkK_is ?_ (by first | exact gs0 rfl | exact gs1 rfl rfl rfl) (fun _=>Below.refl _ _) (fun u X hX hd=>?_) ?_
 rotate_left
 ·have q1:=(I2.out.below hX).cell 1
  have q2:=hg0.out X hX
  simp only [List.getElem?_toArray,List.getElem?_cons_zero,List.getElem?_cons_succ] at q1
  try simp at hd
  go_simp
  try rfl
 apply walkK_norm
 ·first | (simp only [List.nil_append,List.cons_append];rfl) | simp only [List.nil_append,List.cons_append]
 intro u X hX hsay
 simp only [sayAll,isV] at hsay
 obtain ⟨v0,v1,v2,v3,v4,v5,v6,-⟩:=hsay
 have XB:=Lib.hid (X2.out.below hX)
 have z3:=XB.out.cell 6
 have zg:=XB.out.frozen
 have zm:=XB.out.lt
 simp only [List.getElem?_toArray,List.getElem?_cons_zero,List.getElem?_cons_succ] at z3
 have X3:Hid (Bk (X.setCell ⟨w.heap.size + 1,6,none⟩ (.int .i64 top)) (w.heap.size + 1) 64 (mC ((i:Int) + 1) (fuel - 1) (.slice A' k c') r0 r1 r2 top (.slice oA on oc) false e0)):=Lib.hid (by simpa using XB.out.set 6 (.int .i64 top))
 have R3:=Lib.hid ((R2.out.below hX).far (p:=⟨w.heap.size + 1,6,none⟩) (by simp) (.int .i64 top))
 have P3:=Lib.hid (own_cellBelow (own_below P2.out hX) (G:=w.heap.size + 1) (by omega) 6 (.int .i64 top))
 have M3:=Lib.hid ((M2.out.below hX).setCell (HM.out.offNew (G:=w.heap.size + 1) (by omega)) 6 (.int .i64 top))
 have B3:=Lib.hid ((bnext BB.out hX).setCell (p:=⟨w.heap.size + 1,6,none⟩) (by simp) (.int .i64 top))
 simp only [putAll,Act.put,v0,v1,v2,v3,v4,v5,v6,List.setIfInBounds_toArray,List.set_cons_succ,List.set_cons_zero]
 clear z2 zf zl zi v0 v1 v2 v3 v4 v5 v6
 go_wp2_with (first
  | (with_reducible refine ld_mach (w.heap.size + 1) X3.out _ rfl rfl rfl ?_)
  | (with_reducible refine st_mach (w.heap.size + 1 + 1) R3.out rfl rfl _ _ rfl rfl rfl rfl ?_))
 exact bodyPost_ret (v:=.tuple #[.agg (mC ((i:Int) + 1) (fuel - 1) (.slice A' k c') r0 r1 r2 top (.slice oA on oc) false e0),.slice bA bn bc]) (res2_mach rfl _ _ (w.heap.size + 1 + 1) _ rfl rfl (Bk.setRow R3.out _)) rfl
  ⟨_,_,_,_,_,_,_,_,_,rfl,MIn.setRow (⟨by have:=Sl.own' P3.out;simpa using this,M3.out.ou,M3.out.bk⟩) (⟨own_offA P3.out (by omega),(HM.out.offNew (by omega)).2⟩) _,below_row B3.out (by omega) _,fun G hG h=>⟨own_offA P3.out (by omega),h.2⟩⟩
set_option maxHeartbeats 4000000 in
set_option maxRecDepth 100000 in
theorem rstep13_0 (l:List Ins) (i:Nat) (k:Nat) (hk:k≤1000) (a b:Int) (st ou:List Int) (own:Blks) (w:World) (hC:Inss w ca cc l) (hl:l.length=nc) (hi:i < nc) (hic:nc≤1000) (hx:insAt l i=⟨13,a,b⟩) (hM:MIn w st ou own sA (k + 1) sc oA on oc bA bn bc) (hf:fuel≠0) (hf2:0≤fuel∧fuel≤1000) (h0:st[k]?.getD 0=0) (ha:0≤a∧a≤1000) :
  Calls Tryz.prog 46 #[cmV ra nr rc wa nw wc aa na ac cf ca nc cc,.agg (mC (i:Int) fuel (.slice sA (k + 1:Nat) sc) r0 r1 r2 r3 (.slice oA on oc) false e0),.slice bA bn bc] w (RSPost ((i:Int) + 1 + a) (fuel - 1) (st.take k) r0 r1 r2 r3 ou false e0 own sA (k + 1) oA on bA bn w):=by
 obtain ⟨top,htop⟩:∃ x,x=st[k]?.getD 0:=⟨_,rfl⟩
 try rw [← htop]
 rw [← htop] at h0
 have htt:(top == 0)=true:=by simpa using h0
 clear h0
 have HT:=Lib.hid htop
 clear htop
 obtain ⟨cb,co,rfl,hcb,x0,x1,x2⟩:=hC.cellAt (j:=i) (by omega)
 rw [hx] at x0 x1 x2
 simp only at x0 x1 x2
 have hcc:=hC.2.1
 rw [hl] at hcc
 have d1:(i:Int) < (nc:Int):=by omega
 have d2:(i:Int) < (cc:Int):=by omega
 have f0:(fuel == 0)=false:=by simpa using hf
 have bb:=sB_below #[.slice ra nr rc,.slice wa nw wc,.slice aa na ac,.int .i64 cf,.slice (some ⟨cb,co,none⟩) nc cc] (mC (i:Int) (fuel - 1) (.slice sA (k + 1:Nat) sc) r0 r1 r2 r3 (.slice oA on oc) false e0) w
 have y0:=(bb.cell (p:=⟨cb,co + i * 3,none⟩) hcb).trans x0
 have y1:=(bb.cell (p:=⟨cb,co + i * 3 + 1,none⟩) hcb).trans x1
 have y2:=(bb.cell (p:=⟨cb,co + i * 3 + 2,none⟩) hcb).trans x2
 have HM:=Lib.hid hM
 clear hC hx hl bb hM
 obtain ⟨i0,hi0,hz0,hz1,hz2⟩:=infoInt
 obtain ⟨sb,so,rfl,-,-⟩:=HM.out.st.2.2.2 (by omega)
 have B0:Hid (Below w.heap.size w ((sB #[.slice ra nr rc,.slice wa nw wc,.slice aa na ac,.int .i64 cf,.slice (some ⟨cb,co,none⟩) nc cc] (mC ((i:Int) + 1) (fuel - 1) (.slice (some ⟨sb,so,none⟩) (k + 1:Nat) sc) r0 r1 r2 r3 (.slice oA on oc) false e0) w).alloc (.cells #[.int .i64 13,.int .i64 a,.int .i64 b] 72))):=Lib.hid (bnext (sB_below _ _ _) (below_alloc1 _ _))
 have X0:Hid (Bk ((sB #[.slice ra nr rc,.slice wa nw wc,.slice aa na ac,.int .i64 cf,.slice (some ⟨cb,co,none⟩) nc cc] (mC ((i:Int) + 1) (fuel - 1) (.slice (some ⟨sb,so,none⟩) (k + 1:Nat) sc) r0 r1 r2 r3 (.slice oA on oc) false e0) w).alloc (.cells #[.int .i64 13,.int .i64 a,.int .i64 b] 72)) (w.heap.size + 1) 64 (mC ((i:Int) + 1) (fuel - 1) (.slice (some ⟨sb,so,none⟩) (k + 1:Nat) sc) r0 r1 r2 r3 (.slice oA on oc) false e0)):=Lib.hid ((sB_box _ _ _).alloc _)
 have R0:Hid (Bk ((sB #[.slice ra nr rc,.slice wa nw wc,.slice aa na ac,.int .i64 cf,.slice (some ⟨cb,co,none⟩) nc cc] (mC ((i:Int) + 1) (fuel - 1) (.slice (some ⟨sb,so,none⟩) (k + 1:Nat) sc) r0 r1 r2 r3 (.slice oA on oc) false e0) w).alloc (.cells #[.int .i64 13,.int .i64 a,.int .i64 b] 72)) (w.heap.size + 1 + 1) 64 mZ):=Lib.hid ((sB_res _ _ _).alloc _)
 have I0:Hid (Bk ((sB #[.slice ra nr rc,.slice wa nw wc,.slice aa na ac,.int .i64 cf,.slice (some ⟨cb,co,none⟩) nc cc] (mC ((i:Int) + 1) (fuel - 1) (.slice (some ⟨sb,so,none⟩) (k + 1:Nat) sc) r0 r1 r2 r3 (.slice oA on oc) false e0) w).alloc (.cells #[.int .i64 13,.int .i64 a,.int .i64 b] 72)) (w.heap.size + 1 + 1 + 1) 72 #[.int .i64 13,.int .i64 a,.int .i64 b]):=Lib.hid (rW_ins _ _ _ _)
 have hpop:=Lib.hid (rpop1 ((i:Int) + 1) (fuel - 1) st r0 r1 r2 r3 false e0 (some ⟨sb,so,none⟩) sc oA on oc k ((sB #[.slice ra nr rc,.slice wa nw wc,.slice aa na ac,.int .i64 cf,.slice (some ⟨cb,co,none⟩) nc cc] (mC ((i:Int) + 1) (fuel - 1) (.slice (some ⟨sb,so,none⟩) (k + 1:Nat) sc) r0 r1 r2 r3 (.slice oA on oc) false e0) w).alloc (.cells #[.int .i64 13,.int .i64 a,.int .i64 b] 72)) (HM.out.st.below B0.out) hk)
 have hWs:Hid (w.heap.size + 1 + 1 + 1 < ((sB #[.slice ra nr rc,.slice wa nw wc,.slice aa na ac,.int .i64 cf,.slice (some ⟨cb,co,none⟩) nc cc] (mC ((i:Int) + 1) (fuel - 1) (.slice (some ⟨sb,so,none⟩) (k + 1:Nat) sc) r0 r1 r2 r3 (.slice oA on oc) false e0) w).alloc (.cells #[.int .i64 13,.int .i64 a,.int .i64 b] 72)).heap.size):=Lib.hid I0.out.lt
 go_enter Tryz.func46,Tryz.ntmps46
 go_wp2_with (first
  | (with_reducible refine ld_mach (w.heap.size + 1) X0.out _ rfl rfl rfl ?_)
  | (go_at_call 89;go_must ((with_reducible refine hpop.out.mono ?_);rintro e w1 ⟨⟨A,c,A',c',rfl,p1,p2⟩,hb1⟩;have BB:Hid (Below w.heap.size w (w1.setCell ⟨w.heap.size + 1,2,none⟩ (.slice A' k c'))):=Lib.hid ((bnext B0.out hb1).setCell (p:=⟨w.heap.size + 1,2,none⟩) (by simp) _);have P1:=Lib.hid (own_cellBelow p1 (G:=w.heap.size + 1) (by have:=hWs.out;omega) 2 (.slice A' k c'));have P2:=Lib.hid (own_cellBelow p2 (G:=w.heap.size + 1) (by have:=hWs.out;omega) 2 (.slice A' k c'));have X1:=Lib.hid (X0.out.below hb1);have X2:Hid (Bk (w1.setCell ⟨w.heap.size + 1,2,none⟩ (.slice A' k c')) (w.heap.size + 1) 64 (mC ((i:Int) + 1) (fuel - 1) (.slice A' k c') r0 r1 r2 r3 (.slice oA on oc) false e0)):=Lib.hid (by simpa using X1.out.set 2 (.slice A' k c'));have R2:=Lib.hid ((R0.out.below hb1).far (p:=⟨w.heap.size + 1,2,none⟩) (by simp only;omega) (.slice A' k c'));have I2:=Lib.hid ((I0.out.below hb1).far (p:=⟨w.heap.size + 1,2,none⟩) (by simp only;omega) (.slice A' k c'));have M2:=Lib.hid (((HM.out.below B0.out).below hb1).setCell (HM.out.offNew (G:=w.heap.size + 1) (by omega)) 2 (.slice A' k c'));have z2:=X1.out.cell 2;have zf:=X1.out.frozen;have zl:=X1.out.lt;have zi:=I2.out.cell 0;simp only [List.getElem?_toArray,List.getElem?_cons_zero,List.getElem?_cons_succ] at z2 zi;obtain ⟨g,cur,rfl,hgB,hgk,-,-,-,hgt⟩:=own_pos p1 (by omega);have hgb:w.heap.size + 1 < g:=(by have:=hWs.out;omega);have gf:(w1.setCell ⟨w.heap.size + 1,2,none⟩ (.slice A' k c')).cell? ⟨g,0,none⟩=some (.int .i64 top):=(by rw [HT.out,(hgk.far (p:=⟨w.heap.size + 1,2,none⟩) (by simp;omega) (.slice A' k c')).cell 0,← Array.getElem?_toList];have hl:=HM.out.st.1;simp at hl;have h1:(cur.toList.take (1 * 1))[0]? = (((st.drop k).map (Value.int .i64)))[0]?:=(by rw [hgt]);rw [List.getElem?_take,if_pos (by omega)] at h1;rw [h1,List.getElem?_map,List.getElem?_drop];simp [show k < st.length by omega]);have gc:=(hgk.far (p:=⟨w.heap.size + 1,2,none⟩) (by simp;omega) (.slice A' k c')).lt;have i1:=I2.out.cell 1;have x0:=X2.out.cell 0;have xf:=X2.out.frozen;have xl:=X2.out.lt;have il:=I2.out.lt;simp only [List.getElem?_toArray,List.getElem?_cons_zero,List.getElem?_cons_succ] at i1 x0;have X3:Hid (Bk ((w1.setCell ⟨w.heap.size + 1,2,none⟩ (.slice A' k c')).setCell ⟨w.heap.size + 1,0,none⟩ (.int .i64 ((i:Int) + 1 + a))) (w.heap.size + 1) 64 (mC ((i:Int) + 1 + a) (fuel - 1) (.slice A' k c') r0 r1 r2 r3 (.slice oA on oc) false e0)):=Lib.hid (by simpa using X2.out.set 0 (.int .i64 ((i:Int) + 1 + a)));have R3:=Lib.hid (R2.out.far (p:=⟨w.heap.size + 1,0,none⟩) (by simp) (.int .i64 ((i:Int) + 1 + a)));have P3:=Lib.hid (own_cellBelow P2.out (G:=w.heap.size + 1) (by have:=hWs.out;omega) 0 (.int .i64 ((i:Int) + 1 + a)));have M3:=Lib.hid (M2.out.setCell (HM.out.offNew (G:=w.heap.size + 1) (by omega)) 0 (.int .i64 ((i:Int) + 1 + a)));have B3:=Lib.hid (BB.out.setCell (p:=⟨w.heap.size + 1,0,none⟩) (by simp) (.int .i64 ((i:Int) + 1 + a)));clear hgk hgt;clear p1 p2 hb1))
  | (with_reducible refine ld_mach (w.heap.size + 1) X3.out _ rfl rfl rfl ?_)
  | (with_reducible refine st_mach (w.heap.size + 1 + 1) R3.out rfl rfl _ _ rfl rfl rfl rfl ?_))
 have hWz:=hWs.out
 exact bodyPost_ret (v:=.tuple #[.agg (mC ((i:Int) + 1 + a) (fuel - 1) (.slice A' k c') r0 r1 r2 r3 (.slice oA on oc) false e0),.slice bA bn bc]) (res2_mach rfl _ _ (w.heap.size + 1 + 1) _ rfl rfl (Bk.setRow R3.out _)) rfl
  ⟨_,_,_,_,_,_,_,_,_,rfl,MIn.setRow (⟨by have:=Sl.own' P3.out;simpa using this,M3.out.ou,M3.out.bk⟩) (⟨own_offA P3.out (by omega),(HM.out.offNew (by omega)).2⟩) _,below_row B3.out (by omega) _,fun G hG h=>⟨own_offA P3.out (by omega),h.2⟩⟩
set_option maxHeartbeats 4000000 in
set_option maxRecDepth 100000 in
theorem rstep13_1 (l:List Ins) (i:Nat) (k:Nat) (hk:k≤1000) (a b:Int) (st ou:List Int) (own:Blks) (w:World) (hC:Inss w ca cc l) (hl:l.length=nc) (hi:i < nc) (hic:nc≤1000) (hx:insAt l i=⟨13,a,b⟩) (hM:MIn w st ou own sA (k + 1) sc oA on oc bA bn bc) (hf:fuel≠0) (hf2:0≤fuel∧fuel≤1000) (h0:st[k]?.getD 0≠0) :
  Calls Tryz.prog 46 #[cmV ra nr rc wa nw wc aa na ac cf ca nc cc,.agg (mC (i:Int) fuel (.slice sA (k + 1:Nat) sc) r0 r1 r2 r3 (.slice oA on oc) false e0),.slice bA bn bc] w (RSPost ((i:Int) + 1) (fuel - 1) (st.take k) r0 r1 r2 r3 ou false e0 own sA (k + 1) oA on bA bn w):=by
 obtain ⟨top,htop⟩:∃ x,x=st[k]?.getD 0:=⟨_,rfl⟩
 try rw [← htop]
 rw [← htop] at h0
 have htt:(top == 0)=false:=by simpa using h0
 clear h0
 have HT:=Lib.hid htop
 clear htop
 obtain ⟨cb,co,rfl,hcb,x0,x1,x2⟩:=hC.cellAt (j:=i) (by omega)
 rw [hx] at x0 x1 x2
 simp only at x0 x1 x2
 have hcc:=hC.2.1
 rw [hl] at hcc
 have d1:(i:Int) < (nc:Int):=by omega
 have d2:(i:Int) < (cc:Int):=by omega
 have f0:(fuel == 0)=false:=by simpa using hf
 have bb:=sB_below #[.slice ra nr rc,.slice wa nw wc,.slice aa na ac,.int .i64 cf,.slice (some ⟨cb,co,none⟩) nc cc] (mC (i:Int) (fuel - 1) (.slice sA (k + 1:Nat) sc) r0 r1 r2 r3 (.slice oA on oc) false e0) w
 have y0:=(bb.cell (p:=⟨cb,co + i * 3,none⟩) hcb).trans x0
 have y1:=(bb.cell (p:=⟨cb,co + i * 3 + 1,none⟩) hcb).trans x1
 have y2:=(bb.cell (p:=⟨cb,co + i * 3 + 2,none⟩) hcb).trans x2
 have HM:=Lib.hid hM
 clear hC hx hl bb hM
 obtain ⟨i0,hi0,hz0,hz1,hz2⟩:=infoInt
 obtain ⟨sb,so,rfl,-,-⟩:=HM.out.st.2.2.2 (by omega)
 have B0:Hid (Below w.heap.size w ((sB #[.slice ra nr rc,.slice wa nw wc,.slice aa na ac,.int .i64 cf,.slice (some ⟨cb,co,none⟩) nc cc] (mC ((i:Int) + 1) (fuel - 1) (.slice (some ⟨sb,so,none⟩) (k + 1:Nat) sc) r0 r1 r2 r3 (.slice oA on oc) false e0) w).alloc (.cells #[.int .i64 13,.int .i64 a,.int .i64 b] 72))):=Lib.hid (bnext (sB_below _ _ _) (below_alloc1 _ _))
 have X0:Hid (Bk ((sB #[.slice ra nr rc,.slice wa nw wc,.slice aa na ac,.int .i64 cf,.slice (some ⟨cb,co,none⟩) nc cc] (mC ((i:Int) + 1) (fuel - 1) (.slice (some ⟨sb,so,none⟩) (k + 1:Nat) sc) r0 r1 r2 r3 (.slice oA on oc) false e0) w).alloc (.cells #[.int .i64 13,.int .i64 a,.int .i64 b] 72)) (w.heap.size + 1) 64 (mC ((i:Int) + 1) (fuel - 1) (.slice (some ⟨sb,so,none⟩) (k + 1:Nat) sc) r0 r1 r2 r3 (.slice oA on oc) false e0)):=Lib.hid ((sB_box _ _ _).alloc _)
 have R0:Hid (Bk ((sB #[.slice ra nr rc,.slice wa nw wc,.slice aa na ac,.int .i64 cf,.slice (some ⟨cb,co,none⟩) nc cc] (mC ((i:Int) + 1) (fuel - 1) (.slice (some ⟨sb,so,none⟩) (k + 1:Nat) sc) r0 r1 r2 r3 (.slice oA on oc) false e0) w).alloc (.cells #[.int .i64 13,.int .i64 a,.int .i64 b] 72)) (w.heap.size + 1 + 1) 64 mZ):=Lib.hid ((sB_res _ _ _).alloc _)
 have I0:Hid (Bk ((sB #[.slice ra nr rc,.slice wa nw wc,.slice aa na ac,.int .i64 cf,.slice (some ⟨cb,co,none⟩) nc cc] (mC ((i:Int) + 1) (fuel - 1) (.slice (some ⟨sb,so,none⟩) (k + 1:Nat) sc) r0 r1 r2 r3 (.slice oA on oc) false e0) w).alloc (.cells #[.int .i64 13,.int .i64 a,.int .i64 b] 72)) (w.heap.size + 1 + 1 + 1) 72 #[.int .i64 13,.int .i64 a,.int .i64 b]):=Lib.hid (rW_ins _ _ _ _)
 have hpop:=Lib.hid (rpop1 ((i:Int) + 1) (fuel - 1) st r0 r1 r2 r3 false e0 (some ⟨sb,so,none⟩) sc oA on oc k ((sB #[.slice ra nr rc,.slice wa nw wc,.slice aa na ac,.int .i64 cf,.slice (some ⟨cb,co,none⟩) nc cc] (mC ((i:Int) + 1) (fuel - 1) (.slice (some ⟨sb,so,none⟩) (k + 1:Nat) sc) r0 r1 r2 r3 (.slice oA on oc) false e0) w).alloc (.cells #[.int .i64 13,.int .i64 a,.int .i64 b] 72)) (HM.out.st.below B0.out) hk)
 have hWs:Hid (w.heap.size + 1 + 1 + 1 < ((sB #[.slice ra nr rc,.slice wa nw wc,.slice aa na ac,.int .i64 cf,.slice (some ⟨cb,co,none⟩) nc cc] (mC ((i:Int) + 1) (fuel - 1) (.slice (some ⟨sb,so,none⟩) (k + 1:Nat) sc) r0 r1 r2 r3 (.slice oA on oc) false e0) w).alloc (.cells #[.int .i64 13,.int .i64 a,.int .i64 b] 72)).heap.size):=Lib.hid I0.out.lt
 go_enter Tryz.func46,Tryz.ntmps46
 go_wp2_with (first
  | (with_reducible refine ld_mach (w.heap.size + 1) X0.out _ rfl rfl rfl ?_)
  | (go_at_call 89;go_must ((with_reducible refine hpop.out.mono ?_);rintro e w1 ⟨⟨A,c,A',c',rfl,p1,p2⟩,hb1⟩;have BB:Hid (Below w.heap.size w (w1.setCell ⟨w.heap.size + 1,2,none⟩ (.slice A' k c'))):=Lib.hid ((bnext B0.out hb1).setCell (p:=⟨w.heap.size + 1,2,none⟩) (by simp) _);have P1:=Lib.hid (own_cellBelow p1 (G:=w.heap.size + 1) (by have:=hWs.out;omega) 2 (.slice A' k c'));have P2:=Lib.hid (own_cellBelow p2 (G:=w.heap.size + 1) (by have:=hWs.out;omega) 2 (.slice A' k c'));have X1:=Lib.hid (X0.out.below hb1);have X2:Hid (Bk (w1.setCell ⟨w.heap.size + 1,2,none⟩ (.slice A' k c')) (w.heap.size + 1) 64 (mC ((i:Int) + 1) (fuel - 1) (.slice A' k c') r0 r1 r2 r3 (.slice oA on oc) false e0)):=Lib.hid (by simpa using X1.out.set 2 (.slice A' k c'));have R2:=Lib.hid ((R0.out.below hb1).far (p:=⟨w.heap.size + 1,2,none⟩) (by simp only;omega) (.slice A' k c'));have I2:=Lib.hid ((I0.out.below hb1).far (p:=⟨w.heap.size + 1,2,none⟩) (by simp only;omega) (.slice A' k c'));have M2:=Lib.hid (((HM.out.below B0.out).below hb1).setCell (HM.out.offNew (G:=w.heap.size + 1) (by omega)) 2 (.slice A' k c'));have z2:=X1.out.cell 2;have zf:=X1.out.frozen;have zl:=X1.out.lt;have zi:=I2.out.cell 0;simp only [List.getElem?_toArray,List.getElem?_cons_zero,List.getElem?_cons_succ] at z2 zi;obtain ⟨g,cur,rfl,hgB,hgk,-,-,-,hgt⟩:=own_pos p1 (by omega);have hgb:w.heap.size + 1 < g:=(by have:=hWs.out;omega);have gf:(w1.setCell ⟨w.heap.size + 1,2,none⟩ (.slice A' k c')).cell? ⟨g,0,none⟩=some (.int .i64 top):=(by rw [HT.out,(hgk.far (p:=⟨w.heap.size + 1,2,none⟩) (by simp;omega) (.slice A' k c')).cell 0,← Array.getElem?_toList];have hl:=HM.out.st.1;simp at hl;have h1:(cur.toList.take (1 * 1))[0]? = (((st.drop k).map (Value.int .i64)))[0]?:=(by rw [hgt]);rw [List.getElem?_take,if_pos (by omega)] at h1;rw [h1,List.getElem?_map,List.getElem?_drop];simp [show k < st.length by omega]);have gc:=(hgk.far (p:=⟨w.heap.size + 1,2,none⟩) (by simp;omega) (.slice A' k c')).lt;have i1:=I2.out.cell 1;have x0:=X2.out.cell 0;have xf:=X2.out.frozen;have xl:=X2.out.lt;have il:=I2.out.lt;simp only [List.getElem?_toArray,List.getElem?_cons_zero,List.getElem?_cons_succ] at i1 x0;clear hgk hgt;clear p1 p2 hb1))
  | (with_reducible refine ld_mach (w.heap.size + 1) X2.out _ rfl rfl rfl ?_)
  | (with_reducible refine st_mach (w.heap.size + 1 + 1) R2.out rfl rfl _ _ rfl rfl rfl rfl ?_))
 have hWz:=hWs.out
 exact bodyPost_ret (v:=.tuple #[.agg (mC ((i:Int) + 1) (fuel - 1) (.slice A' k c') r0 r1 r2 r3 (.slice oA on oc) false e0),.slice bA bn bc]) (res2_mach rfl _ _ (w.heap.size + 1 + 1) _ rfl rfl (Bk.setRow R2.out _)) rfl
  ⟨_,_,_,_,_,_,_,_,_,rfl,MIn.setRow (⟨by have:=Sl.own' P2.out;simpa using this,M2.out.ou,M2.out.bk⟩) (⟨own_offA P2.out (by omega),(HM.out.offNew (by omega)).2⟩) _,below_row BB.out (by omega) _,fun G hG h=>⟨own_offA P2.out (by omega),h.2⟩⟩
set_option maxHeartbeats 4000000 in
set_option maxRecDepth 100000 in
theorem rstep15 (l:List Ins) (i:Nat) (k:Nat) (hk:k≤1000) (a b:Int) (st ou:List Int) (own:Blks) (w:World) (hC:Inss w ca cc l) (hl:l.length=nc) (hi:i < nc) (hic:nc≤1000) (hx:insAt l i=⟨15,a,b⟩) (hM:MIn w st ou own sA (k + 1) sc oA on oc bA bn bc) (hf:fuel≠0) (hf2:0≤fuel∧fuel≤1000) (hon:on≤1000) :
  Calls Tryz.prog 46 #[cmV ra nr rc wa nw wc aa na ac cf ca nc cc,.agg (mC (i:Int) fuel (.slice sA (k + 1:Nat) sc) r0 r1 r2 r3 (.slice oA on oc) false e0),.slice bA bn bc] w (RSPost ((i:Int) + 1) (fuel - 1) (st.take k) r0 r1 r2 r3 (ou ++ [st[k]?.getD 0]) false e0 own sA (k + 1) oA on bA bn w):=by
 obtain ⟨top,htop⟩:∃ x,x=st[k]?.getD 0:=⟨_,rfl⟩
 try rw [← htop]
 have HT:=Lib.hid htop
 clear htop
 obtain ⟨cb,co,rfl,hcb,x0,x1,x2⟩:=hC.cellAt (j:=i) (by omega)
 rw [hx] at x0 x1 x2
 simp only at x0 x1 x2
 have hcc:=hC.2.1
 rw [hl] at hcc
 have d1:(i:Int) < (nc:Int):=by omega
 have d2:(i:Int) < (cc:Int):=by omega
 have f0:(fuel == 0)=false:=by simpa using hf
 have bb:=sB_below #[.slice ra nr rc,.slice wa nw wc,.slice aa na ac,.int .i64 cf,.slice (some ⟨cb,co,none⟩) nc cc] (mC (i:Int) (fuel - 1) (.slice sA (k + 1:Nat) sc) r0 r1 r2 r3 (.slice oA on oc) false e0) w
 have y0:=(bb.cell (p:=⟨cb,co + i * 3,none⟩) hcb).trans x0
 have y1:=(bb.cell (p:=⟨cb,co + i * 3 + 1,none⟩) hcb).trans x1
 have y2:=(bb.cell (p:=⟨cb,co + i * 3 + 2,none⟩) hcb).trans x2
 have HM:=Lib.hid hM
 clear hC hx hl bb hM
 obtain ⟨i0,hi0,hz0,hz1,hz2⟩:=infoInt
 obtain ⟨sb,so,rfl,-,-⟩:=HM.out.st.2.2.2 (by omega)
 have B0:Hid (Below w.heap.size w ((sB #[.slice ra nr rc,.slice wa nw wc,.slice aa na ac,.int .i64 cf,.slice (some ⟨cb,co,none⟩) nc cc] (mC ((i:Int) + 1) (fuel - 1) (.slice (some ⟨sb,so,none⟩) (k + 1:Nat) sc) r0 r1 r2 r3 (.slice oA on oc) false e0) w).alloc (.cells #[.int .i64 15,.int .i64 a,.int .i64 b] 72))):=Lib.hid (bnext (sB_below _ _ _) (below_alloc1 _ _))
 have X0:Hid (Bk ((sB #[.slice ra nr rc,.slice wa nw wc,.slice aa na ac,.int .i64 cf,.slice (some ⟨cb,co,none⟩) nc cc] (mC ((i:Int) + 1) (fuel - 1) (.slice (some ⟨sb,so,none⟩) (k + 1:Nat) sc) r0 r1 r2 r3 (.slice oA on oc) false e0) w).alloc (.cells #[.int .i64 15,.int .i64 a,.int .i64 b] 72)) (w.heap.size + 1) 64 (mC ((i:Int) + 1) (fuel - 1) (.slice (some ⟨sb,so,none⟩) (k + 1:Nat) sc) r0 r1 r2 r3 (.slice oA on oc) false e0)):=Lib.hid ((sB_box _ _ _).alloc _)
 have R0:Hid (Bk ((sB #[.slice ra nr rc,.slice wa nw wc,.slice aa na ac,.int .i64 cf,.slice (some ⟨cb,co,none⟩) nc cc] (mC ((i:Int) + 1) (fuel - 1) (.slice (some ⟨sb,so,none⟩) (k + 1:Nat) sc) r0 r1 r2 r3 (.slice oA on oc) false e0) w).alloc (.cells #[.int .i64 15,.int .i64 a,.int .i64 b] 72)) (w.heap.size + 1 + 1) 64 mZ):=Lib.hid ((sB_res _ _ _).alloc _)
 have I0:Hid (Bk ((sB #[.slice ra nr rc,.slice wa nw wc,.slice aa na ac,.int .i64 cf,.slice (some ⟨cb,co,none⟩) nc cc] (mC ((i:Int) + 1) (fuel - 1) (.slice (some ⟨sb,so,none⟩) (k + 1:Nat) sc) r0 r1 r2 r3 (.slice oA on oc) false e0) w).alloc (.cells #[.int .i64 15,.int .i64 a,.int .i64 b] 72)) (w.heap.size + 1 + 1 + 1) 72 #[.int .i64 15,.int .i64 a,.int .i64 b]):=Lib.hid (rW_ins _ _ _ _)
 have hpop:=Lib.hid (rpop1 ((i:Int) + 1) (fuel - 1) st r0 r1 r2 r3 false e0 (some ⟨sb,so,none⟩) sc oA on oc k ((sB #[.slice ra nr rc,.slice wa nw wc,.slice aa na ac,.int .i64 cf,.slice (some ⟨cb,co,none⟩) nc cc] (mC ((i:Int) + 1) (fuel - 1) (.slice (some ⟨sb,so,none⟩) (k + 1:Nat) sc) r0 r1 r2 r3 (.slice oA on oc) false e0) w).alloc (.cells #[.int .i64 15,.int .i64 a,.int .i64 b] 72)) (HM.out.st.below B0.out) hk)
 have hWs:Hid (w.heap.size + 1 + 1 + 1 < ((sB #[.slice ra nr rc,.slice wa nw wc,.slice aa na ac,.int .i64 cf,.slice (some ⟨cb,co,none⟩) nc cc] (mC ((i:Int) + 1) (fuel - 1) (.slice (some ⟨sb,so,none⟩) (k + 1:Nat) sc) r0 r1 r2 r3 (.slice oA on oc) false e0) w).alloc (.cells #[.int .i64 15,.int .i64 a,.int .i64 b] 72)).heap.size):=Lib.hid I0.out.lt
 go_enter Tryz.func46,Tryz.ntmps46
 go_wp2_with (first
  | (with_reducible refine ld_mach (w.heap.size + 1) X0.out _ rfl rfl rfl ?_)
  | (go_at_call 89;go_must ((with_reducible refine hpop.out.mono ?_);rintro e w1 ⟨⟨A,c,A',c',rfl,p1,p2⟩,hb1⟩;have BB:Hid (Below w.heap.size w (w1.setCell ⟨w.heap.size + 1,2,none⟩ (.slice A' k c'))):=Lib.hid ((bnext B0.out hb1).setCell (p:=⟨w.heap.size + 1,2,none⟩) (by simp) _);have P1:=Lib.hid (own_cellBelow p1 (G:=w.heap.size + 1) (by have:=hWs.out;omega) 2 (.slice A' k c'));have P2:=Lib.hid (own_cellBelow p2 (G:=w.heap.size + 1) (by have:=hWs.out;omega) 2 (.slice A' k c'));have X1:=Lib.hid (X0.out.below hb1);have X2:Hid (Bk (w1.setCell ⟨w.heap.size + 1,2,none⟩ (.slice A' k c')) (w.heap.size + 1) 64 (mC ((i:Int) + 1) (fuel - 1) (.slice A' k c') r0 r1 r2 r3 (.slice oA on oc) false e0)):=Lib.hid (by simpa using X1.out.set 2 (.slice A' k c'));have R2:=Lib.hid ((R0.out.below hb1).far (p:=⟨w.heap.size + 1,2,none⟩) (by simp only;omega) (.slice A' k c'));have I2:=Lib.hid ((I0.out.below hb1).far (p:=⟨w.heap.size + 1,2,none⟩) (by simp only;omega) (.slice A' k c'));have M2:=Lib.hid (((HM.out.below B0.out).below hb1).setCell (HM.out.offNew (G:=w.heap.size + 1) (by omega)) 2 (.slice A' k c'));have z2:=X1.out.cell 2;have zf:=X1.out.frozen;have zl:=X1.out.lt;have zi:=I2.out.cell 0;simp only [List.getElem?_toArray,List.getElem?_cons_zero,List.getElem?_cons_succ] at z2 zi;clear p1 p2 hb1)))
 have hb2:Hid (w.heap.size + 1 + 1 + 1 < (w1.setCell ⟨w.heap.size + 1,2,none⟩ (.slice A' k c')).heap.size):=Lib.hid I2.out.lt
 generalize w1.setCell ⟨w.heap.size + 1,2,none⟩ (.slice A' k c')=wr at *
 have hWr:=hb2.out
 have hWz:=hWs.out
 try simp only [List.append_eq,List.cons_append,List.nil_append]
 obtain ⟨g,cur,rfl,hgB,hgk,hgc,-,hgs,hgt⟩:=own_pos P1.out (by omega)
 have hg0:Hid (∀ X,Below wr.heap.size wr X→X.cell? ⟨g,0,none⟩=some (.int .i64 top)):=Lib.hid (fun X hX=>by
  rw [HT.out,(hgk.below hX).cell 0,← Array.getElem?_toList]
  have hl:=HM.out.st.1
  simp at hl
  have h1:(cur.toList.take (1 * 1))[0]? = (((st.drop k).map (Value.int .i64)))[0]?:=by rw [hgt]
  rw [List.getElem?_take,if_pos (by omega)] at h1
  rw [h1,List.getElem?_map,List.getElem?_drop]
  simp [show k < st.length by omega])
 have hgc1:(1:Int)≤(c:Int):=by omega
 have hgB2:w.heap.size + 1 + 1 + 1 < g:=by have:=hWs.out;omega
 clear hgk hgs hgt
 have hBX:Hid (∀ {n:Nat} {u:Value} (X:World),TurnR wr.heap.size 3 n u wr X→wr.heap.size≤X.heap.size):=Lib.hid (fun X hX=>hX.1.size)
 refine wp_region_saysK 10 (TurnR wr.heap.size 3 on (.int .i64 top)) (TurnR.trans) wr (TurnR.of (Nat.le_refl _) (below_drew1 wr)) (by kernel_rfl) (by kernel_rfl) (by kernel_rfl) (by kernel_rfl) (by rfl) ?_
 simp only [List.take_succ_cons,List.take_zero,List.drop_succ_cons,List.drop_zero]
 refine walkK_new (noneV wr.heap.size 3) (by first | exact gs0 rfl | exact gs1 rfl rfl rfl) (fun v x y hb h=>noneV_turn v x y hb h) (fun u X hX hd=>⟨_,_,exec_none _ _ _ rfl,TurnR.of (hBX.out X hX) (below_alloc1 _ _),_,rfl,World.ownsRow_lit X #[] 0 (hBX.out X hX) (by decide) rfl⟩) ?_
 apply walkK_norm
 ·first | (simp only [List.nil_append];rfl) | simp only [List.nil_append]
 refine walkK_is ?_ (by first | exact gs0 rfl | exact gs1 rfl rfl rfl) (fun _=>TurnR.refl _) (fun u X hX hd=>?_) ?_
 rotate_left
 ·have q1:=(X2.out.below hX.1).cell 7
  have q2:=hg0.out X hX.1
  simp only [List.getElem?_toArray,List.getElem?_cons_zero,List.getElem?_cons_succ] at q1
  try simp at hd
  go_simp
  try rfl
 apply walkK_norm
 ·first | (simp only [List.nil_append,List.cons_append];rfl) | simp only [List.nil_append,List.cons_append]
 refine walkK_is ?_ (by first | exact gs0 rfl | exact gs1 rfl rfl rfl) (fun _=>TurnR.refl _) (fun u X hX hd=>?_) ?_
 rotate_left
 ·have q1:=(X2.out.below hX.1).cell 7
  have q2:=hg0.out X hX.1
  simp only [List.getElem?_toArray,List.getElem?_cons_zero,List.getElem?_cons_succ] at q1
  try simp at hd
  go_simp
  try rfl
 apply walkK_norm
 ·first | (simp only [List.nil_append,List.cons_append];rfl) | simp only [List.nil_append,List.cons_append]
 refine walkK_new (listV wr.heap.size 3 on (ou.map (.int .i64))) (by first | exact gs0 rfl | exact gs1 rfl rfl rfl) (fun v x y hb h=>listV_turn v x y hb h) (fun u X hX hd=>?_) ?_
 ·simp at hd
  obtain ⟨⟨g,hg,ho⟩,h4⟩:=hd
  obtain ⟨v,w',hr,hb,hl⟩:=run_append_none (P:=Tryz.prog) X 49 49 wr.heap.size 3 i0 _ 8 Tryz.underlying49 hi0 hz0 hz1 hz2 rfl (hBX.out X hX) g ho _ _ _ _ (M2.out.ou.below hX.1) (ints_oneC _) (by unfold maxLen;omega) (by omega)
  exact ⟨v,w',exec_append _ _ _ _ _ _ rfl (by go_simp) (by go_simp) hr,TurnR.of (hBX.out X hX) hb,hl⟩
 apply walkK_norm
 ·first | (simp only [List.nil_append,List.cons_append];rfl) | simp only [List.nil_append,List.cons_append]
 refine walkK_is ?_ (by first | exact gs0 rfl | exact gs1 rfl rfl rfl) (fun _=>TurnR.refl _) (fun u X hX hd=>?_) ?_
 rotate_left
 ·have q1:=(X2.out.below hX.1).cell 7
  have q2:=hg0.out X hX.1
  simp only [List.getElem?_toArray,List.getElem?_cons_zero,List.getElem?_cons_succ] at q1
  try simp at hd
  go_simp
  try rfl
 apply walkK_norm
 ·first | (simp only [List.nil_append,List.cons_append];rfl) | simp only [List.nil_append,List.cons_append]
 refine walkK_is ?_ (by first | exact gs0 rfl | exact gs1 rfl rfl rfl) (fun _=>TurnR.refl _) (fun u X hX hd=>?_) ?_
 rotate_left
 ·have q1:=(X2.out.below hX.1).cell 7
  have q2:=hg0.out X hX.1
  simp only [List.getElem?_toArray,List.getElem?_cons_zero,List.getElem?_cons_succ] at q1
  try simp at hd
  go_simp
  try rfl
 apply walkK_norm
 ·first | (simp only [List.nil_append,List.cons_append];rfl) | simp only [List.nil_append,List.cons_append]
 refine walkK_is ?_ (by first | exact gs0 rfl | exact gs1 rfl rfl rfl) (fun _=>TurnR.refl _) (fun u X hX hd=>?_) ?_
 rotate_left
 ·have q1:=(X2.out.below hX.1).cell 7
  have q2:=hg0.out X hX.1
  simp only [List.getElem?_toArray,List.getElem?_cons_zero,List.getElem?_cons_succ] at q1
  try simp at hd
  go_simp
  try rfl
 apply walkK_norm
 ·first | (simp only [List.nil_append,List.cons_append];rfl) | simp only [List.nil_append,List.cons_append]
 refine walkK_new (singV wr.heap.size 3 (.int .i64 top)) (by first | exact gs0 rfl | exact gs1 rfl rfl rfl) (fun v x y hb h=>singV_turn v x y hb h) (fun u X hX hd=>⟨_,_,exec_sing _ _ _ _ rfl (by (try simp at hd);go_simp;try exact hd),TurnR.of (hBX.out X hX) (below_alloc1 _ _),_,rfl,World.ownsRow_lit X #[.int .i64 top] 1 (hBX.out X hX) (by decide) rfl⟩) ?_
 apply walkK_norm
 ·first | (simp only [List.nil_append,List.cons_append];rfl) | simp only [List.nil_append,List.cons_append]
 refine walkK_new (moreV wr.heap.size 3 on (ou.map (.int .i64)) (.int .i64 top)) (by first | exact gs0 rfl | exact gs1 rfl rfl rfl) (fun v x y hb h=>moreV_turn v x y hb h) (fun u X hX hd=>?_) ?_
 ·simp at hd
  obtain ⟨⟨A,c,hA,ho,hc⟩,⟨g,hg,hs⟩,-⟩:=hd
  obtain ⟨v,w',hr,hb,hl⟩:=run_append_sing (P:=Tryz.prog) X 49 49 wr.heap.size 3 i0 _ 8 Tryz.underlying49 hi0 hz0 hz1 hz2 rfl (hBX.out X hX) A _ c _ ho hc _ g hs rfl (by unfold maxLen;omega) (by omega)
  exact ⟨v,w',exec_append _ _ _ _ _ _ rfl (by go_simp) (by go_simp) hr,hb,hl⟩
 apply walkK_norm
 ·first | (simp only [List.nil_append,List.cons_append];rfl) | simp only [List.nil_append,List.cons_append]
 refine walkK_is ?_ (by first | exact gs0 rfl | exact gs1 rfl rfl rfl) (fun _=>TurnR.refl _) (fun u X hX hd=>?_) ?_
 rotate_left
 ·have q1:=(X2.out.below hX.1).cell 7
  have q2:=hg0.out X hX.1
  simp only [List.getElem?_toArray,List.getElem?_cons_zero,List.getElem?_cons_succ] at q1
  try simp at hd
  go_simp
  try rfl
 apply walkK_norm
 ·first | (simp only [List.nil_append,List.cons_append];rfl) | simp only [List.nil_append,List.cons_append]
 intro u X hX hsay
 simp only [sayAll,isV] at hsay
 obtain ⟨⟨g0,v0,-⟩,v1,v2,⟨A3,c3,v3,-⟩,v4,v5,v6,⟨g1,v7,-⟩,⟨g2,c2,v8,ho2⟩,v9,-⟩:=hsay
 have XB:=Lib.hid (X2.out.below hX.1)
 have z3:=XB.out.cell 7
 have zg:=XB.out.frozen
 have zm:=XB.out.lt
 simp only [List.getElem?_toArray,List.getElem?_cons_zero,List.getElem?_cons_succ] at z3
 have X3:Hid (Bk (X.setCell ⟨w.heap.size + 1,7,none⟩ (.slice (some ⟨g2,0,none⟩) (on + 1) c2)) (w.heap.size + 1) 64 (mC ((i:Int) + 1) (fuel - 1) (.slice A' k c') r0 r1 r2 r3 (.slice (some ⟨g2,0,none⟩) (on + 1) c2) false e0)):=Lib.hid (by simpa using XB.out.set 7 (.slice (some ⟨g2,0,none⟩) (on + 1) c2))
 have R3:=Lib.hid ((R2.out.below hX.1).far (p:=⟨w.heap.size + 1,7,none⟩) (by simp) (.slice (some ⟨g2,0,none⟩) (on + 1) c2))
 have P3:=Lib.hid (own_cellBelow (own_below P2.out hX.1) (G:=w.heap.size + 1) (by omega) 7 (.slice (some ⟨g2,0,none⟩) (on + 1) c2))
 have Q3:=Lib.hid (own_cellBelow ho2 (G:=w.heap.size + 1) (by omega) 7 (.slice (some ⟨g2,0,none⟩) (on + 1) c2))
 have M3:=Lib.hid ((M2.out.below hX.1).setCell (HM.out.offNew (G:=w.heap.size + 1) (by omega)) 7 (.slice (some ⟨g2,0,none⟩) (on + 1) c2))
 have B3:=Lib.hid ((bnext BB.out hX.1).setCell (p:=⟨w.heap.size + 1,7,none⟩) (by simp) (.slice (some ⟨g2,0,none⟩) (on + 1) c2))
 simp only [putAll,Act.put,v0,v1,v2,v3,v4,v5,v6,v7,v8,v9,List.setIfInBounds_toArray,List.set_cons_succ,List.set_cons_zero]
 clear z2 zf zl zi ho2 v0 v1 v2 v3 v4 v5 v6 v7 v8 v9
 go_wp2_with (first
  | (with_reducible refine ld_mach (w.heap.size + 1) X3.out _ rfl rfl rfl ?_)
  | (with_reducible refine st_mach (w.heap.size + 1 + 1) R3.out rfl rfl _ _ rfl rfl rfl rfl ?_))
 exact bodyPost_ret (v:=.tuple #[.agg (mC ((i:Int) + 1) (fuel - 1) (.slice A' k c') r0 r1 r2 r3 (.slice (some ⟨g2,0,none⟩) (on + 1) c2) false e0),.slice bA bn bc]) (res2_mach rfl _ _ (w.heap.size + 1 + 1) _ rfl rfl (Bk.setRow R3.out _)) rfl
  ⟨_,_,_,_,_,_,_,_,_,rfl,MIn.setRow (⟨by have:=Sl.own' P3.out;simpa using this,by have:=Sl.own' Q3.out;simpa using this,M3.out.bk⟩) (⟨own_offA P3.out (by omega),own_offA Q3.out (by omega),(HM.out.offNew (by omega)).2.2⟩) _,below_row B3.out (by omega) _,fun G hG h=>⟨own_offA P3.out (by omega),own_offA Q3.out (by omega),h.2.2⟩⟩
end
end Go.Proofs.YtpaocjpjlogkgaaGreat

/-
  What the reference's Step of layer 10 answers, in whatever memory: of two numbers. No conditions but those that stand there.
-/
namespace Go.Proofs.YtpaocjpjlogkgaaGreat
open Go.RowKit
set_option maxRecDepth 100000
attribute [local go_sem] look findAt
attribute [local simp] depsOf isV Region.binds
theorem rtwo_any (op a b:Int) (h:7≤op∧op≤12) (w:World):Calls Tryz.prog 91 #[.int .i64 op,.int .i64 a,.int .i64 b] w fun e w'=>e=.returned (madeV op a b)∧w=w':=by
 rcases (show op=7∨op=8∨op=9∨op=10∨op=11∨op=12 by omega) with rfl | rfl | rfl | rfl | rfl | rfl
 ·go_enter Tryz.func91,Tryz.ntmps91
  go_wp2
  go_ret2
  exact ⟨rfl,rfl⟩
 ·go_enter Tryz.func91,Tryz.ntmps91
  go_wp2
  go_ret2
  exact ⟨rfl,rfl⟩
 ·go_enter Tryz.func91,Tryz.ntmps91
  go_wp2
  go_ret2
  exact ⟨rfl,rfl⟩
 ·by_cases hb:b=0
  ·subst hb
   go_enter Tryz.func91,Tryz.ntmps91
   go_wp2
   go_ret2
   exact ⟨rfl,rfl⟩
  ·have hb':(b == 0)=false:=by simpa using hb
   have hm:Hid (madeV 10 a b=.tuple #[.int .i64 (wrap64 (a.tdiv b)),.int .i64 0]):=Lib.hid (by simp [madeV,twoN,hb])
   go_enter Tryz.func91,Tryz.ntmps91
   go_wp2
   go_ret2
   exact ⟨by rw [hm.out];rfl,rfl⟩
 ·by_cases hc:a < b
  ·have hm:Hid (madeV 11 a b=.tuple #[.int .i64 1,.int .i64 0]):=Lib.hid (by simp [madeV,twoN,hc])
   go_enter Tryz.func91,Tryz.ntmps91
   go_wp2
   go_ret2
   exact ⟨by rw [hm.out];rfl,rfl⟩
  ·have hm:Hid (madeV 11 a b=.tuple #[.int .i64 0,.int .i64 0]):=Lib.hid (by simp [madeV,twoN,hc])
   go_enter Tryz.func91,Tryz.ntmps91
   go_wp2
   go_ret2
   exact ⟨by rw [hm.out];rfl,rfl⟩
 ·by_cases hc:a=b
  ·have hm:Hid (madeV 12 a b=.tuple #[.int .i64 1,.int .i64 0]):=Lib.hid (by simp [madeV,twoN,hc])
   have hd:(a == b)=true:=by simpa using hc
   clear hc
   go_enter Tryz.func91,Tryz.ntmps91
   go_wp2
   go_ret2
   exact ⟨by rw [hm.out];rfl,rfl⟩
  ·have hm:Hid (madeV 12 a b=.tuple #[.int .i64 0,.int .i64 0]):=Lib.hid (by simp [madeV,twoN,hc])
   have hd:(a == b)=false:=by simpa using hc
   clear hc
   go_enter Tryz.func91,Tryz.ntmps91
   go_wp2
   go_ret2
   exact ⟨by rw [hm.out];rfl,rfl⟩
section
variable (ra:Option Addr) (nr rc:Nat) (wa:Option Addr) (nw wc:Nat) (aa:Option Addr) (na ac:Nat) (cf:Int) (ca:Option Addr) (nc cc:Nat)
variable (fuel:Int) (sA:Option Addr) (sn sc:Nat) (r0 r1 r2 r3:Int) (oA:Option Addr) (on oc:Nat) (e0:Int) (bA:Option Addr) (bn bc:Nat)
set_option maxHeartbeats 4000000 in
set_option maxRecDepth 100000 in
theorem rstep_nought (l:List Ins) (i:Nat) (k:Nat) (hk:k≤1000) (op a b:Int) (st ou:List Int) (own:Blks) (w:World) (hC:Inss w ca cc l) (hl:l.length=nc) (hi:i < nc) (hic:nc≤1000) (hx:insAt l i=⟨op,a,b⟩) (hM:MIn w st ou own sA (k + 2) sc oA on oc bA bn bc) (hf:fuel≠0) (hf2:0≤fuel∧fuel≤1000) (hop:7≤op∧op≤12) (ht:twoN op (st[k]?.getD 0) (st[k + 1]?.getD 0)=none) :
  Calls Tryz.prog 46 #[cmV ra nr rc wa nw wc aa na ac cf ca nc cc,.agg (mC (i:Int) fuel (.slice sA (k + 2:Nat) sc) r0 r1 r2 r3 (.slice oA on oc) false e0),.slice bA bn bc] w (RSPost ((i:Int) + 1) (fuel - 1) st r0 r1 r2 r3 [] true 12 own sA (k + 2) oA on bA bn w):=by
 obtain ⟨lo,hlo⟩:∃ x,x=st[k]?.getD 0:=⟨_,rfl⟩
 obtain ⟨up,hup⟩:∃ x,x=st[k + 1]?.getD 0:=⟨_,rfl⟩
 rw [← hlo,← hup] at ht
 have HLO:=Lib.hid hlo
 have HUP:=Lib.hid hup
 have hrt:Hid (∀ X,Calls Tryz.prog 91 #[.int .i64 op,.int .i64 lo,.int .i64 up] X fun e w'=>e=.returned (.tuple #[.int .i64 0,.int .i64 12])∧Below X.heap.size X w'):=Lib.hid (fun X=>(rtwo_any op lo up hop X).mono fun e w' ⟨he,hw⟩=>⟨by rw [he,madeV,ht],by rw [← hw];exact Below.refl _ _⟩)
 have q1:(op == 1)=false:=by simp;omega
 have q2:(op == 2)=false:=by simp;omega
 have q4:(op == 4)=false:=by simp;omega
 have q6:(op == 6)=false:=by simp;omega
 have q14:(op == 14)=false:=by simp;omega
 have q16:(op == 16)=false:=by simp;omega
 have q17:(op == 17)=false:=by simp;omega
 have q3:(op == 3)=false:=by simp;omega
 have q5:(op == 5)=false:=by simp;omega
 have q13:(op == 13)=false:=by simp;omega
 have q15:(op == 15)=false:=by simp;omega
 clear hop ht hlo hup
 have hov:=Lib.hid (fun sA W=>rover_bad ((i:Int) + 1) (fuel - 1) sA (k + 2) sc r0 r1 r2 r3 oA on oc false e0 12 (by decide) W)
 obtain ⟨cb,co,rfl,hcb,x0,x1,x2⟩:=hC.cellAt (j:=i) (by omega)
 rw [hx] at x0 x1 x2
 simp only at x0 x1 x2
 have hcc:=hC.2.1
 rw [hl] at hcc
 have d1:(i:Int) < (nc:Int):=by omega
 have d2:(i:Int) < (cc:Int):=by omega
 have f0:(fuel == 0)=false:=by simpa using hf
 have bb:=sB_below #[.slice ra nr rc,.slice wa nw wc,.slice aa na ac,.int .i64 cf,.slice (some ⟨cb,co,none⟩) nc cc] (mC (i:Int) (fuel - 1) (.slice sA (k + 2:Nat) sc) r0 r1 r2 r3 (.slice oA on oc) false e0) w
 have y0:=(bb.cell (p:=⟨cb,co + i * 3,none⟩) hcb).trans x0
 have y1:=(bb.cell (p:=⟨cb,co + i * 3 + 1,none⟩) hcb).trans x1
 have y2:=(bb.cell (p:=⟨cb,co + i * 3 + 2,none⟩) hcb).trans x2
 have HM:=Lib.hid hM
 clear hC hx hl bb hM
 obtain ⟨i0,hi0,hz0,hz1,hz2⟩:=infoInt
 obtain ⟨sb,so,rfl,-,-⟩:=HM.out.st.2.2.2 (by omega)
 have B0:Hid (Below w.heap.size w ((sB #[.slice ra nr rc,.slice wa nw wc,.slice aa na ac,.int .i64 cf,.slice (some ⟨cb,co,none⟩) nc cc] (mC ((i:Int) + 1) (fuel - 1) (.slice (some ⟨sb,so,none⟩) (k + 2:Nat) sc) r0 r1 r2 r3 (.slice oA on oc) false e0) w).alloc (.cells #[.int .i64 op,.int .i64 a,.int .i64 b] 72))):=Lib.hid (bnext (sB_below _ _ _) (below_alloc1 _ _))
 have X0:Hid (Bk ((sB #[.slice ra nr rc,.slice wa nw wc,.slice aa na ac,.int .i64 cf,.slice (some ⟨cb,co,none⟩) nc cc] (mC ((i:Int) + 1) (fuel - 1) (.slice (some ⟨sb,so,none⟩) (k + 2:Nat) sc) r0 r1 r2 r3 (.slice oA on oc) false e0) w).alloc (.cells #[.int .i64 op,.int .i64 a,.int .i64 b] 72)) (w.heap.size + 1) 64 (mC ((i:Int) + 1) (fuel - 1) (.slice (some ⟨sb,so,none⟩) (k + 2:Nat) sc) r0 r1 r2 r3 (.slice oA on oc) false e0)):=Lib.hid ((sB_box _ _ _).alloc _)
 have R0:Hid (Bk ((sB #[.slice ra nr rc,.slice wa nw wc,.slice aa na ac,.int .i64 cf,.slice (some ⟨cb,co,none⟩) nc cc] (mC ((i:Int) + 1) (fuel - 1) (.slice (some ⟨sb,so,none⟩) (k + 2:Nat) sc) r0 r1 r2 r3 (.slice oA on oc) false e0) w).alloc (.cells #[.int .i64 op,.int .i64 a,.int .i64 b] 72)) (w.heap.size + 1 + 1) 64 mZ):=Lib.hid ((sB_res _ _ _).alloc _)
 have I0:Hid (Bk ((sB #[.slice ra nr rc,.slice wa nw wc,.slice aa na ac,.int .i64 cf,.slice (some ⟨cb,co,none⟩) nc cc] (mC ((i:Int) + 1) (fuel - 1) (.slice (some ⟨sb,so,none⟩) (k + 2:Nat) sc) r0 r1 r2 r3 (.slice oA on oc) false e0) w).alloc (.cells #[.int .i64 op,.int .i64 a,.int .i64 b] 72)) (w.heap.size + 1 + 1 + 1) 72 #[.int .i64 op,.int .i64 a,.int .i64 b]):=Lib.hid (rW_ins _ _ _ _)
 have hpop:=Lib.hid (rpop2 ((i:Int) + 1) (fuel - 1) st r0 r1 r2 r3 false e0 (some ⟨sb,so,none⟩) sc oA on oc k ((sB #[.slice ra nr rc,.slice wa nw wc,.slice aa na ac,.int .i64 cf,.slice (some ⟨cb,co,none⟩) nc cc] (mC ((i:Int) + 1) (fuel - 1) (.slice (some ⟨sb,so,none⟩) (k + 2:Nat) sc) r0 r1 r2 r3 (.slice oA on oc) false e0) w).alloc (.cells #[.int .i64 op,.int .i64 a,.int .i64 b] 72)) (HM.out.st.below B0.out) hk)
 have hWs:Hid (w.heap.size + 1 + 1 + 1 < ((sB #[.slice ra nr rc,.slice wa nw wc,.slice aa na ac,.int .i64 cf,.slice (some ⟨cb,co,none⟩) nc cc] (mC ((i:Int) + 1) (fuel - 1) (.slice (some ⟨sb,so,none⟩) (k + 2:Nat) sc) r0 r1 r2 r3 (.slice oA on oc) false e0) w).alloc (.cells #[.int .i64 op,.int .i64 a,.int .i64 b] 72)).heap.size):=Lib.hid I0.out.lt
 go_enter Tryz.func46,Tryz.ntmps46
 go_wp2_with (first
  | (with_reducible refine ld_mach (w.heap.size + 1) X0.out _ rfl rfl rfl ?_)
  | (go_at_call 89;go_must ((with_reducible refine hpop.out.mono ?_);rintro e w1 ⟨⟨A,c,A',c',rfl,p1,p2⟩,hb1⟩;have BB:=Lib.hid (bnext B0.out hb1);have P1:=Lib.hid p1;have P2:=Lib.hid p2;have X1:=Lib.hid (X0.out.below hb1);have R1:=Lib.hid (R0.out.below hb1);have I1:=Lib.hid (I0.out.below hb1);have M1:=Lib.hid ((HM.out.below B0.out).below hb1);clear p1 p2 hb1)))
 have hb2:=I1.out.lt
 have hWz:=hWs.out
 try simp only [List.append_eq,List.cons_append,List.nil_append]
 obtain ⟨g,cur,rfl,hgB,hgk,hgc,-,hgs,hgt⟩:=own_pos P1.out (by omega)
 have hg0:Hid (∀ X,Below w1.heap.size w1 X→X.cell? ⟨g,0,none⟩=some (.int .i64 lo)∧X.cell? ⟨g,1,none⟩=some (.int .i64 up)):=Lib.hid (fun X hX=>by
  have hl:=HM.out.st.1
  simp at hl
  have key:∀ j,j < 2→X.cell? ⟨g,j,none⟩=some (.int .i64 (st[k + j]?.getD 0)):=fun j hj=>by
   rw [(hgk.below hX).cell j,← Array.getElem?_toList]
   have h1:(cur.toList.take (2 * 1))[j]? = (((st.drop k).map (Value.int .i64)))[j]?:=by rw [hgt]
   rw [List.getElem?_take,if_pos (by omega)] at h1
   rw [h1,List.getElem?_map,List.getElem?_drop]
   simp [show k + j < st.length by omega]
  exact ⟨by rw [HLO.out];exact key 0 (by omega),by rw [HUP.out];exact key 1 (by omega)⟩)
 have hgc1:(2:Int)≤(c:Int):=by omega
 have hgB2:w.heap.size + 1 + 1 + 1 < g:=by omega
 clear hgk hgs hgt
 refine wp_region_saysK 13 (fun x y=>Below x.heap.size x y) (fun _ _ _ h k=>bnext h k) w1 (below_drew1 w1) (by kernel_rfl) (by kernel_rfl) (by kernel_rfl) (by kernel_rfl) (by rfl) ?_
 simp only [List.take_succ_cons,List.take_zero,List.drop_succ_cons,List.drop_zero]
 refine walkK_is ?_ (by first | exact gs0 rfl | exact gs1 rfl rfl rfl) (fun _=>Below.refl _ _) (fun u X hX hd=>?_) ?_
 rotate_left
 ·have q0:=(I1.out.below hX).cell 0
  obtain ⟨z1,z2⟩:=hg0.out X hX
  simp only [List.getElem?_toArray,List.getElem?_cons_zero] at q0
  try simp at hd
  go_simp
  try rfl
 apply walkK_norm
 ·first | (simp only [List.nil_append];rfl) | simp only [List.nil_append]
 refine walkK_is ?_ (by first | exact gs0 rfl | exact gs1 rfl rfl rfl) (fun _=>Below.refl _ _) (fun u X hX hd=>?_) ?_
 rotate_left
 ·have q0:=(I1.out.below hX).cell 0
  obtain ⟨z1,z2⟩:=hg0.out X hX
  simp only [List.getElem?_toArray,List.getElem?_cons_zero] at q0
  try simp at hd
  go_simp
  try rfl
 apply walkK_norm
 ·first | (simp only [List.nil_append,List.cons_append];rfl) | simp only [List.nil_append,List.cons_append]
 refine walkK_is ?_ (by first | exact gs0 rfl | exact gs1 rfl rfl rfl) (fun _=>Below.refl _ _) (fun u X hX hd=>?_) ?_
 rotate_left
 ·have q0:=(I1.out.below hX).cell 0
  obtain ⟨z1,z2⟩:=hg0.out X hX
  simp only [List.getElem?_toArray,List.getElem?_cons_zero] at q0
  try simp at hd
  go_simp
  try rfl
 apply walkK_norm
 ·first | (simp only [List.nil_append,List.cons_append];rfl) | simp only [List.nil_append,List.cons_append]
 refine walkK_is ?_ (by first | exact gs0 rfl | exact gs1 rfl rfl rfl) (fun _=>Below.refl _ _) (fun u X hX hd=>?_) ?_
 rotate_left
 ·have q0:=(I1.out.below hX).cell 0
  obtain ⟨z1,z2⟩:=hg0.out X hX
  simp only [List.getElem?_toArray,List.getElem?_cons_zero] at q0
  try simp at hd
  go_simp
  try rfl
 apply walkK_norm
 ·first | (simp only [List.nil_append,List.cons_append];rfl) | simp only [List.nil_append,List.cons_append]
 refine walkK_is ?_ (by first | exact gs0 rfl | exact gs1 rfl rfl rfl) (fun _=>Below.refl _ _) (fun u X hX hd=>?_) ?_
 rotate_left
 ·have q0:=(I1.out.below hX).cell 0
  obtain ⟨z1,z2⟩:=hg0.out X hX
  simp only [List.getElem?_toArray,List.getElem?_cons_zero] at q0
  try simp at hd
  go_simp
  try rfl
 apply walkK_norm
 ·first | (simp only [List.nil_append,List.cons_append];rfl) | simp only [List.nil_append,List.cons_append]
 refine walkK_is ?_ (by first | exact gs0 rfl | exact gs1 rfl rfl rfl) (fun _=>Below.refl _ _) (fun u X hX hd=>?_) ?_
 rotate_left
 ·have q0:=(I1.out.below hX).cell 0
  obtain ⟨z1,z2⟩:=hg0.out X hX
  simp only [List.getElem?_toArray,List.getElem?_cons_zero] at q0
  try simp at hd
  go_simp
  try rfl
 apply walkK_norm
 ·first | (simp only [List.nil_append,List.cons_append];rfl) | simp only [List.nil_append,List.cons_append]
 refine walkK_is ?_ (by first | exact gs0 rfl | exact gs1 rfl rfl rfl) (fun _=>Below.refl _ _) (fun u X hX hd=>?_) ?_
 rotate_left
 ·have q0:=(I1.out.below hX).cell 0
  obtain ⟨z1,z2⟩:=hg0.out X hX
  simp only [List.getElem?_toArray,List.getElem?_cons_zero] at q0
  try simp at hd
  go_simp
  try rfl
 apply walkK_norm
 ·first | (simp only [List.nil_append,List.cons_append];rfl) | simp only [List.nil_append,List.cons_append]
 refine walkK_is ?_ (by first | exact gs0 rfl | exact gs1 rfl rfl rfl) (fun _=>Below.refl _ _) (fun u X hX hd=>?_) ?_
 rotate_left
 ·have q0:=(I1.out.below hX).cell 0
  obtain ⟨z1,z2⟩:=hg0.out X hX
  simp only [List.getElem?_toArray,List.getElem?_cons_zero] at q0
  try simp at hd
  go_simp
  try rfl
 apply walkK_norm
 ·first | (simp only [List.nil_append,List.cons_append];rfl) | simp only [List.nil_append,List.cons_append]
 refine walkK_call (isV (.tuple #[.int .i64 0,.int .i64 12])) 91 ?_ (by first | exact gs0 rfl | exact gs1 rfl rfl rfl) (fun _ _ _ _ h=>h) (fun u X hX hd=>?_) (fun X hX=>?_) ?_
 rotate_left
 ·have q0:=(I1.out.below hX).cell 0
  obtain ⟨z1,z2⟩:=hg0.out X hX
  simp only [List.getElem?_toArray,List.getElem?_cons_zero] at q0
  try simp at hd
  go_simp
  try rfl
 ·exact (hrt.out X).mono fun e X' ⟨he,hb⟩=>⟨_,he,hb,rfl⟩
 apply walkK_norm
 ·first | (simp only [List.nil_append,List.cons_append];rfl) | simp only [List.nil_append,List.cons_append]
 refine walkK_is ?_ (by first | exact gs0 rfl | exact gs1 rfl rfl rfl) (fun _=>Below.refl _ _) (fun u X hX hd=>?_) ?_
 rotate_left
 ·have q0:=(I1.out.below hX).cell 0
  obtain ⟨z1,z2⟩:=hg0.out X hX
  simp only [List.getElem?_toArray,List.getElem?_cons_zero] at q0
  try simp at hd
  go_simp
  try rfl
 apply walkK_norm
 ·first | (simp only [List.nil_append,List.cons_append];rfl) | simp only [List.nil_append,List.cons_append]
 refine walkK_is ?_ (by first | exact gs0 rfl | exact gs1 rfl rfl rfl) (fun _=>Below.refl _ _) (fun u X hX hd=>?_) ?_
 rotate_left
 ·have q0:=(I1.out.below hX).cell 0
  obtain ⟨z1,z2⟩:=hg0.out X hX
  simp only [List.getElem?_toArray,List.getElem?_cons_zero] at q0
  try simp at hd
  go_simp
  try rfl
 apply walkK_norm
 ·first | (simp only [List.nil_append,List.cons_append];rfl) | simp only [List.nil_append,List.cons_append]
 refine walkK_is ?_ (by first | exact gs0 rfl | exact gs1 rfl rfl rfl) (fun _=>Below.refl _ _) (fun u X hX hd=>?_) ?_
 rotate_left
 ·have q0:=(I1.out.below hX).cell 0
  obtain ⟨z1,z2⟩:=hg0.out X hX
  simp only [List.getElem?_toArray,List.getElem?_cons_zero] at q0
  try simp at hd
  go_simp
  try rfl
 apply walkK_norm
 ·first | (simp only [List.nil_append,List.cons_append];rfl) | simp only [List.nil_append,List.cons_append]
 refine walkK_is ?_ (by first | exact gs0 rfl | exact gs1 rfl rfl rfl) (fun _=>Below.refl _ _) (fun u X hX hd=>?_) ?_
 rotate_left
 ·have q0:=(I1.out.below hX).cell 0
  obtain ⟨z1,z2⟩:=hg0.out X hX
  simp only [List.getElem?_toArray,List.getElem?_cons_zero] at q0
  try simp at hd
  go_simp
  try rfl
 apply walkK_norm
 ·first | (simp only [List.nil_append,List.cons_append];rfl) | simp only [List.nil_append,List.cons_append]
 intro u X hX hsay
 simp only [sayAll,isV] at hsay
 obtain ⟨v0,v1,v2,v3,v4,v5,v6,v7,v8,v9,v10,v11,v12,-⟩:=hsay
 have X2:=Lib.hid (X1.out.below hX)
 have R2:=Lib.hid (R1.out.below hX)
 have P3:=Lib.hid (own_below P2.out hX)
 have M2:=Lib.hid (M1.out.below hX)
 have B2:=Lib.hid (bnext BB.out hX)
 have hXs:=hX.size
 simp only [putAll,Act.put,v0,v1,v2,v3,v4,v5,v6,v7,v8,v9,v10,v11,v12,List.setIfInBounds_toArray,List.set_cons_succ,List.set_cons_zero]
 clear hX v0 v1 v2 v3 v4 v5 v6 v7 v8 v9 v10 v11 v12
 go_wp2_with (first
  | (with_reducible refine ld_mach (w.heap.size + 1) X2.out _ rfl rfl rfl ?_)
  | (go_at_call 87;go_must ((with_reducible refine (hov.out _ _).mono ?_);rintro e w4 ⟨rfl,hb4⟩;have R4:=Lib.hid (R2.out.below hb4);have B4:=Lib.hid (bnext B2.out hb4);have M4:=Lib.hid (M2.out.below hb4);clear hb4))
  | (with_reducible refine st_mach (w.heap.size + 1 + 1) R4.out rfl rfl _ _ rfl rfl rfl rfl ?_))
 exact bodyPost_ret (v:=.tuple #[.agg (mC ((i:Int) + 1) (fuel - 1) (.slice (some ⟨sb,so,none⟩) (k + 2:Nat) sc) r0 r1 r2 r3 (.slice none 0 0) true 12),.slice bA bn bc]) (res2_mach rfl _ _ (w.heap.size + 1 + 1) _ rfl rfl (Bk.setRow R4.out _)) rfl
  ⟨_,_,_,_,_,_,_,_,_,rfl,MIn.setRow (⟨M4.out.st,⟨rfl,Nat.le_refl _,fun _=>⟨rfl,rfl⟩,fun h=>absurd h (by omega)⟩,M4.out.bk⟩) (⟨(HM.out.offNew (by omega)).1,fun h=>absurd h (by omega),(HM.out.offNew (by omega)).2.2⟩) _,below_row B4.out (by omega) _,fun G hG h=>⟨h.1,fun h=>absurd h (by omega),h.2.2⟩⟩
set_option maxHeartbeats 4000000 in
set_option maxRecDepth 100000 in
theorem rstep_two (l:List Ins) (i:Nat) (k:Nat) (hk:k≤1000) (op a b:Int) (st ou:List Int) (own:Blks) (w:World) (hC:Inss w ca cc l) (hl:l.length=nc) (hi:i < nc) (hic:nc≤1000) (hx:insAt l i=⟨op,a,b⟩) (hM:MIn w st ou own sA (k + 2) sc oA on oc bA bn bc) (hf:fuel≠0) (hf2:0≤fuel∧fuel≤1000) (hop:7≤op∧op≤12) (n:Int) (ht:twoN op (st[k]?.getD 0) (st[k + 1]?.getD 0)=some n) :
  Calls Tryz.prog 46 #[cmV ra nr rc wa nw wc aa na ac cf ca nc cc,.agg (mC (i:Int) fuel (.slice sA (k + 2:Nat) sc) r0 r1 r2 r3 (.slice oA on oc) false e0),.slice bA bn bc] w (RSPost ((i:Int) + 1) (fuel - 1) (st.take k ++ [n]) r0 r1 r2 r3 ou false e0 own sA (k + 2) oA on bA bn w):=by
 obtain ⟨lo,hlo⟩:∃ x,x=st[k]?.getD 0:=⟨_,rfl⟩
 obtain ⟨up,hup⟩:∃ x,x=st[k + 1]?.getD 0:=⟨_,rfl⟩
 rw [← hlo,← hup] at ht
 have HLO:=Lib.hid hlo
 have HUP:=Lib.hid hup
 have hrt:Hid (∀ X,Calls Tryz.prog 91 #[.int .i64 op,.int .i64 lo,.int .i64 up] X fun e w'=>e=.returned (.tuple #[.int .i64 n,.int .i64 0])∧Below X.heap.size X w'):=Lib.hid (fun X=>(rtwo_any op lo up hop X).mono fun e w' ⟨he,hw⟩=>⟨by rw [he,madeV,ht],by rw [← hw];exact Below.refl _ _⟩)
 have q1:(op == 1)=false:=by simp;omega
 have q2:(op == 2)=false:=by simp;omega
 have q4:(op == 4)=false:=by simp;omega
 have q6:(op == 6)=false:=by simp;omega
 have q14:(op == 14)=false:=by simp;omega
 have q16:(op == 16)=false:=by simp;omega
 have q17:(op == 17)=false:=by simp;omega
 have q3:(op == 3)=false:=by simp;omega
 have q5:(op == 5)=false:=by simp;omega
 have q13:(op == 13)=false:=by simp;omega
 have q15:(op == 15)=false:=by simp;omega
 clear hop ht hlo hup
 obtain ⟨cb,co,rfl,hcb,x0,x1,x2⟩:=hC.cellAt (j:=i) (by omega)
 rw [hx] at x0 x1 x2
 simp only at x0 x1 x2
 have hcc:=hC.2.1
 rw [hl] at hcc
 have d1:(i:Int) < (nc:Int):=by omega
 have d2:(i:Int) < (cc:Int):=by omega
 have f0:(fuel == 0)=false:=by simpa using hf
 have bb:=sB_below #[.slice ra nr rc,.slice wa nw wc,.slice aa na ac,.int .i64 cf,.slice (some ⟨cb,co,none⟩) nc cc] (mC (i:Int) (fuel - 1) (.slice sA (k + 2:Nat) sc) r0 r1 r2 r3 (.slice oA on oc) false e0) w
 have y0:=(bb.cell (p:=⟨cb,co + i * 3,none⟩) hcb).trans x0
 have y1:=(bb.cell (p:=⟨cb,co + i * 3 + 1,none⟩) hcb).trans x1
 have y2:=(bb.cell (p:=⟨cb,co + i * 3 + 2,none⟩) hcb).trans x2
 have HM:=Lib.hid hM
 clear hC hx hl bb hM
 obtain ⟨i0,hi0,hz0,hz1,hz2⟩:=infoInt
 obtain ⟨sb,so,rfl,-,-⟩:=HM.out.st.2.2.2 (by omega)
 have B0:Hid (Below w.heap.size w ((sB #[.slice ra nr rc,.slice wa nw wc,.slice aa na ac,.int .i64 cf,.slice (some ⟨cb,co,none⟩) nc cc] (mC ((i:Int) + 1) (fuel - 1) (.slice (some ⟨sb,so,none⟩) (k + 2:Nat) sc) r0 r1 r2 r3 (.slice oA on oc) false e0) w).alloc (.cells #[.int .i64 op,.int .i64 a,.int .i64 b] 72))):=Lib.hid (bnext (sB_below _ _ _) (below_alloc1 _ _))
 have X0:Hid (Bk ((sB #[.slice ra nr rc,.slice wa nw wc,.slice aa na ac,.int .i64 cf,.slice (some ⟨cb,co,none⟩) nc cc] (mC ((i:Int) + 1) (fuel - 1) (.slice (some ⟨sb,so,none⟩) (k + 2:Nat) sc) r0 r1 r2 r3 (.slice oA on oc) false e0) w).alloc (.cells #[.int .i64 op,.int .i64 a,.int .i64 b] 72)) (w.heap.size + 1) 64 (mC ((i:Int) + 1) (fuel - 1) (.slice (some ⟨sb,so,none⟩) (k + 2:Nat) sc) r0 r1 r2 r3 (.slice oA on oc) false e0)):=Lib.hid ((sB_box _ _ _).alloc _)
 have R0:Hid (Bk ((sB #[.slice ra nr rc,.slice wa nw wc,.slice aa na ac,.int .i64 cf,.slice (some ⟨cb,co,none⟩) nc cc] (mC ((i:Int) + 1) (fuel - 1) (.slice (some ⟨sb,so,none⟩) (k + 2:Nat) sc) r0 r1 r2 r3 (.slice oA on oc) false e0) w).alloc (.cells #[.int .i64 op,.int .i64 a,.int .i64 b] 72)) (w.heap.size + 1 + 1) 64 mZ):=Lib.hid ((sB_res _ _ _).alloc _)
 have I0:Hid (Bk ((sB #[.slice ra nr rc,.slice wa nw wc,.slice aa na ac,.int .i64 cf,.slice (some ⟨cb,co,none⟩) nc cc] (mC ((i:Int) + 1) (fuel - 1) (.slice (some ⟨sb,so,none⟩) (k + 2:Nat) sc) r0 r1 r2 r3 (.slice oA on oc) false e0) w).alloc (.cells #[.int .i64 op,.int .i64 a,.int .i64 b] 72)) (w.heap.size + 1 + 1 + 1) 72 #[.int .i64 op,.int .i64 a,.int .i64 b]):=Lib.hid (rW_ins _ _ _ _)
 have hpop:=Lib.hid (rpop2 ((i:Int) + 1) (fuel - 1) st r0 r1 r2 r3 false e0 (some ⟨sb,so,none⟩) sc oA on oc k ((sB #[.slice ra nr rc,.slice wa nw wc,.slice aa na ac,.int .i64 cf,.slice (some ⟨cb,co,none⟩) nc cc] (mC ((i:Int) + 1) (fuel - 1) (.slice (some ⟨sb,so,none⟩) (k + 2:Nat) sc) r0 r1 r2 r3 (.slice oA on oc) false e0) w).alloc (.cells #[.int .i64 op,.int .i64 a,.int .i64 b] 72)) (HM.out.st.below B0.out) hk)
 have hWs:Hid (w.heap.size + 1 + 1 + 1 < ((sB #[.slice ra nr rc,.slice wa nw wc,.slice aa na ac,.int .i64 cf,.slice (some ⟨cb,co,none⟩) nc cc] (mC ((i:Int) + 1) (fuel - 1) (.slice (some ⟨sb,so,none⟩) (k + 2:Nat) sc) r0 r1 r2 r3 (.slice oA on oc) false e0) w).alloc (.cells #[.int .i64 op,.int .i64 a,.int .i64 b] 72)).heap.size):=Lib.hid I0.out.lt
 go_enter Tryz.func46,Tryz.ntmps46
 go_wp2_with (first
  | (with_reducible refine ld_mach (w.heap.size + 1) X0.out _ rfl rfl rfl ?_)
  | (go_at_call 89;go_must ((with_reducible refine hpop.out.mono ?_);rintro e w1 ⟨⟨A,c,A',c',rfl,p1,p2⟩,hb1⟩;have BB:=Lib.hid (bnext B0.out hb1);have BWW:=Lib.hid hb1.size;have P1:=Lib.hid p1;have P2:=Lib.hid p2;have X1:=Lib.hid (X0.out.below hb1);have R1:=Lib.hid (R0.out.below hb1);have I1:=Lib.hid (I0.out.below hb1);have M1:=Lib.hid ((HM.out.below B0.out).below hb1);clear p1 p2 hb1)))
 have hb2:=I1.out.lt
 have hWz:=hWs.out
 try simp only [List.append_eq,List.cons_append,List.nil_append]
 obtain ⟨g,cur,rfl,hgB,hgk,hgc,-,hgs,hgt⟩:=own_pos P1.out (by omega)
 have hg0:Hid (∀ X,Below w1.heap.size w1 X→X.cell? ⟨g,0,none⟩=some (.int .i64 lo)∧X.cell? ⟨g,1,none⟩=some (.int .i64 up)):=Lib.hid (fun X hX=>by
  have hl:=HM.out.st.1
  simp at hl
  have key:∀ j,j < 2→X.cell? ⟨g,j,none⟩=some (.int .i64 (st[k + j]?.getD 0)):=fun j hj=>by
   rw [(hgk.below hX).cell j,← Array.getElem?_toList]
   have h1:(cur.toList.take (2 * 1))[j]? = (((st.drop k).map (Value.int .i64)))[j]?:=by rw [hgt]
   rw [List.getElem?_take,if_pos (by omega)] at h1
   rw [h1,List.getElem?_map,List.getElem?_drop]
   simp [show k + j < st.length by omega]
  exact ⟨by rw [HLO.out];exact key 0 (by omega),by rw [HUP.out];exact key 1 (by omega)⟩)
 have hgc1:(2:Int)≤(c:Int):=by omega
 have hgB2:w.heap.size + 1 + 1 + 1 < g:=by omega
 clear hgk hgs hgt
 refine wp_region_saysK 13 (fun x y=>Below x.heap.size x y) (fun _ _ _ h k=>bnext h k) w1 (below_drew1 w1) (by kernel_rfl) (by kernel_rfl) (by kernel_rfl) (by kernel_rfl) (by rfl) ?_
 simp only [List.take_succ_cons,List.take_zero,List.drop_succ_cons,List.drop_zero]
 refine walkK_is ?_ (by first | exact gs0 rfl | exact gs1 rfl rfl rfl) (fun _=>Below.refl _ _) (fun u X hX hd=>?_) ?_
 rotate_left
 ·have q0:=(I1.out.below hX).cell 0
  obtain ⟨z1,z2⟩:=hg0.out X hX
  simp only [List.getElem?_toArray,List.getElem?_cons_zero] at q0
  try simp at hd
  go_simp
  try rfl
 apply walkK_norm
 ·first | (simp only [List.nil_append];rfl) | simp only [List.nil_append]
 refine walkK_is ?_ (by first | exact gs0 rfl | exact gs1 rfl rfl rfl) (fun _=>Below.refl _ _) (fun u X hX hd=>?_) ?_
 rotate_left
 ·have q0:=(I1.out.below hX).cell 0
  obtain ⟨z1,z2⟩:=hg0.out X hX
  simp only [List.getElem?_toArray,List.getElem?_cons_zero] at q0
  try simp at hd
  go_simp
  try rfl
 apply walkK_norm
 ·first | (simp only [List.nil_append,List.cons_append];rfl) | simp only [List.nil_append,List.cons_append]
 refine walkK_is ?_ (by first | exact gs0 rfl | exact gs1 rfl rfl rfl) (fun _=>Below.refl _ _) (fun u X hX hd=>?_) ?_
 rotate_left
 ·have q0:=(I1.out.below hX).cell 0
  obtain ⟨z1,z2⟩:=hg0.out X hX
  simp only [List.getElem?_toArray,List.getElem?_cons_zero] at q0
  try simp at hd
  go_simp
  try rfl
 apply walkK_norm
 ·first | (simp only [List.nil_append,List.cons_append];rfl) | simp only [List.nil_append,List.cons_append]
 refine walkK_is ?_ (by first | exact gs0 rfl | exact gs1 rfl rfl rfl) (fun _=>Below.refl _ _) (fun u X hX hd=>?_) ?_
 rotate_left
 ·have q0:=(I1.out.below hX).cell 0
  obtain ⟨z1,z2⟩:=hg0.out X hX
  simp only [List.getElem?_toArray,List.getElem?_cons_zero] at q0
  try simp at hd
  go_simp
  try rfl
 apply walkK_norm
 ·first | (simp only [List.nil_append,List.cons_append];rfl) | simp only [List.nil_append,List.cons_append]
 refine walkK_is ?_ (by first | exact gs0 rfl | exact gs1 rfl rfl rfl) (fun _=>Below.refl _ _) (fun u X hX hd=>?_) ?_
 rotate_left
 ·have q0:=(I1.out.below hX).cell 0
  obtain ⟨z1,z2⟩:=hg0.out X hX
  simp only [List.getElem?_toArray,List.getElem?_cons_zero] at q0
  try simp at hd
  go_simp
  try rfl
 apply walkK_norm
 ·first | (simp only [List.nil_append,List.cons_append];rfl) | simp only [List.nil_append,List.cons_append]
 refine walkK_is ?_ (by first | exact gs0 rfl | exact gs1 rfl rfl rfl) (fun _=>Below.refl _ _) (fun u X hX hd=>?_) ?_
 rotate_left
 ·have q0:=(I1.out.below hX).cell 0
  obtain ⟨z1,z2⟩:=hg0.out X hX
  simp only [List.getElem?_toArray,List.getElem?_cons_zero] at q0
  try simp at hd
  go_simp
  try rfl
 apply walkK_norm
 ·first | (simp only [List.nil_append,List.cons_append];rfl) | simp only [List.nil_append,List.cons_append]
 refine walkK_is ?_ (by first | exact gs0 rfl | exact gs1 rfl rfl rfl) (fun _=>Below.refl _ _) (fun u X hX hd=>?_) ?_
 rotate_left
 ·have q0:=(I1.out.below hX).cell 0
  obtain ⟨z1,z2⟩:=hg0.out X hX
  simp only [List.getElem?_toArray,List.getElem?_cons_zero] at q0
  try simp at hd
  go_simp
  try rfl
 apply walkK_norm
 ·first | (simp only [List.nil_append,List.cons_append];rfl) | simp only [List.nil_append,List.cons_append]
 refine walkK_is ?_ (by first | exact gs0 rfl | exact gs1 rfl rfl rfl) (fun _=>Below.refl _ _) (fun u X hX hd=>?_) ?_
 rotate_left
 ·have q0:=(I1.out.below hX).cell 0
  obtain ⟨z1,z2⟩:=hg0.out X hX
  simp only [List.getElem?_toArray,List.getElem?_cons_zero] at q0
  try simp at hd
  go_simp
  try rfl
 apply walkK_norm
 ·first | (simp only [List.nil_append,List.cons_append];rfl) | simp only [List.nil_append,List.cons_append]
 refine walkK_call (isV (.tuple #[.int .i64 n,.int .i64 0])) 91 ?_ (by first | exact gs0 rfl | exact gs1 rfl rfl rfl) (fun _ _ _ _ h=>h) (fun u X hX hd=>?_) (fun X hX=>?_) ?_
 rotate_left
 ·have q0:=(I1.out.below hX).cell 0
  obtain ⟨z1,z2⟩:=hg0.out X hX
  simp only [List.getElem?_toArray,List.getElem?_cons_zero] at q0
  try simp at hd
  go_simp
  try rfl
 ·exact (hrt.out X).mono fun e X' ⟨he,hb⟩=>⟨_,he,hb,rfl⟩
 apply walkK_norm
 ·first | (simp only [List.nil_append,List.cons_append];rfl) | simp only [List.nil_append,List.cons_append]
 refine walkK_is ?_ (by first | exact gs0 rfl | exact gs1 rfl rfl rfl) (fun _=>Below.refl _ _) (fun u X hX hd=>?_) ?_
 rotate_left
 ·have q0:=(I1.out.below hX).cell 0
  obtain ⟨z1,z2⟩:=hg0.out X hX
  simp only [List.getElem?_toArray,List.getElem?_cons_zero] at q0
  try simp at hd
  go_simp
  try rfl
 apply walkK_norm
 ·first | (simp only [List.nil_append,List.cons_append];rfl) | simp only [List.nil_append,List.cons_append]
 refine walkK_is ?_ (by first | exact gs0 rfl | exact gs1 rfl rfl rfl) (fun _=>Below.refl _ _) (fun u X hX hd=>?_) ?_
 rotate_left
 ·have q0:=(I1.out.below hX).cell 0
  obtain ⟨z1,z2⟩:=hg0.out X hX
  simp only [List.getElem?_toArray,List.getElem?_cons_zero] at q0
  try simp at hd
  go_simp
  try rfl
 apply walkK_norm
 ·first | (simp only [List.nil_append,List.cons_append];rfl) | simp only [List.nil_append,List.cons_append]
 refine walkK_is ?_ (by first | exact gs0 rfl | exact gs1 rfl rfl rfl) (fun _=>Below.refl _ _) (fun u X hX hd=>?_) ?_
 rotate_left
 ·have q0:=(I1.out.below hX).cell 0
  obtain ⟨z1,z2⟩:=hg0.out X hX
  simp only [List.getElem?_toArray,List.getElem?_cons_zero] at q0
  try simp at hd
  go_simp
  try rfl
 apply walkK_norm
 ·first | (simp only [List.nil_append,List.cons_append];rfl) | simp only [List.nil_append,List.cons_append]
 refine walkK_is ?_ (by first | exact gs0 rfl | exact gs1 rfl rfl rfl) (fun _=>Below.refl _ _) (fun u X hX hd=>?_) ?_
 rotate_left
 ·have q0:=(I1.out.below hX).cell 0
  obtain ⟨z1,z2⟩:=hg0.out X hX
  simp only [List.getElem?_toArray,List.getElem?_cons_zero] at q0
  try simp at hd
  go_simp
  try rfl
 apply walkK_norm
 ·first | (simp only [List.nil_append,List.cons_append];rfl) | simp only [List.nil_append,List.cons_append]
 intro u X hX hsay
 simp only [sayAll,isV] at hsay
 obtain ⟨v0,v1,v2,v3,v4,v5,v6,v7,v8,v9,v10,v11,v12,-⟩:=hsay
 have X2:=Lib.hid (X1.out.below hX)
 have R2:=Lib.hid (R1.out.below hX)
 have P3:=Lib.hid (own_below P2.out hX)
 have M2:=Lib.hid (M1.out.below hX)
 have B2:=Lib.hid (bnext BB.out hX)
 have hXs:=hX.size
 simp only [putAll,Act.put,v0,v1,v2,v3,v4,v5,v6,v7,v8,v9,v10,v11,v12,List.setIfInBounds_toArray,List.set_cons_succ,List.set_cons_zero]
 clear hX v0 v1 v2 v3 v4 v5 v6 v7 v8 v9 v10 v11 v12
 have BW:Hid (((sB #[.slice ra nr rc,.slice wa nw wc,.slice aa na ac,.int .i64 cf,.slice (some ⟨cb,co,none⟩) nc cc] (mC ((i:Int) + 1) (fuel - 1) (.slice (some ⟨sb,so,none⟩) (k + 2:Nat) sc) r0 r1 r2 r3 (.slice oA on oc) false e0) w).alloc (.cells #[.int .i64 op,.int .i64 a,.int .i64 b] 72)).heap.size≤X.heap.size):=Lib.hid (by have:=BB.out.size;have:=hgB;have:=P2.out;have:=hXs;have:=hb2;exact Nat.le_trans BWW.out hXs)
 go_wp2_with (first
  | (with_reducible refine ld_mach (w.heap.size + 1) X5.out _ rfl rfl rfl ?_)
  | (at_builtin;go_must (refine append_rowH rfl (.tmp 64) (.tmp 66) _ rfl ((sB #[.slice ra nr rc,.slice wa nw wc,.slice aa na ac,.int .i64 cf,.slice (some ⟨cb,co,none⟩) nc cc] (mC ((i:Int) + 1) (fuel - 1) (.slice (some ⟨sb,so,none⟩) (k + 2:Nat) sc) r0 r1 r2 r3 (.slice oA on oc) false e0) w).alloc (.cells #[.int .i64 op,.int .i64 a,.int .i64 b] 72)).heap.size 3 i0 _ 1 8 Tryz.underlying49 hi0 hz0 hz1 hz2 rfl (by decide) (.slice A' k c') k ((st.take k).map (.int .i64)) rfl (own_below P3.out (below_alloc1 _ _)) X.heap.size #[.int .i64 n] rfl (Bk.new _ _ _) rfl rfl (by unfold maxLen;omega) (by omega) (Nat.le_trans BW.out (by simp)) ?_;intro g2 cap w5 ho2 hg2 hl2;have hro:∀ G,G≤w.heap.size + 1 + 1→some G≠(Value.slice A' k c').ownBlock:=(fun G hG e=>by have:=own_ge P3.out e.symm;omega);have X4:=Lib.hid ((X2.out.alloc (.cells #[.int .i64 n] 3)).grown hg2 (hro _ (by omega)));have R4:=Lib.hid ((R2.out.alloc (.cells #[.int .i64 n] 3)).grown hg2 (hro _ (by omega)));have B4:Hid (Below w.heap.size w w5):=Lib.hid ((bnext B2.out (below_alloc1 _ _)).grown hg2 (Nat.le_trans B2.out.size (by simp)) (fun k hk=>by have:=own_ge P3.out hk;omega));have M4:Hid (MIn w5 st ou own (some ⟨sb,so,none⟩) (k + 2) sc oA on oc bA bn bc):=Lib.hid (HM.out.below B4.out);have Q4:=Lib.hid ho2;have y2:=X4.out.cell 2;have yf:=X4.out.frozen;have yl:=X4.out.lt;simp only [List.getElem?_toArray,List.getElem?_cons_zero,List.getElem?_cons_succ] at y2;have X5:Hid (Bk (w5.setCell ⟨w.heap.size + 1,2,none⟩ (.slice (some ⟨g2,0,none⟩) (k + 1) cap)) (w.heap.size + 1) 64 (mC ((i:Int) + 1) (fuel - 1) (.slice (some ⟨g2,0,none⟩) (k + 1) cap) r0 r1 r2 r3 (.slice oA on oc) false e0)):=Lib.hid (by simpa using X4.out.set 2 (.slice (some ⟨g2,0,none⟩) (k + 1) cap));have R5:=Lib.hid (R4.out.far (p:=⟨w.heap.size + 1,2,none⟩) (by simp only;omega) (.slice (some ⟨g2,0,none⟩) (k + 1) cap));clear ho2 hg2 hl2 hro))
  | (with_reducible refine st_mach (w.heap.size + 1 + 1) R5.out rfl rfl _ _ rfl rfl rfl rfl ?_))
 have P5:=Lib.hid (own_cellBelow Q4.out (G:=w.heap.size + 1) (by omega) 2 (.slice (some ⟨g2,0,none⟩) (k + 1) cap))
 have M5:=Lib.hid (M4.out.setCell (HM.out.offNew (G:=w.heap.size + 1) (by omega)) 2 (.slice (some ⟨g2,0,none⟩) (k + 1) cap))
 exact bodyPost_ret (v:=.tuple #[.agg (mC ((i:Int) + 1) (fuel - 1) (.slice (some ⟨g2,0,none⟩) (k + 1) cap) r0 r1 r2 r3 (.slice oA on oc) false e0),.slice bA bn bc]) (res2_mach rfl _ _ (w.heap.size + 1 + 1) _ rfl rfl (Bk.setRow R5.out _)) rfl
  ⟨_,_,_,_,_,_,_,_,_,rfl,MIn.setRow (⟨by have:=Sl.own' P5.out;simpa using this,M5.out.ou,M5.out.bk⟩) (⟨own_offA P5.out (by omega),(HM.out.offNew (by omega)).2⟩) _,below_row (B4.out.setCell (p:=⟨w.heap.size + 1,2,none⟩) (by simp) _) (by omega) _,fun G hG h=>⟨own_offA P5.out (by omega),h.2⟩⟩
end
end Go.Proofs.YtpaocjpjlogkgaaGreat
