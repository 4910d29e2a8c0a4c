/-
  Words and contracts of this claim, 2 texts laid into one, each under its own remark. No conditions but those that stand at each.
-/
import Derived.Test.YtpaocjpjlogkgaaGreatQMchK
import Derived.Test.YtpaocjpjlogkgaaGreatQWords
namespace Go.Proofs.YtpaocjpjlogkgaaGreat
set_option maxRecDepth 100000
set_option maxHeartbeats 32000000
open Go
open Go.Lib (hid)
section
open Go.RowKit
attribute [local go_sem] look findAt
attribute [local simp] depsOf isV Region.binds
theorem lit_set (w1:World) (p:Addr) (u:Value) (e:TypeId) (size:Nat):((w1.setCell p u).alloc (.cells #[] e)).ownsRow w1.heap.size e size (.slice (some ⟨w1.heap.size,0,none⟩) 0 0) 0 []:=by
 have hs:(w1.setCell p u).heap.size=w1.heap.size:=by simp [World.setCell]
 have h:=World.ownsRow_lit (base:=w1.heap.size) (e:=e) (size:=size) (w1.setCell p u) #[] 0 (Nat.le_of_eq hs.symm) (by decide) (by simp)
 rw [hs] at h
 exact h
section
variable (ra:Option Addr) (nr rc:Nat) (wa:Option Addr) (nw wc:Nat) (aa:Option Addr) (na ac:Nat) (cf:Int) (ca:Option Addr) (nc cc:Nat)
variable (fuel:Int) (sA:Option Addr) (sn sc:Nat) (r0 r1 r2 r3:Int) (oA:Option Addr) (on oc:Nat) (e0:Int) (bA:Option Addr) (bn bc:Nat)
theorem rstep5 (l:List Ins) (i:Nat) (k:Nat) (hk:k≤1000) (j:Nat) (b:Int) (st ou:List Int) (own:Blks) (w:World) (hC:Inss w ca cc l) (hl:l.length=nc) (hi:i < nc) (hic:nc≤1000) (hx:insAt l i=⟨5,j,b⟩) (hM:MIn w st ou own sA (k + 1) sc oA on oc bA bn bc) (hf:fuel≠0) (hf2:0≤fuel∧fuel≤1000) (h8:∀ b∈own,b.length=8) (hj:j < own.length) (hbn:own.length=bn) (hb1000:bn≤1000) :
  Calls Tryz.prog 46 #[cmV ra nr rc wa nw wc aa na ac cf ca nc cc,.agg (mC (i:Int) fuel (.slice sA (k + 1:Nat) sc) r0 r1 r2 r3 (.slice oA on oc) false e0),.slice bA bn bc] w (RSPost ((i:Int) + 1) (fuel - 1) (st.take k) r0 r1 r2 r3 ou false e0 (own.set j (putC (own[j]?.getD []) b (st[k]?.getD 0))) sA (k + 1) oA on bA bn w):=by
 obtain ⟨top,htop⟩:∃ x,x=st[k]?.getD 0:=⟨_,rfl⟩
 try rw [← htop]
 have HT:=hid htop
 clear htop
 obtain ⟨cb,co,rfl,hcb,x0,x1,x2⟩:=hC.cellAt (j:=i) (by omega)
 rw [hx] at x0 x1 x2
 simp only at x0 x1 x2
 have hcc:=hC.2.1
 rw [hl] at hcc
 have d1:(i:Int) < (nc:Int):=by omega
 have d2:(i:Int) < (cc:Int):=by omega
 have f0:(fuel == 0)=false:=by simpa using hf
 have bb:=sB_below #[.slice ra nr rc,.slice wa nw wc,.slice aa na ac,.int .i64 cf,.slice (some ⟨cb,co,none⟩) nc cc] (mC (i:Int) (fuel - 1) (.slice sA (k + 1:Nat) sc) r0 r1 r2 r3 (.slice oA on oc) false e0) w
 have y0:=(bb.cell (p:=⟨cb,co + i * 3,none⟩) hcb).trans x0
 have y1:=(bb.cell (p:=⟨cb,co + i * 3 + 1,none⟩) hcb).trans x1
 have y2:=(bb.cell (p:=⟨cb,co + i * 3 + 2,none⟩) hcb).trans x2
 have HM:=hid hM
 clear hC hx hl bb hM
 obtain ⟨i0,hi0,hz0,hz1,hz2⟩:=infoInt
 obtain ⟨sb,so,rfl,-,-⟩:=HM.out.st.2.2.2 (by omega)
 have B0:Hid (Below w.heap.size w ((sB #[.slice ra nr rc,.slice wa nw wc,.slice aa na ac,.int .i64 cf,.slice (some ⟨cb,co,none⟩) nc cc] (mC ((i:Int) + 1) (fuel - 1) (.slice (some ⟨sb,so,none⟩) (k + 1:Nat) sc) r0 r1 r2 r3 (.slice oA on oc) false e0) w).alloc (.cells #[.int .i64 5,.int .i64 (j:Int),.int .i64 b] 72))):=hid (bnext (sB_below _ _ _) (below_alloc1 _ _))
 have X0:Hid (Bk ((sB #[.slice ra nr rc,.slice wa nw wc,.slice aa na ac,.int .i64 cf,.slice (some ⟨cb,co,none⟩) nc cc] (mC ((i:Int) + 1) (fuel - 1) (.slice (some ⟨sb,so,none⟩) (k + 1:Nat) sc) r0 r1 r2 r3 (.slice oA on oc) false e0) w).alloc (.cells #[.int .i64 5,.int .i64 (j:Int),.int .i64 b] 72)) (w.heap.size + 1) 64 (mC ((i:Int) + 1) (fuel - 1) (.slice (some ⟨sb,so,none⟩) (k + 1:Nat) sc) r0 r1 r2 r3 (.slice oA on oc) false e0)):=hid ((sB_box _ _ _).alloc _)
 have R0:Hid (Bk ((sB #[.slice ra nr rc,.slice wa nw wc,.slice aa na ac,.int .i64 cf,.slice (some ⟨cb,co,none⟩) nc cc] (mC ((i:Int) + 1) (fuel - 1) (.slice (some ⟨sb,so,none⟩) (k + 1:Nat) sc) r0 r1 r2 r3 (.slice oA on oc) false e0) w).alloc (.cells #[.int .i64 5,.int .i64 (j:Int),.int .i64 b] 72)) (w.heap.size + 1 + 1) 64 mZ):=hid ((sB_res _ _ _).alloc _)
 have I0:Hid (Bk ((sB #[.slice ra nr rc,.slice wa nw wc,.slice aa na ac,.int .i64 cf,.slice (some ⟨cb,co,none⟩) nc cc] (mC ((i:Int) + 1) (fuel - 1) (.slice (some ⟨sb,so,none⟩) (k + 1:Nat) sc) r0 r1 r2 r3 (.slice oA on oc) false e0) w).alloc (.cells #[.int .i64 5,.int .i64 (j:Int),.int .i64 b] 72)) (w.heap.size + 1 + 1 + 1) 72 #[.int .i64 5,.int .i64 (j:Int),.int .i64 b]):=hid (rW_ins _ _ _ _)
 have hpop:=hid (rpop1 ((i:Int) + 1) (fuel - 1) st r0 r1 r2 r3 false e0 (some ⟨sb,so,none⟩) sc oA on oc k ((sB #[.slice ra nr rc,.slice wa nw wc,.slice aa na ac,.int .i64 cf,.slice (some ⟨cb,co,none⟩) nc cc] (mC ((i:Int) + 1) (fuel - 1) (.slice (some ⟨sb,so,none⟩) (k + 1:Nat) sc) r0 r1 r2 r3 (.slice oA on oc) false e0) w).alloc (.cells #[.int .i64 5,.int .i64 (j:Int),.int .i64 b] 72)) (HM.out.st.below B0.out) hk)
 have hWs:Hid (w.heap.size + 1 + 1 + 1 < ((sB #[.slice ra nr rc,.slice wa nw wc,.slice aa na ac,.int .i64 cf,.slice (some ⟨cb,co,none⟩) nc cc] (mC ((i:Int) + 1) (fuel - 1) (.slice (some ⟨sb,so,none⟩) (k + 1:Nat) sc) r0 r1 r2 r3 (.slice oA on oc) false e0) w).alloc (.cells #[.int .i64 5,.int .i64 (j:Int),.int .i64 b] 72)).heap.size):=hid I0.out.lt
 obtain ⟨iB,hib,hb0,hbs,hbb⟩:=infoBlkZ
 have H8:=hid h8
 have hxl:(own[j]?.getD []).length=8:=by
  rw [List.getElem?_eq_getElem hj]
  exact h8 _ (List.getElem_mem _)
 have hpu:=hid (fun X=>rput_any (own[j]?.getD []) hxl b top X)
 have hyl:(putC (own[j]?.getD []) b top).length=8:=by rw [putC_length,hxl]
 have i8y:=infoBlk hyl
 have HY:=hid hyl
 have HJ:=hid hj
 have HB:=hid hbn
 obtain ⟨x,hxe⟩:∃ x,x=own[j]?.getD []:=⟨_,rfl⟩
 obtain ⟨y,hye⟩:∃ y,y=putC (own[j]?.getD []) b top:=⟨_,rfl⟩
 rw [← hye] at hyl i8y hpu HY ⊢
 rw [← hxe] at hpu
 have HX:=hid hxe
 have d3:(j:Int) < (bn:Int):=by omega
 clear h8 hxl hyl hj hbn hxe hye
 go_enter Tryz.func46,Tryz.ntmps46
 go_wp2_with (first
  | (with_reducible refine ld_mach (w.heap.size + 1) X0.out _ rfl rfl rfl ?_)
  | (go_at_call 89;go_must ((with_reducible refine hpop.out.mono ?_);rintro e w1 ⟨⟨A,c,A',c',rfl,p1,p2⟩,hb1⟩;have BB:Hid (Below w.heap.size w (w1.setCell ⟨w.heap.size + 1,2,none⟩ (.slice A' k c'))):=hid ((bnext B0.out hb1).setCell (p:=⟨w.heap.size + 1,2,none⟩) (by simp) _);have P1:=hid (own_cellBelow p1 (G:=w.heap.size + 1) (by have:=hWs.out;omega) 2 (.slice A' k c'));have P2:=hid (own_cellBelow p2 (G:=w.heap.size + 1) (by have:=hWs.out;omega) 2 (.slice A' k c'));have X1:=hid (X0.out.below hb1);have X2:Hid (Bk (w1.setCell ⟨w.heap.size + 1,2,none⟩ (.slice A' k c')) (w.heap.size + 1) 64 (mC ((i:Int) + 1) (fuel - 1) (.slice A' k c') r0 r1 r2 r3 (.slice oA on oc) false e0)):=hid (by simpa using X1.out.set 2 (.slice A' k c'));have R2:=hid ((R0.out.below hb1).far (p:=⟨w.heap.size + 1,2,none⟩) (by simp only;omega) (.slice A' k c'));have I2:=hid ((I0.out.below hb1).far (p:=⟨w.heap.size + 1,2,none⟩) (by simp only;omega) (.slice A' k c'));have M2:=hid (((HM.out.below B0.out).below hb1).setCell (HM.out.offNew (G:=w.heap.size + 1) (by omega)) 2 (.slice A' k c'));have z2:=X1.out.cell 2;have zf:=X1.out.frozen;have zl:=X1.out.lt;have zi:=I2.out.cell 0;simp only [List.getElem?_toArray,List.getElem?_cons_zero,List.getElem?_cons_succ] at z2 zi;clear p1 p2 hb1))
  | (at_builtin;go_must (refine append_sl rfl (.tmp 179) (.tmp 180) _ rfl w1.heap.size 74 iB _ 8 64 Tryz.underlying65 hib hb0 hbs hbb rfl (by decide) (.slice (some ⟨w1.heap.size,0,none⟩) 0 0) 0 [] rfl (lit_set _ _ _ _ _) bA bn bc _ rfl (M2.out.bk.alloc _) (blksW_one own) (by unfold maxLen;omega) (by omega) (by simp) ?_;intro v' w3 ho3 hg3;have B3:Hid (Below (w1.setCell ⟨w.heap.size + 1,2,none⟩ (.slice A' k c')).heap.size (w1.setCell ⟨w.heap.size + 1,2,none⟩ (.slice A' k c')) w3):=hid (((Below.refl _ _).alloc (Nat.le_refl _) _).grown hg3 (by simp) (fun q hq=>by simp [Value.ownBlock] at hq;simp;omega));obtain ⟨A3,c3,rfl,-⟩:=Sl.own ho3;simp only [Nat.zero_add,List.nil_append] at ho3;have O3:=hid ho3;clear ho3 hg3)))
 have hw12:Hid ((w1.setCell ⟨w.heap.size + 1,2,none⟩ (.slice A' k c')).heap.size=w1.heap.size):=hid (by simp [World.setCell])
 generalize w1.setCell ⟨w.heap.size + 1,2,none⟩ (.slice A' k c')=w2 at *
 obtain ⟨g3,cur3,rfl,hg3B,hg3k,hg3c,-,hg3s,-⟩:=own_pos O3.out (by omega)
 have G3:=hid hg3k
 have GS:=hid hg3s
 have hlt3:=hg3k.lt
 have hI2:=I2.out.lt
 have hI3:w2.heap.size≤w1.heap.size:=Nat.le_of_eq hw12.out
 have d4:(j:Int) < (c3:Int):=by omega
 have hlo:Hid (∀ X,Below w3.heap.size w3 X→(loadVar 74 ⟨g3,j * 8,none⟩).run Tryz.prog X=.ok (.agg (bkC x)) X):=hid (fun X hX=>by
  have hBs:Blocks w3 (some ⟨g3,0,none⟩) c3 own:=by
   have:=Sl.own' O3.out
   unfold Blocks
   rw [HB.out]
   exact this
  obtain ⟨g',off',e,hl⟩:=hBs.load H8.out HJ.out
  injection e with e
  injection e with e1 e2
  subst e1
  subst e2
  have:=hl X hX
  rw [Nat.zero_add,← HX.out] at this
  exact this)
 obtain ⟨g,cur,rfl,hgB,hgk,hgc,-,hgs,hgt⟩:=own_pos P1.out (by omega)
 have hg0:Hid (∀ X,Below w3.heap.size w3 X→X.cell? ⟨g,0,none⟩=some (.int .i64 top)):=hid (fun X hX=>by
  rw [((hgk.below B3.out).below hX).cell 0,HT.out,← Array.getElem?_toList]
  have hl:=HM.out.st.1
  simp at hl
  have h1:(cur.toList.take (1 * 1))[0]? = (((st.drop k).map (Value.int .i64)))[0]?:=by rw [hgt]
  rw [List.getElem?_take,if_pos (by omega)] at h1
  rw [h1,List.getElem?_map,List.getElem?_drop]
  simp [show k < st.length by omega])
 have hgc1:(1:Int)≤(c:Int):=by omega
 have hQ:Hid (∀ X,Below w3.heap.size w3 X→X.cell? ⟨w.heap.size + 1 + 1 + 1,1,none⟩=some (.int .i64 (j:Int))∧X.cell? ⟨w.heap.size + 1 + 1 + 1,2,none⟩=some (.int .i64 b)):=hid (fun X hX=>⟨((I2.out.below B3.out).below hX).cell 1,((I2.out.below B3.out).below hX).cell 2⟩)
 have hgp:∀ q,(Value.slice A' k c').ownBlock=some q→q < g3:=fun q hq=>by have:=own_lt P2.out hq;have:=hw12.out;omega
 have HP:=hid hgp
 have hWz:=hWs.out
 clear hgk hgs hgt hg3k hg3s hgp z2 zf zl zi
 try simp only [List.append_eq,List.cons_append,List.nil_append]
 refine wp_region_saysK 15 (fun x y=>Below x.heap.size x y) (fun _ _ _ h k=>bnext h k) w3 (below_drew1 w3) (by kernel_rfl) (by kernel_rfl) (by kernel_rfl) (by kernel_rfl) (by rfl) ?_
 simp only [List.take_succ_cons,List.take_zero,List.drop_succ_cons,List.drop_zero]
 iterate 7
  refine wkI ?_ (fun u X hX hd=>?_) ?_
  rotate_left
  ·obtain ⟨q1,q2⟩:=hQ.out X hX
   have q3:=hg0.out X hX
   try simp at hd
   go_simp
   try rfl
 refine walkK_is (.agg (bkC x)) (by exact gs0 rfl) (fun _=>Below.refl _ _) (fun u X hX hd=>?_) ?_
 ·have hlx:=hlo.out X hX
  try simp at hd
  exact exec_load_at _ _ _ _ _ rfl (by go_simp) hlx
 refine wkN ?_
 iterate 5
  refine wkI ?_ (fun u X hX hd=>?_) ?_
  rotate_left
  ·obtain ⟨q1,q2⟩:=hQ.out X hX
   have q3:=hg0.out X hX
   try simp at hd
   go_simp
   try rfl
 refine walkK_call (isV (.agg (bkC y))) 90 ?_ (by first | exact gs0 rfl | exact gs1 rfl rfl rfl) (fun _ _ _ _ h=>h) (fun u X hX hd=>?_) (fun X hX=>?_) ?_
 rotate_left
 ·obtain ⟨q1,q2⟩:=hQ.out X hX
  have q3:=hg0.out X hX
  try simp at hd
  go_simp
  try rfl
 ·exact (hpu.out X).mono fun e X' ⟨he,hb⟩=>⟨_,he,hb,rfl⟩
 refine wkN ?_
 refine wkI ?_ (fun u X hX hd=>?_) ?_
 rotate_left
 ·obtain ⟨q1,q2⟩:=hQ.out X hX
  have q3:=hg0.out X hX
  try simp at hd
  go_simp
  try rfl
 intro u X hX hsay
 simp only [sayAll,isV] at hsay
 obtain ⟨v0,v1,v2,v3,v4,v5,v6,v7,v8,v9,v10,v11,v12,v13,v14,-⟩:=hsay
 have X4:=hid ((((X2.out.below B3.out).below hX)).setCells (h:=g3) (by omega) (j * 8) (bkC y).toList)
 have R4:=hid ((((R2.out.below B3.out).below hX)).setCells (h:=g3) (by omega) (j * 8) (bkC y).toList)
 have P4:=hid (own_keep (own_below (own_below P2.out B3.out) hX) (fun q _ hq=>heap_setCells (bkC y).toList (j * 8) X q (Nat.ne_of_lt (HP.out q hq))))
 have O4:Hid ((X.setCells g3 (j * 8) (bkC y).toList).ownsRow w1.heap.size 74 8 (.slice (some ⟨g3,0,none⟩) bn c3) bn (blksW (own.set j y))):=hid (by
  have hb:=own_setCells (bkC y).toList (j * 8) (own_below O3.out hX)
  rw [show (bkC y).toList=y.map (Value.int .i64) by simp [bkC]] at hb ⊢
  rwa [blksW_set own H8.out HJ.out HY.out] at hb)
 have M4:=hid (MIn.offSet (w':=X.setCells g3 (j * 8) (bkC y).toList) (G:=g3) ((HM.out.below (bnext BB.out B3.out)).below hX) (HM.out.offNew (by omega)) (Nat.le_of_eq (size_setCells (bkC y).toList (j * 8) X).symm) (fun q hq _=>heap_setCells (bkC y).toList (j * 8) X q hq))
 have B4:Hid (Below w.heap.size w (X.setCells g3 (j * 8) (bkC y).toList)):=hid (below_setCells (bnext (bnext BB.out B3.out) hX) (by omega) (bkC y).toList (j * 8))
 have ht:=hid ((G3.out.below hX).there (o:=j * 8) (n:=(bkC y).size) (by rw [bkC_size,HY.out,GS.out];omega))
 have ay:=bkC_all y
 simp only [putAll,Act.put,v0,v1,v2,v3,v4,v5,v6,v7,v8,v9,v10,v11,v12,v13,v14,List.setIfInBounds_toArray,List.set_cons_succ,List.set_cons_zero]
 clear hX v0 v1 v2 v3 v4 v5 v6 v7 v8 v9 v10 v11 v12 v13 v14
 go_wp2_with (first
  | (refine wpList_store_mid rfl 74 _ _ rfl g3 (j * 8) (bkC y) rfl rfl ht.out i8y ay ?_)
  | (with_reducible refine ld_mach (w.heap.size + 1) X4.out _ rfl rfl rfl ?_)
  | (with_reducible refine st_mach (w.heap.size + 1 + 1) R4.out rfl rfl _ _ rfl rfl rfl rfl ?_))
 exact bodyPost_ret (v:=.tuple #[.agg (mC ((i:Int) + 1) (fuel - 1) (.slice A' k c') r0 r1 r2 r3 (.slice oA on oc) false e0),.slice (some ⟨g3,0,none⟩) bn c3]) (res2_mach rfl _ _ (w.heap.size + 1 + 1) _ rfl rfl (Bk.setRow R4.out _)) rfl
  ⟨_,_,_,_,_,_,_,_,_,rfl,MIn.setRow (⟨by have:=Sl.own' P4.out;simpa using this,M4.out.ou,Sl.own' O4.out⟩) (⟨own_offA P4.out (by omega),(HM.out.offNew (by omega)).2.1,own_offA O4.out (by omega)⟩) _,below_row B4.out (by omega) _,fun G hG h=>⟨own_offA P4.out (by omega),h.2.1,own_offA O4.out (by omega)⟩⟩
end
end
section
open Go.RowKit
def RMacPost (r:Mac × Blks) (sA:Option Addr) (sn:Nat) (oA:Option Addr) (on:Nat) (bA:Option Addr) (bn:Nat) (w:World):Ending→World→Prop:=
 RSPost r.1.pc r.1.fuel r.1.stack (rg r.1.regs 0) (rg r.1.regs 1) (rg r.1.regs 2) (rg r.1.regs 3) r.1.out r.1.over r.1.told r.2 sA sn oA on bA bn w
section
variable (ra:Option Addr) (nr rc:Nat) (wa:Option Addr) (nw wc:Nat) (aa:Option Addr) (na ac:Nat) (ca:Option Addr) (nc cc:Nat)
variable (sA:Option Addr) (sn sc:Nat) (oA:Option Addr) (on oc:Nat) (bA:Option Addr) (bn bc:Nat)
theorem rstep_goes (c:Cmd) (i:Nat) (fuel:Int) (st ou:List Int) (r0 r1 r2 r3:Int) (e0:Nat) (own:Blks) (w:World) (x:Ins) (hx:insAt c.code i=x) (hi:i < nc) (hic:nc≤1000) (hfit:FitI c x ⟨i,fuel,st,[r0,r1,r2,r3],ou,false,e0⟩ own) (hf:fuel≠0) (hf2:0≤fuel∧fuel≤1000)
  (hs8:st.length≤100) (ho8:ou.length≤100) (h8:∀ b∈own,b.length=8) (hm:own.length≤100) (hsn:sn=st.length) (hon:on=ou.length) (hbn:bn=own.length) (hC:CmIn w c ra nr rc wa nw wc aa na ac ca nc cc) (hM:MIn w st ou own sA sn sc oA on oc bA bn bc) :
  Calls Tryz.prog 46 #[cmV ra nr rc wa nw wc aa na ac c.fuel ca nc cc,.agg (mC (i:Int) fuel (.slice sA sn sc) r0 r1 r2 r3 (.slice oA on oc) false e0),.slice bA bn bc] w (RMacPost (doM c x ⟨(i:Int) + 1,fuel - 1,st,[r0,r1,r2,r3],ou,false,e0⟩ own) sA sn oA on bA bn w):=by
 obtain ⟨op,a,b⟩:=x
 obtain ⟨⟨o1,o2⟩,hreg,hblk,harg,hway,hoff⟩:=hfit
 simp only at o1 o2 hreg hblk harg hway hoff
 have hcode:=hC.code
 have hlc:=hC.lc
 rcases (show op=1∨op=2∨op=3∨op=4∨op=5∨op=6∨op=13∨op=14∨op=15∨op=16∨op=17∨(7≤op∧op≤12) by omega) with rfl | rfl | rfl | rfl | rfl | rfl | rfl | rfl | rfl | rfl | rfl | hop
 ·exact rstep1 (ra:=ra) (nr:=nr) (rc:=rc) (wa:=wa) (nw:=nw) (wc:=wc) (aa:=aa) (na:=na) (ac:=ac) (cf:=c.fuel) (ca:=ca) (nc:=nc) (cc:=cc) (fuel:=fuel) (sA:=sA) (sn:=sn) (sc:=sc) (r0:=r0) (r1:=r1) (r2:=r2) (r3:=r3) (oA:=oA) (on:=on) (oc:=oc) (e0:=e0) (bA:=bA) (bn:=bn) (bc:=bc) (a:=a) (b:=b) (hs:=by omega) (l:=c.code) (i:=i) (st:=st) (ou:=ou) (own:=own) (w:=w) (hC:=hcode) (hl:=hlc) (hi:=hi) (hic:=hic) (hx:=hx) (hM:=hM) (hf:=hf) (hf2:=hf2)
 ·obtain ⟨h1,h2⟩:=hreg (.inl rfl)
  obtain ⟨k,rfl⟩:=Int.eq_ofNat_of_zero_le h1
  have hk:k < 4:=by omega
  have hv:[r0,r1,r2,r3][k]? = some (rg [r0,r1,r2,r3] k):=by
   rcases (show k=0∨k=1∨k=2∨k=3 by omega) with rfl | rfl | rfl | rfl <;> rfl
  exact rstep2 (ra:=ra) (nr:=nr) (rc:=rc) (wa:=wa) (nw:=nw) (wc:=wc) (aa:=aa) (na:=na) (ac:=ac) (cf:=c.fuel) (ca:=ca) (nc:=nc) (cc:=cc) (fuel:=fuel) (sA:=sA) (sn:=sn) (sc:=sc) (r0:=r0) (r1:=r1) (r2:=r2) (r3:=r3) (oA:=oA) (on:=on) (oc:=oc) (e0:=e0) (bA:=bA) (bn:=bn) (bc:=bc) (k:=k) (b:=b) (v:=rg [r0,r1,r2,r3] k) (hk:=hk) (hv:=hv) (hs:=by omega) (l:=c.code) (i:=i) (st:=st) (ou:=ou) (own:=own) (w:=w) (hC:=hcode) (hl:=hlc) (hi:=hi) (hic:=hic) (hx:=hx) (hM:=hM) (hf:=hf) (hf2:=hf2)
 ·obtain ⟨h1,h2⟩:=hreg (.inr rfl)
  obtain ⟨k,hk⟩:∃ k,st.length=k + 1:=⟨st.length - 1,by simp [offN] at hoff;omega⟩
  obtain rfl:sn=k + 1:=by omega
  have e1:popN st 1=st.take k:=by rw [popN,hk];rfl
  have e2:topN st=st[k]?.getD 0:=by rw [topN,hk];rfl
  rcases (show a=0∨a=1∨a=2∨a=3 by omega) with rfl | rfl | rfl | rfl
  ·have hd:doM c ⟨3,0,b⟩ ⟨(i:Int) + 1,fuel - 1,st,[r0,r1,r2,r3],ou,false,e0⟩ own=(⟨(i:Int) + 1,fuel - 1,st.take k,[st[k]?.getD 0,r1,r2,r3],ou,false,e0⟩,own):=by rw [← e1,← e2];rfl
   rw [hd]
   exact rstep3_0 (ra:=ra) (nr:=nr) (rc:=rc) (wa:=wa) (nw:=nw) (wc:=wc) (aa:=aa) (na:=na) (ac:=ac) (cf:=c.fuel) (ca:=ca) (nc:=nc) (cc:=cc) (fuel:=fuel) (sA:=sA) (sc:=sc) (r0:=r0) (r1:=r1) (r2:=r2) (r3:=r3) (oA:=oA) (on:=on) (oc:=oc) (e0:=e0) (bA:=bA) (bn:=bn) (bc:=bc) (k:=k) (hk:=by omega) (b:=b) (l:=c.code) (i:=i) (st:=st) (ou:=ou) (own:=own) (w:=w) (hC:=hcode) (hl:=hlc) (hi:=hi) (hic:=hic) (hx:=hx) (hM:=hM) (hf:=hf) (hf2:=hf2)
  ·have hd:doM c ⟨3,1,b⟩ ⟨(i:Int) + 1,fuel - 1,st,[r0,r1,r2,r3],ou,false,e0⟩ own=(⟨(i:Int) + 1,fuel - 1,st.take k,[r0,st[k]?.getD 0,r2,r3],ou,false,e0⟩,own):=by rw [← e1,← e2];rfl
   rw [hd]
   exact rstep3_1 (ra:=ra) (nr:=nr) (rc:=rc) (wa:=wa) (nw:=nw) (wc:=wc) (aa:=aa) (na:=na) (ac:=ac) (cf:=c.fuel) (ca:=ca) (nc:=nc) (cc:=cc) (fuel:=fuel) (sA:=sA) (sc:=sc) (r0:=r0) (r1:=r1) (r2:=r2) (r3:=r3) (oA:=oA) (on:=on) (oc:=oc) (e0:=e0) (bA:=bA) (bn:=bn) (bc:=bc) (k:=k) (hk:=by omega) (b:=b) (l:=c.code) (i:=i) (st:=st) (ou:=ou) (own:=own) (w:=w) (hC:=hcode) (hl:=hlc) (hi:=hi) (hic:=hic) (hx:=hx) (hM:=hM) (hf:=hf) (hf2:=hf2)
  ·have hd:doM c ⟨3,2,b⟩ ⟨(i:Int) + 1,fuel - 1,st,[r0,r1,r2,r3],ou,false,e0⟩ own=(⟨(i:Int) + 1,fuel - 1,st.take k,[r0,r1,st[k]?.getD 0,r3],ou,false,e0⟩,own):=by rw [← e1,← e2];rfl
   rw [hd]
   exact rstep3_2 (ra:=ra) (nr:=nr) (rc:=rc) (wa:=wa) (nw:=nw) (wc:=wc) (aa:=aa) (na:=na) (ac:=ac) (cf:=c.fuel) (ca:=ca) (nc:=nc) (cc:=cc) (fuel:=fuel) (sA:=sA) (sc:=sc) (r0:=r0) (r1:=r1) (r2:=r2) (r3:=r3) (oA:=oA) (on:=on) (oc:=oc) (e0:=e0) (bA:=bA) (bn:=bn) (bc:=bc) (k:=k) (hk:=by omega) (b:=b) (l:=c.code) (i:=i) (st:=st) (ou:=ou) (own:=own) (w:=w) (hC:=hcode) (hl:=hlc) (hi:=hi) (hic:=hic) (hx:=hx) (hM:=hM) (hf:=hf) (hf2:=hf2)
  ·have hd:doM c ⟨3,3,b⟩ ⟨(i:Int) + 1,fuel - 1,st,[r0,r1,r2,r3],ou,false,e0⟩ own=(⟨(i:Int) + 1,fuel - 1,st.take k,[r0,r1,r2,st[k]?.getD 0],ou,false,e0⟩,own):=by rw [← e1,← e2];rfl
   rw [hd]
   exact rstep3_3 (ra:=ra) (nr:=nr) (rc:=rc) (wa:=wa) (nw:=nw) (wc:=wc) (aa:=aa) (na:=na) (ac:=ac) (cf:=c.fuel) (ca:=ca) (nc:=nc) (cc:=cc) (fuel:=fuel) (sA:=sA) (sc:=sc) (r0:=r0) (r1:=r1) (r2:=r2) (r3:=r3) (oA:=oA) (on:=on) (oc:=oc) (e0:=e0) (bA:=bA) (bn:=bn) (bc:=bc) (k:=k) (hk:=by omega) (b:=b) (l:=c.code) (i:=i) (st:=st) (ou:=ou) (own:=own) (w:=w) (hC:=hcode) (hl:=hlc) (hi:=hi) (hic:=hic) (hx:=hx) (hM:=hM) (hf:=hf) (hf2:=hf2)
 ·obtain ⟨h1,h2⟩:=hblk (.inl rfl)
  obtain ⟨k,rfl⟩:=Int.eq_ofNat_of_zero_le h1
  have hBs:Blocks w bA bc own:=by
   have:=hM.bk
   rw [hbn] at this
   exact this
  exact rstep4 (ra:=ra) (nr:=nr) (rc:=rc) (wa:=wa) (nw:=nw) (wc:=wc) (aa:=aa) (na:=na) (ac:=ac) (cf:=c.fuel) (ca:=ca) (nc:=nc) (cc:=cc) (fuel:=fuel) (sA:=sA) (sn:=sn) (sc:=sc) (r0:=r0) (r1:=r1) (r2:=r2) (r3:=r3) (oA:=oA) (on:=on) (oc:=oc) (e0:=e0) (bA:=bA) (bn:=bn) (bc:=bc) (k:=k) (b:=b) (h8:=h8) (hk:=by omega) (hbn:=hbn.symm) (v:=getC (own[k]?.getD []) b) (hv:=rfl) (hBs:=hBs) (hs:=by omega) (l:=c.code) (i:=i) (st:=st) (ou:=ou) (own:=own) (w:=w) (hC:=hcode) (hl:=hlc) (hi:=hi) (hic:=hic) (hx:=hx) (hM:=hM) (hf:=hf) (hf2:=hf2)
 ·obtain ⟨h1,h2⟩:=hblk (.inr rfl)
  obtain ⟨j,rfl⟩:=Int.eq_ofNat_of_zero_le h1
  obtain ⟨k,hk⟩:∃ k,st.length=k + 1:=⟨st.length - 1,by simp [offN] at hoff;omega⟩
  obtain rfl:sn=k + 1:=by omega
  have e1:popN st 1=st.take k:=by rw [popN,hk];rfl
  have e2:topN st=st[k]?.getD 0:=by rw [topN,hk];rfl
  have hd:doM c ⟨5,j,b⟩ ⟨(i:Int) + 1,fuel - 1,st,[r0,r1,r2,r3],ou,false,e0⟩ own=(⟨(i:Int) + 1,fuel - 1,st.take k,[r0,r1,r2,r3],ou,false,e0⟩,own.set j (putC (own[j]?.getD []) b (st[k]?.getD 0))):=by rw [← e1,← e2];rfl
  rw [hd]
  exact rstep5 (ra:=ra) (nr:=nr) (rc:=rc) (wa:=wa) (nw:=nw) (wc:=wc) (aa:=aa) (na:=na) (ac:=ac) (cf:=c.fuel) (ca:=ca) (nc:=nc) (cc:=cc) (fuel:=fuel) (sA:=sA) (sc:=sc) (r0:=r0) (r1:=r1) (r2:=r2) (r3:=r3) (oA:=oA) (on:=on) (oc:=oc) (e0:=e0) (bA:=bA) (bn:=bn) (bc:=bc) (k:=k) (hk:=by omega) (j:=j) (b:=b) (h8:=h8) (hj:=by omega) (hbn:=hbn.symm) (hb1000:=by omega) (l:=c.code) (i:=i) (st:=st) (ou:=ou) (own:=own) (w:=w) (hC:=hcode) (hl:=hlc) (hi:=hi) (hic:=hic) (hx:=hx) (hM:=hM) (hf:=hf) (hf2:=hf2)
 ·obtain ⟨h1,h2⟩:=harg rfl
  obtain ⟨k,rfl⟩:=Int.eq_ofNat_of_zero_le h1
  exact rstep6 (ra:=ra) (nr:=nr) (rc:=rc) (wa:=wa) (nw:=nw) (wc:=wc) (aa:=aa) (na:=na) (ac:=ac) (cf:=c.fuel) (ca:=ca) (nc:=nc) (cc:=cc) (fuel:=fuel) (sA:=sA) (sn:=sn) (sc:=sc) (r0:=r0) (r1:=r1) (r2:=r2) (r3:=r3) (oA:=oA) (on:=on) (oc:=oc) (e0:=e0) (bA:=bA) (bn:=bn) (bc:=bc) (k:=k) (b:=b) (args:=c.args) (hk:=by omega) (hna:=hC.la) (v:=c.args[k]?.getD 0) (hv:=rfl) (hA:=hC.args) (hs:=by omega) (l:=c.code) (i:=i) (st:=st) (ou:=ou) (own:=own) (w:=w) (hC:=hcode) (hl:=hlc) (hi:=hi) (hic:=hic) (hx:=hx) (hM:=hM) (hf:=hf) (hf2:=hf2)
 ·have ha:=hway (.inl rfl)
  obtain ⟨k,hk⟩:∃ k,st.length=k + 1:=⟨st.length - 1,by simp [offN] at hoff;omega⟩
  obtain rfl:sn=k + 1:=by omega
  have e1:popN st 1=st.take k:=by rw [popN,hk];rfl
  have e2:topN st=st[k]?.getD 0:=by rw [topN,hk];rfl
  by_cases h0:st[k]?.getD 0=0
  ·have hd:doM c ⟨13,a,b⟩ ⟨(i:Int) + 1,fuel - 1,st,[r0,r1,r2,r3],ou,false,e0⟩ own=(⟨(i:Int) + 1 + a,fuel - 1,st.take k,[r0,r1,r2,r3],ou,false,e0⟩,own):=by
    rw [← e1]
    simp [doM,e2,h0]
   rw [hd]
   exact rstep13_0 (ra:=ra) (nr:=nr) (rc:=rc) (wa:=wa) (nw:=nw) (wc:=wc) (aa:=aa) (na:=na) (ac:=ac) (cf:=c.fuel) (ca:=ca) (nc:=nc) (cc:=cc) (fuel:=fuel) (sA:=sA) (sc:=sc) (r0:=r0) (r1:=r1) (r2:=r2) (r3:=r3) (oA:=oA) (on:=on) (oc:=oc) (e0:=e0) (bA:=bA) (bn:=bn) (bc:=bc) (k:=k) (hk:=by omega) (a:=a) (b:=b) (h0:=h0) (ha:=ha) (l:=c.code) (i:=i) (st:=st) (ou:=ou) (own:=own) (w:=w) (hC:=hcode) (hl:=hlc) (hi:=hi) (hic:=hic) (hx:=hx) (hM:=hM) (hf:=hf) (hf2:=hf2)
  ·have hd:doM c ⟨13,a,b⟩ ⟨(i:Int) + 1,fuel - 1,st,[r0,r1,r2,r3],ou,false,e0⟩ own=(⟨(i:Int) + 1,fuel - 1,st.take k,[r0,r1,r2,r3],ou,false,e0⟩,own):=by
    rw [← e1]
    simp [doM,e2,h0]
   rw [hd]
   exact rstep13_1 (ra:=ra) (nr:=nr) (rc:=rc) (wa:=wa) (nw:=nw) (wc:=wc) (aa:=aa) (na:=na) (ac:=ac) (cf:=c.fuel) (ca:=ca) (nc:=nc) (cc:=cc) (fuel:=fuel) (sA:=sA) (sc:=sc) (r0:=r0) (r1:=r1) (r2:=r2) (r3:=r3) (oA:=oA) (on:=on) (oc:=oc) (e0:=e0) (bA:=bA) (bn:=bn) (bc:=bc) (k:=k) (hk:=by omega) (a:=a) (b:=b) (h0:=h0) (l:=c.code) (i:=i) (st:=st) (ou:=ou) (own:=own) (w:=w) (hC:=hcode) (hl:=hlc) (hi:=hi) (hic:=hic) (hx:=hx) (hM:=hM) (hf:=hf) (hf2:=hf2)
 ·exact rstep14 (ra:=ra) (nr:=nr) (rc:=rc) (wa:=wa) (nw:=nw) (wc:=wc) (aa:=aa) (na:=na) (ac:=ac) (cf:=c.fuel) (ca:=ca) (nc:=nc) (cc:=cc) (fuel:=fuel) (sA:=sA) (sn:=sn) (sc:=sc) (r0:=r0) (r1:=r1) (r2:=r2) (r3:=r3) (oA:=oA) (on:=on) (oc:=oc) (e0:=e0) (bA:=bA) (bn:=bn) (bc:=bc) (a:=a) (b:=b) (ha:=hway (.inr rfl)) (l:=c.code) (i:=i) (st:=st) (ou:=ou) (own:=own) (w:=w) (hC:=hcode) (hl:=hlc) (hi:=hi) (hic:=hic) (hx:=hx) (hM:=hM) (hf:=hf) (hf2:=hf2)
 ·obtain ⟨k,hk⟩:∃ k,st.length=k + 1:=⟨st.length - 1,by simp [offN] at hoff;omega⟩
  obtain rfl:sn=k + 1:=by omega
  have e1:popN st 1=st.take k:=by rw [popN,hk];rfl
  have e2:topN st=st[k]?.getD 0:=by rw [topN,hk];rfl
  have hd:doM c ⟨15,a,b⟩ ⟨(i:Int) + 1,fuel - 1,st,[r0,r1,r2,r3],ou,false,e0⟩ own=(⟨(i:Int) + 1,fuel - 1,st.take k,[r0,r1,r2,r3],ou ++ [st[k]?.getD 0],false,e0⟩,own):=by rw [← e1,← e2];rfl
  rw [hd]
  exact rstep15 (ra:=ra) (nr:=nr) (rc:=rc) (wa:=wa) (nw:=nw) (wc:=wc) (aa:=aa) (na:=na) (ac:=ac) (cf:=c.fuel) (ca:=ca) (nc:=nc) (cc:=cc) (fuel:=fuel) (sA:=sA) (sc:=sc) (r0:=r0) (r1:=r1) (r2:=r2) (r3:=r3) (oA:=oA) (on:=on) (oc:=oc) (e0:=e0) (bA:=bA) (bn:=bn) (bc:=bc) (k:=k) (hk:=by omega) (a:=a) (b:=b) (hon:=by omega) (l:=c.code) (i:=i) (st:=st) (ou:=ou) (own:=own) (w:=w) (hC:=hcode) (hl:=hlc) (hi:=hi) (hic:=hic) (hx:=hx) (hM:=hM) (hf:=hf) (hf2:=hf2)
 ·exact rstep16 (ra:=ra) (nr:=nr) (rc:=rc) (wa:=wa) (nw:=nw) (wc:=wc) (aa:=aa) (na:=na) (ac:=ac) (cf:=c.fuel) (ca:=ca) (nc:=nc) (cc:=cc) (fuel:=fuel) (sA:=sA) (sn:=sn) (sc:=sc) (r0:=r0) (r1:=r1) (r2:=r2) (r3:=r3) (oA:=oA) (on:=on) (oc:=oc) (e0:=e0) (bA:=bA) (bn:=bn) (bc:=bc) (a:=a) (b:=b) (l:=c.code) (i:=i) (st:=st) (ou:=ou) (own:=own) (w:=w) (hC:=hcode) (hl:=hlc) (hi:=hi) (hic:=hic) (hx:=hx) (hM:=hM) (hf:=hf) (hf2:=hf2)
 ·exact rstep17 (ra:=ra) (nr:=nr) (rc:=rc) (wa:=wa) (nw:=nw) (wc:=wc) (aa:=aa) (na:=na) (ac:=ac) (cf:=c.fuel) (ca:=ca) (nc:=nc) (cc:=cc) (fuel:=fuel) (sA:=sA) (sn:=sn) (sc:=sc) (r0:=r0) (r1:=r1) (r2:=r2) (r3:=r3) (oA:=oA) (on:=on) (oc:=oc) (e0:=e0) (bA:=bA) (bn:=bn) (bc:=bc) (a:=a) (b:=b) (l:=c.code) (i:=i) (st:=st) (ou:=ou) (own:=own) (w:=w) (hC:=hcode) (hl:=hlc) (hi:=hi) (hic:=hic) (hx:=hx) (hM:=hM) (hf:=hf) (hf2:=hf2)
 ·have hoff2:offN op=2:=by unfold offN;rw [if_neg (by omega),if_pos hop]
  obtain ⟨k,hk⟩:∃ k,st.length=k + 2:=⟨st.length - 2,by omega⟩
  obtain rfl:sn=k + 2:=by omega
  have e1:popN st 2=st.take k:=by rw [popN,hk];rfl
  have e2:topN st=st[k + 1]?.getD 0:=by rw [topN,hk];rfl
  have e3:nextTop st=st[k]?.getD 0:=by rw [nextTop,hk];rfl
  have e0':doM c ⟨op,a,b⟩ ⟨(i:Int) + 1,fuel - 1,st,[r0,r1,r2,r3],ou,false,e0⟩ own=(match twoN op (nextTop st) (topN st) with
   | none=>(overM ⟨(i:Int) + 1,fuel - 1,st,[r0,r1,r2,r3],ou,false,e0⟩ 12,own)
   | some n=>(⟨(i:Int) + 1,fuel - 1,popN st 2 ++ [n],[r0,r1,r2,r3],ou,false,e0⟩,own)):=by
   unfold doM
   simp only
   rw [if_neg (by omega),if_neg (by omega),if_neg (by omega),if_neg (by omega),if_neg (by omega),if_neg (by omega),if_neg (by omega),if_neg (by omega),if_neg (by omega),if_neg (by omega),if_neg (by omega)] <;> rfl
  cases ht:twoN op (st[k]?.getD 0) (st[k + 1]?.getD 0) with
  | none=>
   have hd:doM c ⟨op,a,b⟩ ⟨(i:Int) + 1,fuel - 1,st,[r0,r1,r2,r3],ou,false,e0⟩ own=(⟨(i:Int) + 1,fuel - 1,st,[r0,r1,r2,r3],[],true,12⟩,own):=by
    rw [e0',e2,e3,ht]
    rfl
   rw [hd]
   exact rstep_nought (ra:=ra) (nr:=nr) (rc:=rc) (wa:=wa) (nw:=nw) (wc:=wc) (aa:=aa) (na:=na) (ac:=ac) (cf:=c.fuel) (ca:=ca) (nc:=nc) (cc:=cc) (fuel:=fuel) (sA:=sA) (sc:=sc) (r0:=r0) (r1:=r1) (r2:=r2) (r3:=r3) (oA:=oA) (on:=on) (oc:=oc) (e0:=e0) (bA:=bA) (bn:=bn) (bc:=bc) (k:=k) (hk:=by omega) (op:=op) (a:=a) (b:=b) (hop:=hop) (ht:=ht) (l:=c.code) (i:=i) (st:=st) (ou:=ou) (own:=own) (w:=w) (hC:=hcode) (hl:=hlc) (hi:=hi) (hic:=hic) (hx:=hx) (hM:=hM) (hf:=hf) (hf2:=hf2)
  | some n=>
   have hd:doM c ⟨op,a,b⟩ ⟨(i:Int) + 1,fuel - 1,st,[r0,r1,r2,r3],ou,false,e0⟩ own=(⟨(i:Int) + 1,fuel - 1,st.take k ++ [n],[r0,r1,r2,r3],ou,false,e0⟩,own):=by
    rw [e0',e2,e3,ht,← e1]
   rw [hd]
   exact rstep_two (ra:=ra) (nr:=nr) (rc:=rc) (wa:=wa) (nw:=nw) (wc:=wc) (aa:=aa) (na:=na) (ac:=ac) (cf:=c.fuel) (ca:=ca) (nc:=nc) (cc:=cc) (fuel:=fuel) (sA:=sA) (sc:=sc) (r0:=r0) (r1:=r1) (r2:=r2) (r3:=r3) (oA:=oA) (on:=on) (oc:=oc) (e0:=e0) (bA:=bA) (bn:=bn) (bc:=bc) (k:=k) (hk:=by omega) (op:=op) (a:=a) (b:=b) (hop:=hop) (n:=n) (ht:=ht) (l:=c.code) (i:=i) (st:=st) (ou:=ou) (own:=own) (w:=w) (hC:=hcode) (hl:=hlc) (hi:=hi) (hic:=hic) (hx:=hx) (hM:=hM) (hf:=hf) (hf2:=hf2)
theorem rstep_any (c:Cmd) (m:Mac) (own:Blks) (w:World) (hf:Fit c m own) (hC:CmIn w c ra nr rc wa nw wc aa na ac ca nc cc) (hM:MIn w m.stack m.out own sA sn sc oA on oc bA bn bc) :
  Calls Tryz.prog 46 #[cmV ra nr rc wa nw wc aa na ac c.fuel ca nc cc,mM m sA sn sc oA on oc,.slice bA bn bc] w (RMacPost (stepM c m own) sA sn oA on bA bn w):=by
 obtain ⟨l1,l2,l3⟩:=hM.lens hf.cells
 obtain ⟨pc,fuel,st,regs,ou,ov,e0⟩:=m
 have h4:=four_of hf.regs
 simp only at h4 l1 l2
 generalize rg regs 0=r0 at *
 generalize rg regs 1=r1 at *
 generalize rg regs 2=r2 at *
 generalize rg regs 3=r3 at *
 subst h4
 have d1:=hf.deep
 have d2:=hf.outs
 have d3:=hf.many
 have d4:=hf.fuel
 have d5:=hC.bc
 have d6:=hC.lc
 simp only at d1 d2 d3 d4
 cases ov with
 | true=>
  rw [step_over rfl]
  exact rstep_over (ra:=ra) (nr:=nr) (rc:=rc) (wa:=wa) (nw:=nw) (wc:=wc) (aa:=aa) (na:=na) (ac:=ac) (cf:=c.fuel) (ca:=ca) (nc:=nc) (cc:=cc) (fuel:=fuel) (sA:=sA) (sn:=sn) (sc:=sc) (r0:=r0) (r1:=r1) (r2:=r2) (r3:=r3) (oA:=oA) (on:=on) (oc:=oc) (e0:=e0) (bA:=bA) (bn:=bn) (bc:=bc) (pc:=pc) (st:=st) (ou:=ou) (own:=own) (w:=w) (hM:=hM)
 | false=>
  by_cases h0:fuel=0
  ·rw [step_empty rfl h0]
   subst h0
   exact rstep_nofuel (ra:=ra) (nr:=nr) (rc:=rc) (wa:=wa) (nw:=nw) (wc:=wc) (aa:=aa) (na:=na) (ac:=ac) (cf:=c.fuel) (ca:=ca) (nc:=nc) (cc:=cc) (sA:=sA) (sn:=sn) (sc:=sc) (r0:=r0) (r1:=r1) (r2:=r2) (r3:=r3) (oA:=oA) (on:=on) (oc:=oc) (e0:=e0) (bA:=bA) (bn:=bn) (bc:=bc) (pc:=pc) (st:=st) (ou:=ou) (own:=own) (w:=w) (hM:=hM)
  ·rw [step_goes rfl h0]
   obtain ⟨g1,g2,g3,g4⟩:=hf.goes rfl h0
   simp only at g1 g2 g4
   obtain ⟨i,rfl⟩:=Int.eq_ofNat_of_zero_le g1
   rw [Int.toNat_natCast] at g4
   exact rstep_goes ra nr rc wa nw wc aa na ac ca nc cc sA sn sc oA on oc bA bn bc c i fuel st ou r0 r1 r2 r3 e0 own w (insAt c.code i) rfl (by omega) (by omega) g4 h0 d4 d1 d2 hf.cells d3 l1 l2 l3 hC hM
end
end
end Go.Proofs.YtpaocjpjlogkgaaGreat
