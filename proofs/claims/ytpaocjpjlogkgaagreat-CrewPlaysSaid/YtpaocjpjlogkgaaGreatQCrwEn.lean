/-
  Words and contracts of this claim, 2 texts laid into one, each under its own remark. No conditions but those that stand at each.
-/
import Derived.Test.YtpaocjpjlogkgaaGreatQPooV
import Derived.Test.YtpaocjpjlogkgaaGreatZRowQ
import Derived.Test.YtpaocjpjlogkgaaGreatQLckS
import Derived.Test.YtpaocjpjlogkgaaGreatQRely
import Derived.Test.YtpaocjpjlogkgaaGreatZStC
namespace Go.Proofs.YtpaocjpjlogkgaaGreat
set_option maxRecDepth 100000
set_option maxHeartbeats 32000000
open Go
open Go.Lib (hid)
section
open Go Go.RowKit
attribute [local go_sem] look findAt
attribute [local simp] depsOf isV Region.binds
theorem exec_noneR (ρ:Operand→Value) (w:World) (o:Oper) (ho:o.op=.buildSlice 29 0 #[]):(execOp ρ o).run Tryz.prog w=.ok (.value (.slice (some ⟨w.heap.size,0,none⟩) 0 0)) (w.alloc (.cells #[] 51)):=by
 obtain ⟨i0,hi0,hz0,hz1,hz2⟩:=infoRslZ
 unfold execOp
 simp only [ho]
 go_simp
theorem infoSl1:(Tryz.prog.info? 26).map (·.size)=some 1:=by kernel_rfl
theorem own_block_ge {w:World} {B:Nat} {e:TypeId} {size n c:Nat} {A:Option Addr} {xs:List Value} {k:Nat} (h:w.ownsRow B e size (.slice A n c) n xs) (hk:(Value.slice A n c).ownBlock=some k):B≤k:=by
 rcases h.2 with ⟨h0,-⟩ | ⟨g,cap,cur,hv,hb,-⟩
 ·rw [h0] at hk
  cases hk
 ·rw [hv] at hk
  simp [Value.ownBlock] at hk
  omega
theorem own_block_lt {w:World} {B:Nat} {e:TypeId} {size n c:Nat} {A:Option Addr} {xs:List Value} {k:Nat} (h:w.ownsRow B e size (.slice A n c) n xs) (hk:(Value.slice A n c).ownBlock=some k):k < w.heap.size:=by
 rcases h.2 with ⟨h0,-⟩ | ⟨g,cap,cur,hv,hb,hg,-⟩
 ·rw [h0] at hk
  cases hk
 ·rw [hv] at hk
  simp [Value.ownBlock] at hk
  subst hk
  exact Bk.lt hg
theorem Sl.growOff {w w':World} {size n c:Nat} {A:Option Addr} {xs:List Value} {row:Option Nat} (h:Sl w size A n c xs) (hg:w.grownBy w' row) (ho:∀ k,row=some k→offA k A n):Sl w' size A n c xs:=by
 refine ⟨h.1,h.2.1,h.2.2.1,fun hn=>?_⟩
 obtain ⟨b,off,e,hb,hc⟩:=h.2.2.2 hn
 refine ⟨b,off,e,Nat.lt_of_lt_of_le hb hg.size,fun j hj=>?_⟩
 rw [← hc j hj]
 unfold World.cell?
 simp only
 rw [hg.block b hb (fun e'=>absurd rfl (ho b e'.symm hn b off e))]
section
variable (n no:Nat) (H:Hd) (X:Crw) (z:CwL) (i:Nat) (w:World)
theorem end_ill (h:CwIs n no X w z) (ho:CrMin n X) (hi:i < X.tasks.length) (hn:n≤1000) (hv:(tskAt X.tasks i).m.told≠0) :
  Calls Tryz.prog 47 #[.agg (cwA n no H z),.int .i64 (i:Int)] w (CwPost n no H (endC X (tskAt X.tasks i) i) z w):=by
 obtain ⟨i0,hi0,hz0,hz1,hz2⟩:=infoRslZ
 obtain ⟨W0,hW0⟩:∃ W,W=(w.alloc (.cells (cwA n no H z) 34)).alloc (.cells cwZ 34):=⟨_,rfl⟩
 obtain ⟨b0,kb,kr⟩:=cwW_is n no H z w
 rw [← hW0] at b0 kb kr
 have hs0:w.heap.size + 2≤W0.heap.size:=by rw [hW0,World.size_alloc,World.size_alloc];omega
 obtain ⟨t,ht,hts,hint,hfe⟩:=tk_is h.tk hi
 have hmem:=List.mem_of_getElem? (tskAt_lt hi)
 have hmf:=ho.cmds (tskAt X.tasks i) hmem
 have hc0:(tskAt X.tasks i).cmd=t.x.c:=by rw [← hts];rfl
 rw [hc0] at hmf
 obtain ⟨hm,hf⟩:=hmf
 have hlk:=CmL.lk hint.cmd hm hf
 have HLC:=hid (fun W (hW:Below w.heap.size w W)=>hlk.below hW)
 have H0:=hid h
 have HT:=hid hint
 have HM:=hid hm
 have HF:=hid hf
 have HN:=hid hn
 have HTM:=hid (List.mem_of_getElem? ht)
 have HU:Hid ((whoP X.tasks).length≤1000):=hid (by rw [whoP_len];have:=ho.few;omega)
 have HMY:=hid ho.many
 have hT:=tskAt_lt hi
 have hwq:∀ x∈whoP X.tasks,x.1=t.s→x.2=t.x.c:=fun x hx e=>by
  have:=rises_one ho.rise hx (whoP_mem hmem) (by rw [e,← hts];rfl)
  rw [this]
  exact hc0
 have HWQ:=hid hwq
 have HWO:Hid (whoP (withoutP X.tasks i)=(whoP X.tasks).filter fun x=>decide (x.1≠t.s)):=hid (by rw [whoP_without ho.rise hT,← hts];rfl)
 have hitn:i < z.tn:=by have:=h.tk.lenL;omega
 have hcap:z.tn≤z.tc:=by have:=h.tk.sl.cap;rw [h.tk.len] at this;exact this
 have htn:z.tn≤900:=by have:=h.tk.lenL;have:=ho.few;omega
 have e1:(i:Int) < (z.tn:Int):=by omega
 have e2:(i:Int) < (z.tc:Int):=by omega
 obtain ⟨b,off,hA,hat⟩:=h.tk.sl.lies ht
 have HR0:=hid (hat W0 b0).all
 have KZ:=hid (Bk.new W0 67 tkZ)
 obtain ⟨w1,hw1⟩:∃ W,W=(W0.alloc (.cells tkZ 67)).setRow W0.heap.size (tkA t):=⟨_,rfl⟩
 have HW1:=hid hw1.symm
 have b01:Below W0.heap.size W0 w1:=by rw [hw1];exact below_row (below_alloc1 _ _) (Nat.le_refl _) _
 have K1:=hid (kb.below b01)
 have R1:=hid (kr.below b01)
 have B1:=hid (bnext b0 b01)
 have T1:Hid (Bk w1 W0.heap.size 67 (tkA t)):=hid (by rw [hw1];exact KZ.out.setRow _)
 have HW:=hid hW0
 have hto:=hv
 rw [← hts] at hto
 have hto':t.m.told≠0:=hto
 have d0:((t.m.told:Int) == 0)=false:=beq_eq_false_iff_ne.2 (by omega)
 have hend:endC X (tskAt X.tasks i) i={ X with tasks:=withoutP X.tasks i,results:=X.results ++ [⟨t.s,t.m.told,t.m.out⟩] }:=by
  unfold endC
  rw [if_neg hv,if_neg hv,← hts]
  rfl
 rw [hend]
 obtain ⟨X1,hX1⟩:∃ Y,Y=X:=⟨_,rfl⟩
 have HXT:Hid (X1.tasks=X.tasks):=hid (by rw [hX1])
 have HXR:Hid (X1.results=X.results):=hid (by rw [hX1])
 have O2:Hid (∀ G,G < w.heap.size + 3→CwOff G n no z→CwOff G n no z):=hid (fun G _ q=>q)
 have IS2:Hid (CwIs n no X1 w1 z):=hid (by rw [hX1];exact h.below B1.out)
 rw [show ({ X with tasks:=withoutP X.tasks i,results:=X.results ++ [⟨t.s,t.m.told,t.m.out⟩] }:Crw)={ X1 with tasks:=withoutP X.tasks i,results:=X.results ++ [⟨t.s,t.m.told,t.m.out⟩] } by rw [hX1]]
 clear h ho hi hts ht hint hfe hmem hc0 hm hf hlk hT hwq hcap hitn hat hw1 b01 hW0 b0 kb kr hv hn hto hto' hend hX1
 go_enter Tryz.func47,Tryz.ntmps47
 go_wp2_with (first
  | (rw [← HW.out];with_reducible refine ld_tskm b (off + i * 18) HR0.out _ rfl rfl rfl ?_)
  | (with_reducible refine st_tsk W0.heap.size KZ.out rfl t _ _ rfl rfl rfl rfl ?_;rw [HW1.out];refine Hid.out ?_))
 refine hid ?_
 have HA:=hid hA
 clear hA
 obtain ⟨-,-,-,k15,-,-,kl,-⟩:=T1.out.tskv
 have HLK:Hid (LkOwn 0 w1 z.wA n z.wc (lksW (whoP X.tasks) n)):=hid (by rw [← HXT.out];exact IS2.out.wt)
 obtain ⟨-,p1,-,-,pl,pf⟩:=K1.out.crew
 obtain ⟨q0,-,-,-,-,-,ql,-⟩:=T1.out.tskv
 go_wp2_with (first
  | (with_reducible refine ld_tcmd W0.heap.size T1.out _ rfl rfl rfl ?_)
  | (go_at_call 93;go_must ((with_reducible refine (rgiveO_who t.x.c t.x.ra t.x.nr t.x.rc t.x.wa t.x.nw t.x.wc t.x.aa t.x.na t.x.ac t.x.c.fuel t.x.ca t.x.nc t.x.cc z.wA n z.wc t.s (whoP X.tasks) w1 HLK.out HN.out HU.out HM.out.sets HWQ.out (HLC.out w1 B1.out)).mono ?_);rintro e w3 ⟨A3,c3,rfl,hL3,hb3⟩;have L3:=hid (hL3);have K3:=hid (K1.out.below hb3);have T3:=hid (T1.out.below hb3);have R3:=hid (R1.out.below hb3);have B3:=hid (bnext B1.out hb3);have IS3:=hid (IS2.out.below hb3);clear hL3 hb3 p1 pl pf q0 ql;obtain ⟨-,p1,-,-,pl,pf⟩:=K3.out.crew)))
 obtain ⟨W4,hW4⟩:∃ W,W=w3.setCell ⟨w.heap.size,1,none⟩ (.slice A3 n c3):=⟨_,rfl⟩
 rw [← hW4]
 have G3:=OneOff.setCell w3 w.heap.size 1 (.slice A3 n c3)
 rw [← hW4] at G3
 have K4:Hid (Bk W4 w.heap.size 34 (cwA n no H { z with wA:=A3,wc:=c3 })):=hid (by rw [hW4];exact K3.out.cW A3 c3)
 have T4:Hid (Bk W4 W0.heap.size 67 (tkA t)):=hid (by rw [hW4];exact T3.out.far (by show W0.heap.size≠w.heap.size;omega) _)
 have R4:Hid (Bk W4 (w.heap.size + 1) 34 cwZ):=hid (by rw [hW4];exact R3.out.far (by show (w.heap.size + 1)≠w.heap.size;omega) _)
 have B4:Hid (Below w.heap.size w W4):=hid (by rw [hW4];exact B3.out.setCell (p:=⟨w.heap.size,1,none⟩) (Nat.le_refl _) _)
 have L4:Hid (LkOwn 0 W4 A3 n c3 (lksW ((whoP X.tasks).filter fun x=>decide (x.1≠t.s)) n)):=hid (L3.out.turns G3.grown K3.out (by decide) (by decide))
 have IS4:Hid (CwIs n no X1 W4 z):=hid (IS3.out.keep (O2.out w.heap.size (by omega) (H0.out.off_ge (Nat.le_refl _))) G3 K3.out (by decide) (by decide))
 have hrn:z.rn≤z.rc:=by have:=IS4.out.rs.sl.cap;rw [IS4.out.rs.len] at this;exact this
 clear hW4 G3 p1 pl pf
 have HRS:Hid (Sl W4 3 z.rA z.rn z.rc (rslsW z.rl)):=hid (by have:=IS4.out.rs.sl.1;rw [IS4.out.rs.len] at this;exact this)
 have hrz:z.rn≤100000:=by have:=IS4.out.rs.lenR;rw [HXR.out] at this;have:=HMY.out;omega
 try simp only [List.append_eq,List.cons_append,List.nil_append]
 refine wp_region_saysK 8 (fun x y=>Below x.heap.size x y) (fun _ _ _ h k=>bnext h k) W4 (below_drew1 W4) (by kernel_rfl) (by kernel_rfl) (by kernel_rfl) (by kernel_rfl) (by rfl) ?_
 simp only [List.take_succ_cons,List.take_zero,List.drop_succ_cons,List.drop_zero]
 refine walkK_new (noneK W4.heap.size 51 3) (by first | exact gs0 rfl | exact gs1 rfl rfl rfl) (fun v x y hb h=>noneK_below v x y hb h) (fun u X' hX hd=>?_) ?_
 ·refine ⟨_,_,exec_noneR _ X' _ rfl,below_alloc1 _ _,_,rfl,World.ownsRow_lit X' #[] 0 hX.size (by decide) rfl⟩
 refine wkN ?_
 refine wkI ?_ (fun u X' hX hd=>?_) ?_
 rotate_left
 ·obtain ⟨-,-,-,p3,pl,-⟩:=(K4.out.below hX).crew
  obtain ⟨q0,-,-,-,-,-,ql,-⟩:=(T4.out.below hX).tskv
  try simp at hd
  go_simp
  try rfl
 refine wkI (.slice z.rA z.rn z.rc) (fun u X' hX hd=>?_) ?_
 ·obtain ⟨-,-,-,p3,pl,-⟩:=(K4.out.below hX).crew
  obtain ⟨q0,-,-,-,-,-,ql,-⟩:=(T4.out.below hX).tskv
  try simp at hd
  go_simp
  try rfl
 refine walkK_new (listK W4.heap.size 51 3 z.rn (rslsW z.rl)) (by first | exact gs0 rfl | exact gs1 rfl rfl rfl) (fun v x y hb h=>listK_below v x y hb h) (fun u X' hX hd=>?_) ?_
 ·simp at hd
  obtain ⟨⟨g,hv,ho⟩,h2⟩:=hd
  obtain ⟨v',w',hrun,hbl,hli⟩:=run_append_noneK (P:=Tryz.prog) X' 29 _ W4.heap.size 51 i0 _ 3 40 Tryz.underlying29 hi0 hz0 hz1 hz2 rfl (by decide) hX.size g ho z.rA z.rn z.rc (rslsW z.rl) (HRS.out.below hX) (by unfold maxLen;omega) (by omega)
  exact ⟨v',w',exec_append _ X' _ _ _ _ rfl (by simp [look,findAt,hv]) (by simp [look,findAt,h2]) hrun,hbl,hli⟩
 refine wkN ?_
 refine wkI ?_ (fun u X' hX hd=>?_) ?_
 rotate_left
 ·obtain ⟨-,-,-,p3,pl,-⟩:=(K4.out.below hX).crew
  obtain ⟨q0,-,-,-,-,-,ql,-⟩:=(T4.out.below hX).tskv
  try simp at hd
  go_simp
  try rfl
 refine wkI (.int .i64 t.s) (fun u X' hX hd=>?_) ?_
 ·obtain ⟨-,-,-,p3,pl,-⟩:=(K4.out.below hX).crew
  obtain ⟨q0,-,-,-,-,-,ql,-⟩:=(T4.out.below hX).tskv
  try simp at hd
  go_simp
  try rfl
 refine wkI ?_ (fun u X' hX hd=>?_) ?_
 rotate_left
 ·obtain ⟨-,-,-,p3,pl,-⟩:=(K4.out.below hX).crew
  obtain ⟨q0,-,-,-,-,-,ql,-⟩:=(T4.out.below hX).tskv
  try simp at hd
  go_simp
  try rfl
 refine walkK_is (.agg (mC t.m.pc t.m.fuel (.slice t.sA t.sn t.sc) (rg t.m.regs 0) (rg t.m.regs 1) (rg t.m.regs 2) (rg t.m.regs 3) (.slice t.oA t.on t.oc) t.m.over t.m.told)) (by first | exact gs0 rfl | exact gs1 rfl rfl rfl) (fun _=>Below.refl _ _) (fun u X' hX hd=>?_) ?_
 ·have hl:=run_loadVar_mid X' W0.heap.size 6 64 _ _ (T4.out.below hX).tmac Tryz.underlying64 rfl infoMc
  try simp at hd
  refine op_load_at 64 (W0.heap.size) (6) hl _ rfl ?_
  go_simp
 refine walkK_last ?_
 intro u X' hX hsay
 have v3:=sayAll_get hsay (j:=3) (φ:=listK W4.heap.size 51 3 z.rn (rslsW z.rl)) rfl
 have v5:=sayAll_put hsay 5 (.int .i64 t.s) rfl
 have v7:=sayAll_put hsay 7 (.agg (mC t.m.pc t.m.fuel (.slice t.sA t.sn t.sc) (rg t.m.regs 0) (rg t.m.regs 1) (rg t.m.regs 2) (rg t.m.regs 3) (.slice t.oA t.on t.oc) t.m.over t.m.told)) rfl
 clear hsay
 have v3':∃ A c,u 3=.slice A z.rn c∧X'.ownsRow W4.heap.size 51 3 (.slice A z.rn c) z.rn (rslsW z.rl):=v3
 clear v3
 simp only [putAll,Act.put,v5,v7,List.setIfInBounds_toArray,List.set_cons_succ,List.set_cons_zero,Nat.zero_add,Nat.reduceAdd]
 obtain ⟨rA3,rc3,hr3,hown3⟩:=v3'
 simp only [hr3]
 have K5:=hid (K4.out.below hX)
 have T5:=hid (T4.out.below hX)
 have R5:=hid (R4.out.below hX)
 have B5:=hid (bnext B4.out hX)
 have L5:=hid (L4.out.below hX)
 have IS5:=hid (IS4.out.below hX)
 have RS5:=hid (HRS.out.below hX)
 have HX4:=hid hX
 clear hX hr3 v5 v7
 have OW5:=hid hown3
 clear hown3
 go_wp2_with (first
  | (go_at_call 51;go_must ((with_reducible refine (rtells_tk t.s t _ (HT.out.below B5.out)).mono ?_);rintro e w6 ⟨x6,rfl,hx6,hxi,hb6,hxo⟩;have XS:=hid hx6;have XI:=hid hxi;have XO:=hid hxo;have K6:=hid (K5.out.below hb6);have T6:=hid (T5.out.below hb6);have R6:=hid (R5.out.below hb6);have B6:=hid (bnext B5.out hb6);have L6:=hid (L5.out.below hb6);have IS6:=hid (IS5.out.below hb6);have RS6:=hid (RS5.out.below hb6);have OW6:=hid (own_below OW5.out hb6);have HB6:=hid hb6;have hs6:X'.heap.size≤w6.heap.size:=hb6.size;clear hx6 hxi hb6 hxo))
  | (at_builtin;go_must (refine wpList_append_own _ rfl (.tmp 57) (.tmp 63) _ rfl W4.heap.size 51 i0 _ 3 40 Tryz.underlying29 hi0 hz0 hz1 hz2 rfl (by decide) _ z.rn (rslsW z.rl) rfl (own_below OW6.out (below_alloc1 _ _)) ⟨w6.heap.size,0,none⟩ 1 1 (rslC x6) rfl rfl (Bk.news (Bk.new w6 51 (rslA x6)) rfl) (rslC_one x6) (by unfold maxLen;omega) (by omega) (by have:=HX4.out.size;simp;omega) ?_;intro v' w7 hown hg _;obtain ⟨A7,c7,rfl,hsl7⟩:=Sl.own hown;have OV7:Hid (overA (w.heap.size + 3) A7 (z.rn + 1)):=hid ((own_over hown).lower (by have:=T4.out.lt;omega));have hb7:Below W4.heap.size W4 w7:=(bnext (bnext HX4.out HB6.out) (below_alloc1 w6 _)).grown hg (by have:=HX4.out.size;simp;omega) (fun k hk=>own_block_ge OW6.out hk);have SL7:=hid hsl7;have K7:=hid (K4.out.below hb7);have T7:=hid (T4.out.below hb7);have R7:=hid (R4.out.below hb7);have B7:=hid (bnext B4.out hb7);have L7:=hid (L4.out.below hb7);have IS7:=hid (IS4.out.below hb7);have XI7:Hid (x6.In w7):=hid (Sl.growOff (XI.out.below (below_alloc1 w6 _)) hg (fun k hk=>XO.out k (own_block_lt OW5.out hk) (HT.out.mac.ou.off_ge (by have h1:=own_block_ge OW5.out hk;have h2:=B4.out.size;omega))));clear hsl7 hb7 hown hg;obtain ⟨-,-,-,p3,pl,pf⟩:=K7.out.crew;have G8:=OneOff.setCell w7 w.heap.size 3 (.slice A7 (z.rn + 1) c7);have IS8:=hid (IS7.out.keep (O2.out w.heap.size (by omega) (H0.out.off_ge (Nat.le_refl _))) G8 K7.out (by decide) (by decide));have L8:=hid (L7.out.turns G8.grown K7.out (by decide) (by decide));have K8:=hid (K7.out.cR A7 (z.rn + 1) c7 (z.rl ++ [x6]));have R8:=hid (R7.out.far (p:=⟨w.heap.size,3,none⟩) (by show (w.heap.size + 1)≠w.heap.size;omega) (.slice A7 (z.rn + 1) c7));have B8:=hid (B7.out.setCell (p:=⟨w.heap.size,3,none⟩) (Nat.le_refl _) (.slice A7 (z.rn + 1) c7));obtain ⟨-,-,s2,-,sl,-⟩:=K8.out.crew;have htk8:=IS8.out.tk;rw [HXT.out] at htk8;have hin1:i < z.tn:=(by have:=htk8.lenL;have:=H0.out.tk.lenL;omega);have htn1:z.tn≤1000:=(by have:=htk8.lenL;have:=H0.out.tk.lenL;omega);have HWI:=hid (rwithout_off X.tasks z.tl z.tA z.tn z.tc _ i htk8 hin1 htn1);have hs8:w.heap.size + 3≤(w7.setCell ⟨w.heap.size,3,none⟩ (.slice A7 (z.rn + 1) c7)).heap.size:=(by have h1:=R7.out.lt;have h2:=T7.out.lt;have h3:(w7.setCell ⟨w.heap.size,3,none⟩ (.slice A7 (z.rn + 1) c7)).heap.size=w7.heap.size:=(by simp [World.setCell]);omega);have HS8:=hid hs8;clear htk8 G8 hs8))
  | (go_at_call 94;go_must ((with_reducible refine HWI.out.mono ?_);rintro e w9 ⟨A9,c9,l9,rfl,hT9,hb9,ho9⟩;have TK9:=hid hT9;have O9:=hid ho9;have K9:=hid (K8.out.below hb9);have R9:=hid (R8.out.below hb9);have B9:=hid (bnext B8.out hb9);have L9:=hid (L8.out.below hb9);have IS9:=hid (IS8.out.below hb9);have HB9:=hid hb9;clear hT9 hb9 ho9 s2 sl p3 pl pf;obtain ⟨-,-,u2,-,ul,uf⟩:=K9.out.crew;have K10:=hid (K9.out.cT A9 (z.tn - 1) c9 l9);have R10:=hid (R9.out.far (p:=⟨w.heap.size,2,none⟩) (by show (w.heap.size + 1)≠w.heap.size;omega) (.slice A9 (z.tn - 1) c9))))
  | (with_reducible refine ld_cw w.heap.size K10.out _ rfl rfl rfl ?_)
  | (with_reducible refine st_cw (w.heap.size + 1) R10.out rfl n no H { z with wA:=A3,wc:=c3,rA:=A7,rn:=z.rn + 1,rc:=c7,rl:=z.rl ++ [x6],tA:=A9,tn:=z.tn - 1,tc:=c9,tl:=l9 } _ _ rfl rfl rfl rfl ?_))
 have BF:Below w.heap.size w ((w9.setCell ⟨w.heap.size,2,none⟩ (.slice A9 (z.tn - 1) c9)).setRow (w.heap.size + 1) (cwA n no H { z with wA:=A3,wc:=c3,rA:=A7,rn:=z.rn + 1,rc:=c7,rl:=z.rl ++ [x6],tA:=A9,tn:=z.tn - 1,tc:=c9,tl:=l9 })):=below_row (B9.out.setCell (p:=⟨w.heap.size,2,none⟩) (Nat.le_refl _) _) (by omega) _
 have hqg:=O2.out w.heap.size (by omega) (H0.out.off_ge (Nat.le_refl _))
 have hqr:=O2.out (w.heap.size + 1) (by omega) (H0.out.off_ge (by omega))
 have g9:=OneOff.setCell w9 w.heap.size 2 (.slice A9 (z.tn - 1) c9)
 have gF:=OneOff.setRow (w9.setCell ⟨w.heap.size,2,none⟩ (.slice A9 (z.tn - 1) c9)) (w.heap.size + 1) (cwA n no H { z with wA:=A3,wc:=c3,rA:=A7,rn:=z.rn + 1,rc:=c7,rl:=z.rl ++ [x6],tA:=A9,tn:=z.tn - 1,tc:=c9,tl:=l9 })
 have ISF:=(IS9.out.keep hqg g9 K9.out (by decide) (by decide)).keep hqr gF R10.out (by decide) (by decide)
 have LF:=(L9.out.turns g9.grown K9.out (by decide) (by decide)).turns gF.grown R10.out (by decide) (by decide)
 have hT:∀ G,G < w.heap.size + 3→CwOff G n no z→TkOffs G A9 (z.tn - 1) l9:=fun G hG q=>O9.out G (Nat.lt_of_lt_of_le hG HS8.out) (O2.out G hG q).t
 have hR:∀ G,G < w.heap.size + 3→CwOff G n no z→RsOffs G A7 (z.rn + 1) (z.rl ++ [x6]):=fun G hG q=>⟨OV7.out.off hG,fun x hx=>by
  rcases List.mem_append.1 hx with hx | hx
  ·exact (O2.out G hG q).r.2 x hx
  ·rw [List.mem_singleton.1 hx]
   exact XO.out G (by have h1:=R5.out.lt;have h2:=T5.out.lt;omega) (q.t.2 t HTM.out).m.2.1⟩
 have qg:CwOff w.heap.size n no z:=H0.out.off_ge (Nat.le_refl _)
 have qr:CwOff (w.heap.size + 1) n no z:=H0.out.off_ge (by omega)
 have TKF:=(TK9.out.keep (hT _ (by omega) qg) g9).keep (hT _ (by omega) qr) gF
 have hrs:=IS7.out.rs
 have RS7:RsIs (X.results ++ [⟨t.s,t.m.told,t.m.out⟩]) w7 A7 (z.rn + 1) c7 (z.rl ++ [x6]):=by
  refine ⟨⟨?_,fun x hx=>?_⟩,by rw [List.length_append,hrs.len];rfl,by rw [List.map_append,hrs.says,HXR.out];exact congrArg (X.results ++ [·]) XS.out⟩
  ·rw [rslsW_append,rslsW_sing,List.length_append,hrs.len]
   exact SL7.out
  ·rcases List.mem_append.1 hx with hx | hx
   ·exact hrs.sl.2 x hx
   ·rw [List.mem_singleton.1 hx];exact XI7.out
 have RSF:=(((RS7.keep (hR _ (by omega) qg) (OneOff.setCell w7 w.heap.size 3 (.slice A7 (z.rn + 1) c7))).below HB9.out).keep (hR _ (by omega) qg) g9).keep (hR _ (by omega) qr) gF
 have IS:CwIs n no { X1 with tasks:=withoutP X.tasks i,results:=X.results ++ [⟨t.s,t.m.told,t.m.out⟩] } _ { z with wA:=A3,wc:=c3,rA:=A7,rn:=z.rn + 1,rc:=c7,rl:=z.rl ++ [x6],tA:=A9,tn:=z.tn - 1,tc:=c9,tl:=l9 }:=
  ⟨ISF.len,ISF.bl,ISF.e8,by
   show LkOwn 0 _ A3 n c3 (lksW (whoP (withoutP X.tasks i)) n)
   rw [HWO.out]
   exact LF,TKF,RSF,ISF.on,ISF.mark⟩
 exact bodyPost_ret (v:=.agg (cwA n no H { z with wA:=A3,wc:=c3,rA:=A7,rn:=z.rn + 1,rc:=c7,rl:=z.rl ++ [x6],tA:=A9,tn:=z.tn - 1,tc:=c9,tl:=l9 })) (res_cw rfl _ _ (w.heap.size + 1) rfl (Bk.setRow R10.out _)) rfl ⟨_,rfl,IS,BF,fun G hG q=>⟨(O2.out G (by omega) q).b,hT G (by omega) q,hR G (by omega) q,(O2.out G (by omega) q).o,(O2.out G (by omega) q).k⟩⟩
theorem end_well (h:CwIs n no X w z) (ho:CrMin n X) (hi:i < X.tasks.length) (hn:n≤1000) (hno:no≤1000) (hbn:∀ t,t∈z.tl→t.tsk=tskAt X.tasks i→t.x.nr + t.x.nw=t.bn) (hv:(tskAt X.tasks i).m.told=0) :
  Calls Tryz.prog 47 #[.agg (cwA n no H z),.int .i64 (i:Int)] w (CwPost n no H (endC X (tskAt X.tasks i) i) z w):=by
 obtain ⟨i0,hi0,hz0,hz1,hz2⟩:=infoRslZ
 obtain ⟨W0,hW0⟩:∃ W,W=(w.alloc (.cells (cwA n no H z) 34)).alloc (.cells cwZ 34):=⟨_,rfl⟩
 obtain ⟨b0,kb,kr⟩:=cwW_is n no H z w
 rw [← hW0] at b0 kb kr
 have hs0:w.heap.size + 2≤W0.heap.size:=by rw [hW0,World.size_alloc,World.size_alloc];omega
 obtain ⟨t,ht,hts,hint,hfe⟩:=tk_is h.tk hi
 have hmem:=List.mem_of_getElem? (tskAt_lt hi)
 have hmf:=ho.cmds (tskAt X.tasks i) hmem
 have hc0:(tskAt X.tasks i).cmd=t.x.c:=by rw [← hts];rfl
 rw [hc0] at hmf
 obtain ⟨hm,hf⟩:=hmf
 have hlk:=CmL.lk hint.cmd hm hf
 have HLC:=hid (fun W (hW:Below w.heap.size w W)=>hlk.below hW)
 have H0:=hid h
 have HT:=hid hint
 have HM:=hid hm
 have HF:=hid hf
 have HN:=hid hn
 have HTM:=hid (List.mem_of_getElem? ht)
 have HU:Hid ((whoP X.tasks).length≤1000):=hid (by rw [whoP_len];have:=ho.few;omega)
 have HMY:=hid ho.many
 have hT:=tskAt_lt hi
 have hwq:∀ x∈whoP X.tasks,x.1=t.s→x.2=t.x.c:=fun x hx e=>by
  have:=rises_one ho.rise hx (whoP_mem hmem) (by rw [e,← hts];rfl)
  rw [this]
  exact hc0
 have HWQ:=hid hwq
 have HWO:Hid (whoP (withoutP X.tasks i)=(whoP X.tasks).filter fun x=>decide (x.1≠t.s)):=hid (by rw [whoP_without ho.rise hT,← hts];rfl)
 have hitn:i < z.tn:=by have:=h.tk.lenL;omega
 have hcap:z.tn≤z.tc:=by have:=h.tk.sl.cap;rw [h.tk.len] at this;exact this
 have htn:z.tn≤900:=by have:=h.tk.lenL;have:=ho.few;omega
 have e1:(i:Int) < (z.tn:Int):=by omega
 have e2:(i:Int) < (z.tc:Int):=by omega
 obtain ⟨b,off,hA,hat⟩:=h.tk.sl.lies ht
 have HR0:=hid (hat W0 b0).all
 have KZ:=hid (Bk.new W0 67 tkZ)
 obtain ⟨w1,hw1⟩:∃ W,W=(W0.alloc (.cells tkZ 67)).setRow W0.heap.size (tkA t):=⟨_,rfl⟩
 have HW1:=hid hw1.symm
 have b01:Below W0.heap.size W0 w1:=by rw [hw1];exact below_row (below_alloc1 _ _) (Nat.le_refl _) _
 have K1:=hid (kb.below b01)
 have R1:=hid (kr.below b01)
 have B1:=hid (bnext b0 b01)
 have T1:Hid (Bk w1 W0.heap.size 67 (tkA t)):=hid (by rw [hw1];exact KZ.out.setRow _)
 have HW:=hid hW0
 have hto:=hv
 rw [← hts] at hto
 have hto':t.m.told=0:=hto
 have d0:((t.m.told:Int) == 0)=true:=by rw [hto'];rfl
 have hend:endC X (tskAt X.tasks i) i={ storedX X t.tsk with tasks:=withoutP X.tasks i,results:=X.results ++ [⟨t.s,t.m.told,t.m.out⟩] }:=by
  unfold endC storedX
  rw [if_pos hv,if_pos hv,← hts]
  rfl
 rw [hend]
 have hbn1:=hbn t (List.mem_of_getElem? ht) hts
 have hws:=hint.cmd.writes
 have hwl:t.x.c.writes.length=t.x.nw:=hint.cmd.lw
 have hwc:t.x.nw≤t.x.wc:=by have:=hws.2.1;omega
 have hnw:=hfe.w
 have hmo:=h.mark
 have hon:=h.on
 have m0:Hid (MkIn w1 (keepsC X.mark X.blocks (t.x.c.writes.take 0)).old (keepsC X.mark X.blocks (t.x.c.writes.take 0)).kept z.oA no z.oc z.kA no z.kc):=hid (by rw [List.take_zero];exact hmo.below B1.out)
 have k0:Hid (Bk w1 w.heap.size 34 (cwA n no H { z with oA:=z.oA,oc:=z.oc,kA:=z.kA,kc:=z.kc })):=K1
 have hst:=hid (fun W (hW:Below w.heap.size w W)=>rstore_tk X.blocks z.bA n z.bc t t.s W (hint.below hW) hm (h.bl.below hW) h.e8 (by rw [h.len];exact hf) h.len (by omega) hn (by have:=hfe.b;omega))
 have hke:=hid (fun (W:World) (hW:Below w.heap.size w W) (i:Nat) (oA:Option Addr) (oc:Nat) (kA:Option Addr) (kc:Nat) (hM:MkIn W (keepsC X.mark X.blocks (t.x.c.writes.take i)).old (keepsC X.mark X.blocks (t.x.c.writes.take i)).kept oA no oc kA no kc) (x:Int)=>rkeep_say H.a1 H.a2 H.a3 H.a4 H.a5 H.a6 oA no oc kA kc (keepsC X.mark X.blocks (t.x.c.writes.take i)) X.blocks z.bA n z.bc x W hM (h.bl.below hW) h.e8 h.len hno)
 have HWS:=hid hws
 have HWL:=hid hwl
 have HON:=hid hon
 have HBN:=hid hbn1
 clear h ho hi hts ht hint hfe hmem hc0 hm hf hlk hT hwq hcap hitn hat hw1 b01 hW0 b0 kb kr hv hn hto hto' hend hbn hbn1 hws hwl hmo hon hno
 go_enter Tryz.func47,Tryz.ntmps47
 go_wp2_with (first
  | (rw [← HW.out];with_reducible refine ld_tskm b (off + i * 18) HR0.out _ rfl rfl rfl ?_)
  | (with_reducible refine st_tsk W0.heap.size KZ.out rfl t _ _ rfl rfl rfl rfl ?_;rw [HW1.out];refine Hid.out ?_))
 refine hid ?_
 have HA:=hid hA
 clear hA
 obtain ⟨-,-,-,k15,-,-,kl,-⟩:=T1.out.tskv
 go_wp2
 go_loopw [6] (fun cc wr=>∃ (k:Nat) (oA:Option Addr) (oc:Nat) (kA:Option Addr) (kc:Nat),k≤t.x.nw∧cc=.int .i64 k∧Hid (MkIn wr (keepsC X.mark X.blocks (t.x.c.writes.take k)).old (keepsC X.mark X.blocks (t.x.c.writes.take k)).kept oA no oc kA no kc)∧Hid (Bk wr w.heap.size 34 (cwA n no H { z with oA:=oA,oc:=oc,kA:=kA,kc:=kc }))∧Hid (Bk wr W0.heap.size 67 (tkA t))∧Hid (Bk wr (w.heap.size + 1) 34 cwZ)∧Hid (Below w.heap.size w wr)∧Hid (∀ G,G < w.heap.size + 3→MkOffs G no z oA kA)) (fun cc _=>t.x.nw - (intOf cc).toNat)
 case atStart=>exact ⟨0,z.oA,z.oc,z.kA,z.kc,Nat.zero_le _,rfl,m0,k0,T1,R1,B1,hid (fun G _ h1 h2=>⟨h1,h2⟩)⟩
 case round=>
  clear k15 kl
  obtain ⟨k,oA,oc,kA,kc,hk,rfl,HMK,HK,HTK,HR,HB,HO⟩:=hrel
  by_cases hlt:k < t.x.nw
  ·have d1:(k:Int) < (t.x.nw:Int):=by omega
   have d2:(k:Int) < (t.x.wc:Int):=by omega
   have hb3:w.heap.size + 3≤wr.heap.size:=by have:=HTK.out.lt;omega
   obtain ⟨x,hx⟩:∃ x,t.x.c.writes[k]? = some x:=⟨_,List.getElem?_eq_getElem (by rw [HWL.out];exact hlt)⟩
   obtain ⟨b2,off2,hwa,hbl,y0⟩:=(HWS.out.below HB.out).cellAt (j:=k) (by rw [HWL.out];exact hlt)
   rw [hx,Option.getD_some] at y0
   have HY:=hid (fun X' (hX:Below wr.heap.size wr X')=>(hX.cell (p:=⟨b2,off2 + k,none⟩) hbl).trans y0)
   have HBL:=hid hbl
   have HWA:=hid hwa
   have hkk:=hke.out
   obtain ⟨-,q2,-,-,-,-,ql,-⟩:=HTK.out.tskv
   clear hwa hbl y0
   go_wp2
   try simp only [List.append_eq,List.cons_append,List.nil_append]
   refine wp_region_saysK 10 (fun x y=>Below x.heap.size x y) (fun _ _ _ h k=>bnext h k) wr (below_drew1 wr) (by kernel_rfl) (by kernel_rfl) (by kernel_rfl) (by kernel_rfl) (by rfl) ?_
   simp only [List.take_succ_cons,List.take_zero,List.drop_succ_cons,List.drop_zero]
   refine wkI ?_ (fun u X' hX hd=>?_) ?_
   rotate_left
   ·obtain ⟨p0,-,-,-,pl,-⟩:=(HK.out.below hX).crew
    obtain ⟨-,q2,-,-,-,-,ql,-⟩:=(HTK.out.below hX).tskv
    rw [HWA.out] at q2
    have y1:=HY.out X' hX
    have hbz:b2 < X'.heap.size:=Nat.lt_of_lt_of_le HBL.out hX.size
    try simp at hd
    go_simp
    try rfl
   refine wkI (.agg (mkC z.on H.a1 H.a2 H.a3 H.a4 H.a5 H.a6 (.slice oA no oc) (.slice kA no kc))) (fun u X' hX hd=>?_) ?_
   ·have hl:=(show (loadVar 32 ⟨w.heap.size,4,none⟩).run Tryz.prog X'=.ok (.agg (mkC z.on H.a1 H.a2 H.a3 H.a4 H.a5 H.a6 (.slice oA no oc) (.slice kA no kc))) X' from run_loadVar_mid X' w.heap.size 4 32 _ _ (HK.out.below hX).cmark Tryz.underlying32 rfl infoMk9)
    try simp at hd
    refine op_load_at 32 (w.heap.size) (4) hl _ rfl ?_
    go_simp
   refine wkI ?_ (fun u X' hX hd=>?_) ?_
   rotate_left
   ·obtain ⟨p0,-,-,-,pl,-⟩:=(HK.out.below hX).crew
    obtain ⟨-,q2,-,-,-,-,ql,-⟩:=(HTK.out.below hX).tskv
    rw [HWA.out] at q2
    have y1:=HY.out X' hX
    have hbz:b2 < X'.heap.size:=Nat.lt_of_lt_of_le HBL.out hX.size
    try simp at hd
    go_simp
    try rfl
   refine wkI (.slice z.bA n z.bc) (fun u X' hX hd=>?_) ?_
   iterate 2
    ·obtain ⟨p0,-,-,-,pl,-⟩:=(HK.out.below hX).crew
     obtain ⟨-,q2,-,-,-,-,ql,-⟩:=(HTK.out.below hX).tskv
     rw [HWA.out] at q2
     have y1:=HY.out X' hX
     have hbz:b2 < X'.heap.size:=Nat.lt_of_lt_of_le HBL.out hX.size
     try simp at hd
     go_simp
     try rfl
    refine wkI ?_ (fun u X' hX hd=>?_) ?_
    rotate_left
   ·obtain ⟨p0,-,-,-,pl,-⟩:=(HK.out.below hX).crew
    obtain ⟨-,q2,-,-,-,-,ql,-⟩:=(HTK.out.below hX).tskv
    rw [HWA.out] at q2
    have y1:=HY.out X' hX
    have hbz:b2 < X'.heap.size:=Nat.lt_of_lt_of_le HBL.out hX.size
    try simp at hd
    go_simp
    try rfl
   refine wkI (.slice (some ⟨b2,off2,none⟩) t.x.nw t.x.wc) (fun u X' hX hd=>?_) ?_
   ·obtain ⟨p0,-,-,-,pl,-⟩:=(HK.out.below hX).crew
    obtain ⟨-,q2,-,-,-,-,ql,-⟩:=(HTK.out.below hX).tskv
    rw [HWA.out] at q2
    have y1:=HY.out X' hX
    have hbz:b2 < X'.heap.size:=Nat.lt_of_lt_of_le HBL.out hX.size
    try simp at hd
    go_simp
    try rfl
   refine wkI (.int .i64 (k:Int)) (fun u X' hX hd=>?_) ?_
   ·obtain ⟨p0,-,-,-,pl,-⟩:=(HK.out.below hX).crew
    obtain ⟨-,q2,-,-,-,-,ql,-⟩:=(HTK.out.below hX).tskv
    rw [HWA.out] at q2
    have y1:=HY.out X' hX
    have hbz:b2 < X'.heap.size:=Nat.lt_of_lt_of_le HBL.out hX.size
    try simp at hd
    go_simp
    try rfl
   refine wkI (.pointer (some ⟨b2,off2 + k,none⟩)) (fun u X' hX hd=>?_) ?_
   ·obtain ⟨p0,-,-,-,pl,-⟩:=(HK.out.below hX).crew
    obtain ⟨-,q2,-,-,-,-,ql,-⟩:=(HTK.out.below hX).tskv
    rw [HWA.out] at q2
    have y1:=HY.out X' hX
    have hbz:b2 < X'.heap.size:=Nat.lt_of_lt_of_le HBL.out hX.size
    try simp at hd
    go_simp
    try rfl
   refine walkK_is (.int .i64 x) (by first | exact gs0 rfl | exact gs1 rfl rfl rfl) (fun _=>Below.refl _ _) (fun u X' hX hd=>?_) ?_
   ·obtain ⟨p0,-,-,-,pl,-⟩:=(HK.out.below hX).crew
    obtain ⟨-,q2,-,-,-,-,ql,-⟩:=(HTK.out.below hX).tskv
    rw [HWA.out] at q2
    have y1:=HY.out X' hX
    have hbz:b2 < X'.heap.size:=Nat.lt_of_lt_of_le HBL.out hX.size
    try simp at hd
    go_simp
    try rfl
   refine walkK_last ?_
   intro u X' hX hsay
   have v1:=sayAll_put hsay 1 (.agg (mkC z.on H.a1 H.a2 H.a3 H.a4 H.a5 H.a6 (.slice oA no oc) (.slice kA no kc))) rfl
   have v3:=sayAll_put hsay 3 (.slice z.bA n z.bc) rfl
   have v9:=sayAll_put hsay 9 (.int .i64 x) rfl
   clear hsay
   simp only [putAll,Act.put,v1,v3,v9,List.setIfInBounds_toArray,List.set_cons_succ,List.set_cons_zero,Nat.zero_add,Nat.reduceAdd]
   have hk2:=hkk X' (bnext HB.out hX) k oA oc kA kc (HMK.out.below hX) x
   rw [keepsC_on,HON.out] at hk2
   rw [← keepsC_take X.mark X.blocks hx] at hk2
   unfold MkSay at hk2
   simp only [keepsC_on,HON.out] at hk2
   have HKE:=hid hk2
   have K4:=hid (HK.out.below hX)
   have T4:=hid (HTK.out.below hX)
   have R4:=hid (HR.out.below hX)
   have B4:=hid (bnext HB.out hX)
   have hz4:wr.heap.size≤X'.heap.size:=hX.size
   clear hX hk2 hx v1 v3 v9 hkk q2 ql
   go_wp2_with (first
    | (go_at_call 92;go_must ((with_reducible refine HKE.out.mono ?_);rintro e w5 ⟨oA',oc',kA',kc',rfl,hM1,hb1,ho1⟩;have M5:=hid hM1;have K5:=hid (K4.out.below hb1);have T5:=hid (T4.out.below hb1);have R5:=hid (R4.out.below hb1);have B5:=hid (bnext B4.out hb1);have O5:=hid ho1;clear hM1 hb1 ho1))
    | (with_reducible refine st_cmk w.heap.size K5.out z.on oA' oc' kA' kc' _ _ rfl rfl rfl rfl ?_))
   obtain ⟨W2,hW2⟩:∃ W,W=w5.setCells w.heap.size 4 (mkC z.on H.a1 H.a2 H.a3 H.a4 H.a5 H.a6 (.slice oA' no oc') (.slice kA' no kc')).toList:=⟨_,rfl⟩
   rw [← hW2]
   have K2:Hid (Bk W2 w.heap.size 34 (cwA n no H { z with oA:=oA',oc:=oc',kA:=kA',kc:=kc' })):=hid (by rw [hW2];exact K5.out.cM z.on oA' oc' kA' kc')
   have T2:Hid (Bk W2 W0.heap.size 67 (tkA t)):=hid (by rw [hW2];exact T5.out.setCells (by omega) _ _)
   have R2:Hid (Bk W2 (w.heap.size + 1) 34 cwZ):=hid (by rw [hW2];exact R5.out.setCells (by omega) _ _)
   have B2:Hid (Below w.heap.size w W2):=hid (by rw [hW2];exact below_setCells B5.out (Nat.le_refl _) _ _)
   have O2:Hid (∀ G,G < w.heap.size + 3→MkOffs G no z oA' kA'):=hid (fun G hG h1 h2=>O5.out G (by omega) (HO.out G hG h1 h2).1 (HO.out G hG h1 h2).2)
   have hoo:=O2.out w.heap.size (by omega) (H0.out.mark.so.off_ge (Nat.le_refl _)) (H0.out.mark.sk.off_ge (Nat.le_refl _))
   have M2:Hid (MkIn W2 (keepsC X.mark X.blocks (t.x.c.writes.take (k + 1))).old (keepsC X.mark X.blocks (t.x.c.writes.take (k + 1))).kept oA' no oc' kA' no kc'):=hid (by rw [hW2];exact M5.out.keep hoo.1 hoo.2 (OneOff.setCells w5 w.heap.size 4 _))
   clear hW2 hoo
   go_roundw
   case rel=>exact ⟨k + 1,oA',oc',kA',kc',by omega,by go_num,M2,K2,T2,R2,B2,O2⟩
   case measure=>simp [intOf];omega
  ·obtain rfl:t.x.nw=k:=by omega
   have hta:t.x.c.writes.take t.x.nw=t.x.c.writes:=List.take_of_length_le (Nat.le_of_eq HWL.out)
   rw [hta] at HMK
   have hb3:w.heap.size + 3≤wr.heap.size:=by have:=HTK.out.lt;omega
   obtain ⟨p0,-,-,-,pl,pf⟩:=HK.out.crew
   obtain ⟨q0,q2,-,-,q16,-,ql,-⟩:=HTK.out.tskv
   clear hlt hta hke
   go_wp2_with (first
    | (with_reducible refine ld_tcmd W0.heap.size HTK.out _ rfl rfl rfl ?_)
    | (go_at_call 50;go_must ((with_reducible refine (hst.out wr HB.out).mono ?_);rintro e w5 ⟨A1,c1,rfl,hE,hb1,hov⟩;have E5:=hid hE;have OV:=hid hov;have M5:=hid (HMK.out.below hb1);have K5:=hid (HK.out.below hb1);have T5:=hid (HTK.out.below hb1);have R5:=hid (HR.out.below hb1);have B5:=hid (bnext HB.out hb1);clear hE hov hb1 p0 pl pf q0 q2 q16 ql))
    | (with_reducible refine st_cell1 w.heap.size 0 13 K5.out rfl (by decide) _ (.slice A1 n c1) rfl infoSl1 _ _ rfl rfl rfl rfl ?_;refine Hid.out ?_))
   refine hid ?_
   obtain ⟨z1,hz1'⟩:∃ y,y=({ z with oA:=oA,oc:=oc,kA:=kA,kc:=kc,bA:=A1,bc:=c1 }:CwL):=⟨_,rfl⟩
   obtain ⟨W2,hW2⟩:∃ W,W=w5.setCell ⟨w.heap.size,0,none⟩ (.slice A1 n c1):=⟨_,rfl⟩
   rw [← hW2]
   have s1:=OneOff.setCell w5 w.heap.size 0 (.slice A1 n c1)
   rw [← hW2] at s1
   have K2:Hid (Bk W2 w.heap.size 34 (cwA n no H z1)):=hid (by rw [hW2,hz1'];exact K5.out.cB A1 c1)
   have T2:Hid (Bk W2 W0.heap.size 67 (tkA t)):=hid (by rw [hW2];exact T5.out.far (by show W0.heap.size≠w.heap.size;omega) _)
   have R2:Hid (Bk W2 (w.heap.size + 1) 34 cwZ):=hid (by rw [hW2];exact R5.out.far (by show w.heap.size + 1≠w.heap.size;omega) _)
   have b2:Below w.heap.size w W2:=by rw [hW2];exact B5.out.setCell (p:=⟨w.heap.size,0,none⟩) (Nat.le_refl _) _
   have B2:=hid b2
   have sl:(storeT X.blocks t.x.c t.own t.s).length=n:=by rw [store_length];exact H0.out.len
   have h1:=HO.out w.heap.size (by omega) (H0.out.mark.so.off_ge (Nat.le_refl _)) (H0.out.mark.sk.off_ge (Nat.le_refl _))
   have IS2:Hid (CwIs n no (storedX X t.tsk) W2 z1):=hid (by
    rw [hz1']
    exact ⟨sl,E5.out.keepOff sl (OV.out.off (by omega)) s1,store_good H0.out.e8 HT.out.eight (by
     have a1:t.x.c.reads.length=t.x.nr:=HT.out.cmd.lr
     have a2:=HT.out.own
     have a3:=HBN.out
     have a4:=HWL.out
     show t.own.length=t.x.c.reads.length + t.x.c.writes.length
     omega),H0.out.wt.below b2,H0.out.tk.below b2,H0.out.rs.below b2,by rw [← HON.out];exact keepsC_on _ _ _,M5.out.keep h1.1 h1.2 s1⟩)
   have O2:Hid (∀ G,G < w.heap.size + 3→CwOff G n no z→CwOff G n no z1):=hid (fun G hG q=>by
    rw [hz1']
    exact ⟨OV.out.off (by omega),q.t,q.r,(HO.out G hG q.o q.k).1,(HO.out G hG q.o q.k).2⟩)
   have hzt:z1.tl=z.tl:=by rw [hz1']
   have HXT:Hid ((storedX X t.tsk).tasks=X.tasks):=hid rfl
   have HXR:Hid ((storedX X t.tsk).results=X.results):=hid rfl
   generalize storedX X t.tsk=X1 at *
   clear hW2 hz1' s1 sl h1 b2 hzt
   have HLK:Hid (LkOwn 0 W2 z1.wA n z1.wc (lksW (whoP X.tasks) n)):=hid (by rw [← HXT.out];exact IS2.out.wt)
   obtain ⟨-,p1,-,-,pl,pf⟩:=K2.out.crew
   obtain ⟨q0,-,-,-,-,-,ql,-⟩:=T2.out.tskv
   go_wp2_with (first
    | (with_reducible refine ld_tcmd W0.heap.size T2.out _ rfl rfl rfl ?_)
    | (go_at_call 93;go_must ((with_reducible refine (rgiveO_who t.x.c t.x.ra t.x.nr t.x.rc t.x.wa t.x.nw t.x.wc t.x.aa t.x.na t.x.ac t.x.c.fuel t.x.ca t.x.nc t.x.cc z1.wA n z1.wc t.s (whoP X.tasks) W2 HLK.out HN.out HU.out HM.out.sets HWQ.out (HLC.out W2 B2.out)).mono ?_);rintro e w3 ⟨A3,c3,rfl,hL3,hb3⟩;have L3:=hid (hL3);have K3:=hid (K2.out.below hb3);have T3:=hid (T2.out.below hb3);have R3:=hid (R2.out.below hb3);have B3:=hid (bnext B2.out hb3);have IS3:=hid (IS2.out.below hb3);clear hL3 hb3 p1 pl pf q0 ql;obtain ⟨-,p1,-,-,pl,pf⟩:=K3.out.crew)))
   obtain ⟨W4,hW4⟩:∃ W,W=w3.setCell ⟨w.heap.size,1,none⟩ (.slice A3 n c3):=⟨_,rfl⟩
   rw [← hW4]
   have G3:=OneOff.setCell w3 w.heap.size 1 (.slice A3 n c3)
   rw [← hW4] at G3
   have K4:Hid (Bk W4 w.heap.size 34 (cwA n no H { z1 with wA:=A3,wc:=c3 })):=hid (by rw [hW4];exact K3.out.cW A3 c3)
   have T4:Hid (Bk W4 W0.heap.size 67 (tkA t)):=hid (by rw [hW4];exact T3.out.far (by show W0.heap.size≠w.heap.size;omega) _)
   have R4:Hid (Bk W4 (w.heap.size + 1) 34 cwZ):=hid (by rw [hW4];exact R3.out.far (by show (w.heap.size + 1)≠w.heap.size;omega) _)
   have B4:Hid (Below w.heap.size w W4):=hid (by rw [hW4];exact B3.out.setCell (p:=⟨w.heap.size,1,none⟩) (Nat.le_refl _) _)
   have L4:Hid (LkOwn 0 W4 A3 n c3 (lksW ((whoP X.tasks).filter fun x=>decide (x.1≠t.s)) n)):=hid (L3.out.turns G3.grown K3.out (by decide) (by decide))
   have IS4:Hid (CwIs n no X1 W4 z1):=hid (IS3.out.keep (O2.out w.heap.size (by omega) (H0.out.off_ge (Nat.le_refl _))) G3 K3.out (by decide) (by decide))
   have hrn:z1.rn≤z1.rc:=by have:=IS4.out.rs.sl.cap;rw [IS4.out.rs.len] at this;exact this
   clear hW4 G3 p1 pl pf
   have HRS:Hid (Sl W4 3 z1.rA z1.rn z1.rc (rslsW z1.rl)):=hid (by have:=IS4.out.rs.sl.1;rw [IS4.out.rs.len] at this;exact this)
   have hrz:z1.rn≤100000:=by have:=IS4.out.rs.lenR;rw [HXR.out] at this;have:=HMY.out;omega
   try simp only [List.append_eq,List.cons_append,List.nil_append]
   refine wp_region_saysK 8 (fun x y=>Below x.heap.size x y) (fun _ _ _ h k=>bnext h k) W4 (below_drew1 W4) (by kernel_rfl) (by kernel_rfl) (by kernel_rfl) (by kernel_rfl) (by rfl) ?_
   simp only [List.take_succ_cons,List.take_zero,List.drop_succ_cons,List.drop_zero]
   refine walkK_new (noneK W4.heap.size 51 3) (by first | exact gs0 rfl | exact gs1 rfl rfl rfl) (fun v x y hb h=>noneK_below v x y hb h) (fun u X' hX hd=>?_) ?_
   ·refine ⟨_,_,exec_noneR _ X' _ rfl,below_alloc1 _ _,_,rfl,World.ownsRow_lit X' #[] 0 hX.size (by decide) rfl⟩
   refine wkN ?_
   refine wkI ?_ (fun u X' hX hd=>?_) ?_
   rotate_left
   ·obtain ⟨-,-,-,p3,pl,-⟩:=(K4.out.below hX).crew
    obtain ⟨q0,-,-,-,-,-,ql,-⟩:=(T4.out.below hX).tskv
    try simp at hd
    go_simp
    try rfl
   refine wkI (.slice z1.rA z1.rn z1.rc) (fun u X' hX hd=>?_) ?_
   ·obtain ⟨-,-,-,p3,pl,-⟩:=(K4.out.below hX).crew
    obtain ⟨q0,-,-,-,-,-,ql,-⟩:=(T4.out.below hX).tskv
    try simp at hd
    go_simp
    try rfl
   refine walkK_new (listK W4.heap.size 51 3 z1.rn (rslsW z1.rl)) (by first | exact gs0 rfl | exact gs1 rfl rfl rfl) (fun v x y hb h=>listK_below v x y hb h) (fun u X' hX hd=>?_) ?_
   ·simp at hd
    obtain ⟨⟨g,hv,ho⟩,h2⟩:=hd
    obtain ⟨v',w',hrun,hbl,hli⟩:=run_append_noneK (P:=Tryz.prog) X' 29 _ W4.heap.size 51 i0 _ 3 40 Tryz.underlying29 hi0 hz0 hz1 hz2 rfl (by decide) hX.size g ho z1.rA z1.rn z1.rc (rslsW z1.rl) (HRS.out.below hX) (by unfold maxLen;omega) (by omega)
    exact ⟨v',w',exec_append _ X' _ _ _ _ rfl (by simp [look,findAt,hv]) (by simp [look,findAt,h2]) hrun,hbl,hli⟩
   refine wkN ?_
   refine wkI ?_ (fun u X' hX hd=>?_) ?_
   rotate_left
   ·obtain ⟨-,-,-,p3,pl,-⟩:=(K4.out.below hX).crew
    obtain ⟨q0,-,-,-,-,-,ql,-⟩:=(T4.out.below hX).tskv
    try simp at hd
    go_simp
    try rfl
   refine wkI (.int .i64 t.s) (fun u X' hX hd=>?_) ?_
   ·obtain ⟨-,-,-,p3,pl,-⟩:=(K4.out.below hX).crew
    obtain ⟨q0,-,-,-,-,-,ql,-⟩:=(T4.out.below hX).tskv
    try simp at hd
    go_simp
    try rfl
   refine wkI ?_ (fun u X' hX hd=>?_) ?_
   rotate_left
   ·obtain ⟨-,-,-,p3,pl,-⟩:=(K4.out.below hX).crew
    obtain ⟨q0,-,-,-,-,-,ql,-⟩:=(T4.out.below hX).tskv
    try simp at hd
    go_simp
    try rfl
   refine walkK_is (.agg (mC t.m.pc t.m.fuel (.slice t.sA t.sn t.sc) (rg t.m.regs 0) (rg t.m.regs 1) (rg t.m.regs 2) (rg t.m.regs 3) (.slice t.oA t.on t.oc) t.m.over t.m.told)) (by first | exact gs0 rfl | exact gs1 rfl rfl rfl) (fun _=>Below.refl _ _) (fun u X' hX hd=>?_) ?_
   ·have hl:=run_loadVar_mid X' W0.heap.size 6 64 _ _ (T4.out.below hX).tmac Tryz.underlying64 rfl infoMc
    try simp at hd
    refine op_load_at 64 (W0.heap.size) (6) hl _ rfl ?_
    go_simp
   refine walkK_last ?_
   intro u X' hX hsay
   have v3:=sayAll_get hsay (j:=3) (φ:=listK W4.heap.size 51 3 z1.rn (rslsW z1.rl)) rfl
   have v5:=sayAll_put hsay 5 (.int .i64 t.s) rfl
   have v7:=sayAll_put hsay 7 (.agg (mC t.m.pc t.m.fuel (.slice t.sA t.sn t.sc) (rg t.m.regs 0) (rg t.m.regs 1) (rg t.m.regs 2) (rg t.m.regs 3) (.slice t.oA t.on t.oc) t.m.over t.m.told)) rfl
   clear hsay
   have v3':∃ A c,u 3=.slice A z1.rn c∧X'.ownsRow W4.heap.size 51 3 (.slice A z1.rn c) z1.rn (rslsW z1.rl):=v3
   clear v3
   simp only [putAll,Act.put,v5,v7,List.setIfInBounds_toArray,List.set_cons_succ,List.set_cons_zero,Nat.zero_add,Nat.reduceAdd]
   obtain ⟨rA3,rc3,hr3,hown3⟩:=v3'
   simp only [hr3]
   have K5:=hid (K4.out.below hX)
   have T5:=hid (T4.out.below hX)
   have R5:=hid (R4.out.below hX)
   have B5:=hid (bnext B4.out hX)
   have L5:=hid (L4.out.below hX)
   have IS5:=hid (IS4.out.below hX)
   have RS5:=hid (HRS.out.below hX)
   have HX4:=hid hX
   clear hX hr3 v5 v7
   have OW5:=hid hown3
   clear hown3
   go_wp2_with (first
    | (go_at_call 51;go_must ((with_reducible refine (rtells_tk t.s t _ (HT.out.below B5.out)).mono ?_);rintro e w6 ⟨x6,rfl,hx6,hxi,hb6,hxo⟩;have XS:=hid hx6;have XI:=hid hxi;have XO:=hid hxo;have K6:=hid (K5.out.below hb6);have T6:=hid (T5.out.below hb6);have R6:=hid (R5.out.below hb6);have B6:=hid (bnext B5.out hb6);have L6:=hid (L5.out.below hb6);have IS6:=hid (IS5.out.below hb6);have RS6:=hid (RS5.out.below hb6);have OW6:=hid (own_below OW5.out hb6);have HB6:=hid hb6;have hs6:X'.heap.size≤w6.heap.size:=hb6.size;clear hx6 hxi hb6 hxo))
    | (at_builtin;go_must (refine wpList_append_own _ rfl (.tmp 57) (.tmp 63) _ rfl W4.heap.size 51 i0 _ 3 40 Tryz.underlying29 hi0 hz0 hz1 hz2 rfl (by decide) _ z1.rn (rslsW z1.rl) rfl (own_below OW6.out (below_alloc1 _ _)) ⟨w6.heap.size,0,none⟩ 1 1 (rslC x6) rfl rfl (Bk.news (Bk.new w6 51 (rslA x6)) rfl) (rslC_one x6) (by unfold maxLen;omega) (by omega) (by have:=HX4.out.size;simp;omega) ?_;intro v' w7 hown hg _;obtain ⟨A7,c7,rfl,hsl7⟩:=Sl.own hown;have OV7:Hid (overA (w.heap.size + 3) A7 (z1.rn + 1)):=hid ((own_over hown).lower (by have:=T4.out.lt;omega));have hb7:Below W4.heap.size W4 w7:=(bnext (bnext HX4.out HB6.out) (below_alloc1 w6 _)).grown hg (by have:=HX4.out.size;simp;omega) (fun k hk=>own_block_ge OW6.out hk);have SL7:=hid hsl7;have K7:=hid (K4.out.below hb7);have T7:=hid (T4.out.below hb7);have R7:=hid (R4.out.below hb7);have B7:=hid (bnext B4.out hb7);have L7:=hid (L4.out.below hb7);have IS7:=hid (IS4.out.below hb7);have XI7:Hid (x6.In w7):=hid (Sl.growOff (XI.out.below (below_alloc1 w6 _)) hg (fun k hk=>XO.out k (own_block_lt OW5.out hk) (HT.out.mac.ou.off_ge (by have h1:=own_block_ge OW5.out hk;have h2:=B4.out.size;omega))));clear hsl7 hb7 hown hg;obtain ⟨-,-,-,p3,pl,pf⟩:=K7.out.crew;have G8:=OneOff.setCell w7 w.heap.size 3 (.slice A7 (z1.rn + 1) c7);have IS8:=hid (IS7.out.keep (O2.out w.heap.size (by omega) (H0.out.off_ge (Nat.le_refl _))) G8 K7.out (by decide) (by decide));have L8:=hid (L7.out.turns G8.grown K7.out (by decide) (by decide));have K8:=hid (K7.out.cR A7 (z1.rn + 1) c7 (z1.rl ++ [x6]));have R8:=hid (R7.out.far (p:=⟨w.heap.size,3,none⟩) (by show (w.heap.size + 1)≠w.heap.size;omega) (.slice A7 (z1.rn + 1) c7));have B8:=hid (B7.out.setCell (p:=⟨w.heap.size,3,none⟩) (Nat.le_refl _) (.slice A7 (z1.rn + 1) c7));obtain ⟨-,-,s2,-,sl,-⟩:=K8.out.crew;have htk8:=IS8.out.tk;rw [HXT.out] at htk8;have hin1:i < z1.tn:=(by have:=htk8.lenL;have:=H0.out.tk.lenL;omega);have htn1:z1.tn≤1000:=(by have:=htk8.lenL;have:=H0.out.tk.lenL;omega);have HWI:=hid (rwithout_off X.tasks z1.tl z1.tA z1.tn z1.tc _ i htk8 hin1 htn1);have hs8:w.heap.size + 3≤(w7.setCell ⟨w.heap.size,3,none⟩ (.slice A7 (z1.rn + 1) c7)).heap.size:=(by have h1:=R7.out.lt;have h2:=T7.out.lt;have h3:(w7.setCell ⟨w.heap.size,3,none⟩ (.slice A7 (z1.rn + 1) c7)).heap.size=w7.heap.size:=(by simp [World.setCell]);omega);have HS8:=hid hs8;clear htk8 G8 hs8))
    | (go_at_call 94;go_must ((with_reducible refine HWI.out.mono ?_);rintro e w9 ⟨A9,c9,l9,rfl,hT9,hb9,ho9⟩;have TK9:=hid hT9;have O9:=hid ho9;have K9:=hid (K8.out.below hb9);have R9:=hid (R8.out.below hb9);have B9:=hid (bnext B8.out hb9);have L9:=hid (L8.out.below hb9);have IS9:=hid (IS8.out.below hb9);have HB9:=hid hb9;clear hT9 hb9 ho9 s2 sl p3 pl pf;obtain ⟨-,-,u2,-,ul,uf⟩:=K9.out.crew;have K10:=hid (K9.out.cT A9 (z1.tn - 1) c9 l9);have R10:=hid (R9.out.far (p:=⟨w.heap.size,2,none⟩) (by show (w.heap.size + 1)≠w.heap.size;omega) (.slice A9 (z1.tn - 1) c9))))
    | (with_reducible refine ld_cw w.heap.size K10.out _ rfl rfl rfl ?_)
    | (with_reducible refine st_cw (w.heap.size + 1) R10.out rfl n no H { z1 with wA:=A3,wc:=c3,rA:=A7,rn:=z1.rn + 1,rc:=c7,rl:=z1.rl ++ [x6],tA:=A9,tn:=z1.tn - 1,tc:=c9,tl:=l9 } _ _ rfl rfl rfl rfl ?_))
   have BF:Below w.heap.size w ((w9.setCell ⟨w.heap.size,2,none⟩ (.slice A9 (z1.tn - 1) c9)).setRow (w.heap.size + 1) (cwA n no H { z1 with wA:=A3,wc:=c3,rA:=A7,rn:=z1.rn + 1,rc:=c7,rl:=z1.rl ++ [x6],tA:=A9,tn:=z1.tn - 1,tc:=c9,tl:=l9 })):=below_row (B9.out.setCell (p:=⟨w.heap.size,2,none⟩) (Nat.le_refl _) _) (by omega) _
   have hqg:=O2.out w.heap.size (by omega) (H0.out.off_ge (Nat.le_refl _))
   have hqr:=O2.out (w.heap.size + 1) (by omega) (H0.out.off_ge (by omega))
   have g9:=OneOff.setCell w9 w.heap.size 2 (.slice A9 (z1.tn - 1) c9)
   have gF:=OneOff.setRow (w9.setCell ⟨w.heap.size,2,none⟩ (.slice A9 (z1.tn - 1) c9)) (w.heap.size + 1) (cwA n no H { z1 with wA:=A3,wc:=c3,rA:=A7,rn:=z1.rn + 1,rc:=c7,rl:=z1.rl ++ [x6],tA:=A9,tn:=z1.tn - 1,tc:=c9,tl:=l9 })
   have ISF:=(IS9.out.keep hqg g9 K9.out (by decide) (by decide)).keep hqr gF R10.out (by decide) (by decide)
   have LF:=(L9.out.turns g9.grown K9.out (by decide) (by decide)).turns gF.grown R10.out (by decide) (by decide)
   have hT:∀ G,G < w.heap.size + 3→CwOff G n no z→TkOffs G A9 (z1.tn - 1) l9:=fun G hG q=>O9.out G (Nat.lt_of_lt_of_le hG HS8.out) (O2.out G hG q).t
   have hR:∀ G,G < w.heap.size + 3→CwOff G n no z→RsOffs G A7 (z1.rn + 1) (z1.rl ++ [x6]):=fun G hG q=>⟨OV7.out.off hG,fun x hx=>by
    rcases List.mem_append.1 hx with hx | hx
    ·exact (O2.out G hG q).r.2 x hx
    ·rw [List.mem_singleton.1 hx]
     exact XO.out G (by have h1:=R5.out.lt;have h2:=T5.out.lt;omega) (q.t.2 t HTM.out).m.2.1⟩
   have qg:CwOff w.heap.size n no z:=H0.out.off_ge (Nat.le_refl _)
   have qr:CwOff (w.heap.size + 1) n no z:=H0.out.off_ge (by omega)
   have TKF:=(TK9.out.keep (hT _ (by omega) qg) g9).keep (hT _ (by omega) qr) gF
   have hrs:=IS7.out.rs
   have RS7:RsIs (X.results ++ [⟨t.s,t.m.told,t.m.out⟩]) w7 A7 (z1.rn + 1) c7 (z1.rl ++ [x6]):=by
    refine ⟨⟨?_,fun x hx=>?_⟩,by rw [List.length_append,hrs.len];rfl,by rw [List.map_append,hrs.says,HXR.out];exact congrArg (X.results ++ [·]) XS.out⟩
    ·rw [rslsW_append,rslsW_sing,List.length_append,hrs.len]
     exact SL7.out
    ·rcases List.mem_append.1 hx with hx | hx
     ·exact hrs.sl.2 x hx
     ·rw [List.mem_singleton.1 hx];exact XI7.out
   have RSF:=(((RS7.keep (hR _ (by omega) qg) (OneOff.setCell w7 w.heap.size 3 (.slice A7 (z1.rn + 1) c7))).below HB9.out).keep (hR _ (by omega) qg) g9).keep (hR _ (by omega) qr) gF
   have IS:CwIs n no { X1 with tasks:=withoutP X.tasks i,results:=X.results ++ [⟨t.s,t.m.told,t.m.out⟩] } _ { z1 with wA:=A3,wc:=c3,rA:=A7,rn:=z1.rn + 1,rc:=c7,rl:=z1.rl ++ [x6],tA:=A9,tn:=z1.tn - 1,tc:=c9,tl:=l9 }:=
    ⟨ISF.len,ISF.bl,ISF.e8,by
     show LkOwn 0 _ A3 n c3 (lksW (whoP (withoutP X.tasks i)) n)
     rw [HWO.out]
     exact LF,TKF,RSF,ISF.on,ISF.mark⟩
   exact bodyPost_ret (v:=.agg (cwA n no H { z1 with wA:=A3,wc:=c3,rA:=A7,rn:=z1.rn + 1,rc:=c7,rl:=z1.rl ++ [x6],tA:=A9,tn:=z1.tn - 1,tc:=c9,tl:=l9 })) (res_cw rfl _ _ (w.heap.size + 1) rfl (Bk.setRow R10.out _)) rfl ⟨_,rfl,IS,BF,fun G hG q=>⟨(O2.out G (by omega) q).b,hT G (by omega) q,hR G (by omega) q,(O2.out G (by omega) q).o,(O2.out G (by omega) q).k⟩⟩
theorem end_any (h:CwIs n no X w z) (ho:CrMin n X) (hi:i < X.tasks.length) (hn:n≤1000) (hno:no≤1000) (hbn:∀ t,t∈z.tl→t.tsk=tskAt X.tasks i→t.x.nr + t.x.nw=t.bn) :
  Calls Tryz.prog 47 #[.agg (cwA n no H z),.int .i64 (i:Int)] w (CwPost n no H (endC X (tskAt X.tasks i) i) z w):=by
 by_cases hv:(tskAt X.tasks i).m.told=0
 ·exact end_well n no H X z i w h ho hi hn hno hbn hv
 ·exact end_ill n no H X z i w h ho hi hn hv
end
end
section
open Go Go.RowKit
section
variable (n no:Nat) (H:Hd) (X:Crw) (z:CwL) (workers worker:Int) (w:World)
theorem rstep17_arg (h:CwIs n no X w z) (hfew:X.tasks.length≤900) (hin:¬ (0≤worker∧worker < workers)) :
  Calls Tryz.prog 15 #[.agg (cwA n no H z),.int .i64 workers,.int .i64 worker] w (CwErr n no H X z 1 w):=by
 obtain ⟨W0,hW0⟩:∃ W,W=(w.alloc (.cells (cwA n no H z) 34)).alloc (.cells cwZ 34):=⟨_,rfl⟩
 obtain ⟨b0,kb,kr⟩:=cwW_is n no H z w
 rw [← hW0] at b0 kb kr
 have HW:=hid hW0
 have B0:=hid b0
 have K0:=hid kb
 have R0:=hid kr
 have H0:=hid h
 have hs0:w.heap.size + 2≤W0.heap.size:=by rw [hW0,World.size_alloc,World.size_alloc];omega
 have hof:=hid (fun W (hW:Below w.heap.size w W)=>rof_is X.tasks z.tl z.tA z.tn z.tc W worker (H0.out.tk.below hW) (by have:=H0.out.tk.lenL;omega))
 obtain ⟨fo,hfo⟩:∃ r,r=idxP (wkP worker) X.tasks:=⟨_,rfl⟩
 rw [← hfo] at hof
 clear hfo
 clear h b0 kb kr hW0
 go_enter Tryz.func15,Tryz.ntmps15
 by_cases hk:worker < 0
 ·have d1:decide (worker < 0)=true:=decide_eq_true hk
  go_wp2_with (first
  | (go_at_call 40;rw [← HW.out];go_must ((with_reducible refine (hof.out _ B0.out).mono ?_);rintro e w2 ⟨rfl,hb2⟩;have B2:=hid (bnext B0.out hb2);have K2:=hid (K0.out.below hb2);have R2:=hid (R0.out.below hb2);clear hb2;obtain ⟨-,-,p2,-,pl,-⟩:=K2.out.crew))
  | (with_reducible refine ld_cw w.heap.size K2.out _ rfl rfl rfl ?_)
  | (with_reducible refine st_cw (w.heap.size + 1) R2.out rfl n no H z _ _ rfl rfl rfl rfl ?_))
  exact bodyPost_ret (v:=.tuple #[.agg (cwA n no H z),.int .i64 1]) (res2_cw rfl _ _ (w.heap.size + 1) _ rfl rfl (Bk.setRow R2.out _)) rfl ⟨z,rfl,H0.out.below (below_row B2.out (by omega) _),below_row B2.out (by omega) _,fun _ _ q=>q⟩
 ·have d1:decide (worker < 0)=false:=decide_eq_false hk
  have d2:decide (workers≤worker)=true:=decide_eq_true (by omega)
  go_wp2_with (first
  | (go_at_call 40;rw [← HW.out];go_must ((with_reducible refine (hof.out _ B0.out).mono ?_);rintro e w2 ⟨rfl,hb2⟩;have B2:=hid (bnext B0.out hb2);have K2:=hid (K0.out.below hb2);have R2:=hid (R0.out.below hb2);clear hb2;obtain ⟨-,-,p2,-,pl,-⟩:=K2.out.crew))
  | (with_reducible refine ld_cw w.heap.size K2.out _ rfl rfl rfl ?_)
  | (with_reducible refine st_cw (w.heap.size + 1) R2.out rfl n no H z _ _ rfl rfl rfl rfl ?_))
  exact bodyPost_ret (v:=.tuple #[.agg (cwA n no H z),.int .i64 1]) (res2_cw rfl _ _ (w.heap.size + 1) _ rfl rfl (Bk.setRow R2.out _)) rfl ⟨z,rfl,H0.out.below (below_row B2.out (by omega) _),below_row B2.out (by omega) _,fun _ _ q=>q⟩
theorem rstep17_none (h:CwIs n no X w z) (hfew:X.tasks.length≤900) (hin:0≤worker∧worker < workers) (ho:ofP X.tasks worker=none) :
  Calls Tryz.prog 15 #[.agg (cwA n no H z),.int .i64 workers,.int .i64 worker] w (CwErr n no H X z 16 w):=by
 obtain ⟨W0,hW0⟩:∃ W,W=(w.alloc (.cells (cwA n no H z) 34)).alloc (.cells cwZ 34):=⟨_,rfl⟩
 obtain ⟨b0,kb,kr⟩:=cwW_is n no H z w
 rw [← hW0] at b0 kb kr
 have HW:=hid hW0
 have B0:=hid b0
 have K0:=hid kb
 have R0:=hid kr
 have H0:=hid h
 have hs0:w.heap.size + 2≤W0.heap.size:=by rw [hW0,World.size_alloc,World.size_alloc];omega
 have hof:=hid (fun W (hW:Below w.heap.size w W)=>rof_is X.tasks z.tl z.tA z.tn z.tc W worker (H0.out.tk.below hW) (by have:=H0.out.tk.lenL;omega))
 rw [wk_none ho] at hof
 have d1:decide (worker < 0)=false:=decide_eq_false (by omega)
 have d2:decide (workers≤worker)=false:=decide_eq_false (by omega)
 have d3:decide ((-1:Int) < 0)=true:=by decide
 clear ho
 clear h b0 kb kr hW0
 go_enter Tryz.func15,Tryz.ntmps15
 go_wp2_with (first
  | (go_at_call 40;rw [← HW.out];go_must ((with_reducible refine (hof.out _ B0.out).mono ?_);rintro e w2 ⟨rfl,hb2⟩;have B2:=hid (bnext B0.out hb2);have K2:=hid (K0.out.below hb2);have R2:=hid (R0.out.below hb2);clear hb2;obtain ⟨-,-,p2,-,pl,-⟩:=K2.out.crew))
  | (with_reducible refine ld_cw w.heap.size K2.out _ rfl rfl rfl ?_)
  | (with_reducible refine st_cw (w.heap.size + 1) R2.out rfl n no H z _ _ rfl rfl rfl rfl ?_))
 exact bodyPost_ret (v:=.tuple #[.agg (cwA n no H z),.int .i64 16]) (res2_cw rfl _ _ (w.heap.size + 1) _ rfl rfl (Bk.setRow R2.out _)) rfl ⟨z,rfl,H0.out.below (below_row B2.out (by omega) _),below_row B2.out (by omega) _,fun _ _ q=>q⟩
theorem rstep17_over (h:CwIs n no X w z) (hk:CrOk n X) (hn:n≤1000) (hno:no≤1000) (hin:0≤worker∧worker < workers) (i:Nat) (ho:ofP X.tasks worker=some i) (hv:(goT (tskAt X.tasks i)).m.over=true) :
  Calls Tryz.prog 15 #[.agg (cwA n no H z),.int .i64 workers,.int .i64 worker] w (CwErr n no H (endC { X with tasks:=X.tasks.set i (goT (tskAt X.tasks i)) } (goT (tskAt X.tasks i)) i) z 0 w):=by
 obtain ⟨W0,hW0⟩:∃ W,W=(w.alloc (.cells (cwA n no H z) 34)).alloc (.cells cwZ 34):=⟨_,rfl⟩
 obtain ⟨b0,kb,kr⟩:=cwW_is n no H z w
 rw [← hW0] at b0 kb kr
 have HW:=hid hW0
 have B0:=hid b0
 have K0:=hid kb
 have R0:=hid kr
 have H0:=hid h
 have hs0:w.heap.size + 2≤W0.heap.size:=by rw [hW0,World.size_alloc,World.size_alloc];omega
 have hfew:=hk.few
 have hof:=hid (fun W (hW:Below w.heap.size w W)=>rof_is X.tasks z.tl z.tA z.tn z.tc W worker (H0.out.tk.below hW) (by have:=H0.out.tk.lenL;omega))
 rw [wk_some ho] at hof
 have d1:decide (worker < 0)=false:=decide_eq_false (by omega)
 have d2:decide (workers≤worker)=false:=decide_eq_false (by omega)
 obtain ⟨hi,hw0,hwi0⟩:=ofP_some ho
 obtain ⟨t,ht,hts,hint,hfe⟩:=tk_is h.tk hi
 have hmem:=List.mem_of_getElem? (tskAt_lt hi)
 have hmf:=hk.cmds (tskAt X.tasks i) hmem
 have hwk:=hk.work (tskAt X.tasks i) hmem (by omega)
 have hc0:(tskAt X.tasks i).cmd=t.x.c:=by rw [← hts];rfl
 rw [hc0] at hmf
 rw [← hts] at hwk
 obtain ⟨b,off,hA,hat⟩:=h.tk.sl.lies ht
 have HAT:=hid hat
 have hitn:i < z.tn:=by have:=h.tk.lenL;omega
 have hcap:z.tn≤z.tc:=by have:=h.tk.sl.cap;rw [h.tk.len] at this;exact this
 have htn9:z.tn≤900:=by have:=h.tk.lenL;have:=hk.few;omega
 have e1:(i:Int) < (z.tn:Int):=by omega
 have e2:(i:Int) < (z.tc:Int):=by omega
 have e3:decide ((i:Int) < 0)=false:=decide_eq_false (by omega)
 have HI:=hid hi
 have HA:=hid hA
 have HIN:=hid hint
 have HMF:=hid hmf
 have HWK:=hid hwk
 have HS:=hid hts
 have HTM:=hid (List.mem_of_getElem? ht)
 have HK:=hid hk
 have HAT0:=hid (tskAt_lt hi)
 have HN:=hid hn
 have HNO:=hid hno
 have hsp:=hid (fun W (hW:Below w.heap.size w W)=>rstep_tk t W (hint.below hW) (stepOk_of hmf.1 hwk))
 have hwi:=fun W (hW:Below w.heap.size w W)=>fun {u:TkL} (hu:u.In W) (hf:fewT u) (_:u.tsk=goT (tskAt X.tasks i))=>rwith_off X.tasks z.tl z.tA z.tn z.tc W i u (H0.out.tk.below hW) hitn (by omega) hu hf
 rw [hA] at hwi
 have HWI:=hid hwi
 have HWH:Hid (whoP (X.tasks.set i (goT (tskAt X.tasks i)))=whoP X.tasks):=hid (whoP_set (tskAt_lt hi) rfl rfl)
 obtain ⟨r,hr⟩:∃ r,r=stepM t.x.c t.m t.own:=⟨_,rfl⟩
 have HR:=hid hr
 have hov:r.1.over=true:=by rw [hr];rw [← hts] at hv;exact hv
 have hgo:({ t.tsk with m:=r.1,own:=r.2 }:Tsk)=goT (tskAt X.tasks i):=by rw [hr,← hts];rfl
 have HGO:=hid hgo
 have HOV:=hid hov
 clear ho hk hi hw0 hwi0 ht hts hint hfe hmem hmf hwk hc0 hA hat hcap hr hov hgo hv hn hno hwi
 clear h b0 kb kr hW0
 go_enter Tryz.func15,Tryz.ntmps15
 go_wp2_with (first
  | (go_at_call 40;rw [← HW.out];go_must ((with_reducible refine (hof.out _ B0.out).mono ?_);rintro e w2 ⟨rfl,hb2⟩;have B2:=hid (bnext B0.out hb2);have K2:=hid (K0.out.below hb2);have R2:=hid (R0.out.below hb2);clear hb2;obtain ⟨-,-,p2,-,pl,-⟩:=K2.out.crew;rw [HA.out] at p2;have hbl:=(HAT.out w2 B2.out).lt;have HR2:=hid (HAT.out w2 B2.out).all;have KZ:=hid (Bk.new w2 67 tkZ);obtain ⟨w3,hw3⟩:∃ w3,w3=(w2.alloc (.cells tkZ 67)).setRow w2.heap.size (tkA t):=⟨_,rfl⟩;have HW3:=hid hw3.symm;have b23:Below w2.heap.size w2 w3:=(by rw [hw3];exact below_row (below_alloc1 _ _) (Nat.le_refl _) _);have hs3:w2.heap.size < w3.heap.size:=(by rw [hw3];simp);have K3:Hid (Bk w3 w2.heap.size 67 (tkA t)):=hid (by rw [hw3];exact KZ.out.setRow _);have C3:=hid (K2.out.below b23);have R3:=hid (R2.out.below b23);have B3:=hid (bnext B2.out b23);have hs2:w.heap.size + 2≤w2.heap.size:=(by have:=R2.out.lt;omega);obtain ⟨-,-,-,-,k16,-,kl,-⟩:=K3.out.tskv;clear hw3 b23))
  | (with_reducible refine ld_tskm b (off + i * 18) HR2.out _ rfl rfl rfl ?_)
  | (with_reducible refine st_tsk w2.heap.size KZ.out rfl t _ _ rfl rfl rfl rfl ?_;rw [HW3.out])
  | (with_reducible refine ld_tcmd w2.heap.size K3.out _ rfl rfl rfl ?_)
  | (with_reducible refine ld_tmac w2.heap.size K3.out _ rfl rfl rfl ?_)
  | (go_at_call 46;go_must ((with_reducible refine (hsp.out _ B3.out).mono ?_);rintro e w4 ⟨sA,sn,sc,oA,on,oc,bA,bn,bc,rfl,hin4,hb4,ho4⟩;rw [← HR.out] at hin4 ⊢;have C4:=hid (C3.out.below hb4);have R4:=hid (R3.out.below hb4);have B4:=hid (bnext B3.out hb4);have K4:=hid (K3.out.below hb4);obtain ⟨w5,hw5⟩:∃ W,W=w4.setCells w2.heap.size 6 (mC r.1.pc r.1.fuel (.slice sA sn sc) (rg r.1.regs 0) (rg r.1.regs 1) (rg r.1.regs 2) (rg r.1.regs 3) (.slice oA on oc) r.1.over r.1.told).toList:=⟨_,rfl⟩;have HW5:=hid hw5;obtain ⟨t1,ht1⟩:∃ u,u=({ t with m:=r.1,own:=r.2,sA:=sA,sn:=sn,sc:=sc,oA:=oA,on:=on,oc:=oc,bA:=bA,bn:=bn,bc:=bc }:TkL):=⟨_,rfl⟩;have K5:Hid (Bk w5 w2.heap.size 67 (tkA { t with m:=r.1,sA:=sA,sn:=sn,sc:=sc,oA:=oA,on:=on,oc:=oc })):=hid (by rw [hw5];exact K4.out.tM r.1 sA sn sc oA on oc);have C5:Hid (Bk w5 w.heap.size 34 (cwA n no H z)):=hid (by rw [hw5];exact C4.out.setCells (by omega) _ _);have R5:Hid (Bk w5 (w.heap.size + 1) 34 cwZ):=hid (by rw [hw5];exact R4.out.setCells (by omega) _ _);have B5:Hid (Below w.heap.size w w5):=hid (by rw [hw5];exact below_setCells B4.out (by omega) _ _);have O1:Hid (∀ G,G < w3.heap.size→t.Off G→t1.Off G):=hid (fun G hG q=>by rw [ht1];exact ⟨q.x,ho4 G hG q.m⟩);have oT:t1.Off w2.heap.size:=O1.out _ hs3 (HIN.out.off_ge (by omega));have i1:t1.In w4:=(by rw [ht1];exact hin4);have I6:Hid (t1.In (w5.setCell ⟨w2.heap.size,16,none⟩ (.slice bA bn bc))):=hid (by rw [hw5];exact (i1.setCells oT _ _).setCell oT _ _);have K6:Hid (Bk (w5.setCell ⟨w2.heap.size,16,none⟩ (.slice bA bn bc)) w2.heap.size 67 (tkA t1)):=hid (by rw [ht1];exact K5.out.tO r.2 bA bn bc);have C6:=hid (C5.out.far (p:=⟨w2.heap.size,16,none⟩) (by show w.heap.size≠w2.heap.size;omega) (.slice bA bn bc));have R6:=hid (R5.out.far (p:=⟨w2.heap.size,16,none⟩) (by show w.heap.size + 1≠w2.heap.size;omega) (.slice bA bn bc));have B6:=hid (B5.out.setCell (p:=⟨w2.heap.size,16,none⟩) (by show w.heap.size≤w2.heap.size;omega) (.slice bA bn bc));have hz6:(w5.setCell ⟨w2.heap.size,16,none⟩ (.slice bA bn bc)).heap.size=w4.heap.size:=(by rw [hw5];simp [World.setCell,size_setCells]);have hs6:w3.heap.size≤(w5.setCell ⟨w2.heap.size,16,none⟩ (.slice bA bn bc)).heap.size:=(by have:=hb4.size;omega);have HS6:=hid hs6;have hq1:t1.tsk=goT (tskAt X.tasks i):=(by rw [ht1,← HGO.out];rfl);have HQ1:=hid hq1;have hq0:t1.tsk=goT t.tsk:=(by rw [hq1,HS.out]);obtain ⟨hfe1,hbn1⟩:=go_few HMF.out.1 HWK.out i1 hq0;have HFE1:=hid hfe1;have HBN1:=hid hbn1;have hov1:t1.m.over=true:=(by rw [ht1];exact HOV.out);have HOV1:=hid hov1;obtain ⟨-,-,-,-,k16,-,kl,kf⟩:=K5.out.tskv;obtain ⟨-,-,k14,-,-,-,kl6,-⟩:=K6.out.tskv;rw [hov1] at k14;obtain ⟨-,-,s2,-,sl,-⟩:=C6.out.crew;rw [HA.out] at s2;clear hin4 hb4 ho4 hw5 oT i1 hz6 hs6 hq1 hq0 hfe1 hbn1 hov1 ht1))
  | (with_reducible refine st_tmac w2.heap.size K4.out r.1 sA sn sc oA on oc _ _ rfl rfl rfl rfl ?_;rw [← HW5.out])
  | (with_reducible refine ld_tsk w2.heap.size K6.out _ rfl rfl rfl ?_)
  | (go_at_call 43;go_must ((with_reducible refine (HWI.out _ B6.out I6.out HFE1.out HQ1.out).mono ?_);rintro e w9 ⟨A9,c9,l9,rfl,hT9,hb9,ho9⟩;have T9:=hid hT9;have O9:=hid ho9;have B9:=hid (bnext B6.out hb9);have C9:=hid (C6.out.below hb9);have R9:=hid (R6.out.below hb9);have K9:=hid (K6.out.below hb9);have hz9:w3.heap.size≤w9.heap.size:=(by have:=hb9.size;have:=HS6.out;omega);have HZ9:=hid hz9;obtain ⟨-,-,u2,-,ul,uf⟩:=C9.out.crew;clear hT9 hb9 ho9 s2 sl k14 kl6 hz9;have C10:=hid (C9.out.cT A9 z.tn c9 l9);have R10:=hid (R9.out.far (p:=⟨w.heap.size,2,none⟩) (by show w.heap.size + 1≠w.heap.size;omega) (.slice A9 z.tn c9));have K10:=hid (K9.out.far (p:=⟨w.heap.size,2,none⟩) (by show w2.heap.size≠w.heap.size;omega) (.slice A9 z.tn c9));obtain ⟨-,-,k14,-,-,-,kl6,-⟩:=K10.out.tskv;rw [HOV1.out] at k14;have B10:=hid (B9.out.setCell (p:=⟨w.heap.size,2,none⟩) (Nat.le_refl _) (.slice A9 z.tn c9));have hP:∀ G,G < w2.heap.size→TkOffs G z.tA z.tn z.tl→t.Off G→TkOffs G A9 z.tn l9:=(fun G h2 q1 q2=>O9.out G (by have:=HS6.out;omega) ⟨by rw [← HA.out];exact q1,O1.out G (by omega) q2⟩);have hP0:∀ G,w.heap.size≤G→G < w2.heap.size→TkOffs G A9 z.tn l9:=(fun G h1 h2=>hP G h2 (H0.out.tk.off_ge h1) (HIN.out.off_ge h1));have TF:=T9.out.keep (hP0 w.heap.size (Nat.le_refl _) (by omega)) (OneOff.setCell w9 w.heap.size 2 (.slice A9 z.tn c9));rw [HQ1.out] at TF;have IS10:=hid (H0.out.withT B10.out TF HWH.out);have HP:=hid hP;have HP0:=hid hP0;have hlen:i < (X.tasks.set i (goT (tskAt X.tasks i))).length:=(by rw [List.length_set];exact HI.out);have hat:tskAt (X.tasks.set i (goT (tskAt X.tasks i))) i=goT (tskAt X.tasks i):=(by simp [tskAt,HI.out]);have hmin:CrMin n { X with tasks:=X.tasks.set i (goT (tskAt X.tasks i)) }:=⟨fun T hT=>(by rcases List.mem_or_eq_of_mem_set hT with q | q;exact HK.out.cmds T q;rw [q];exact (show MayBe (tskAt X.tasks i).cmd∧fitsT (tskAt X.tasks i).cmd n from HK.out.cmds _ (List.mem_of_getElem? HAT0.out))),(by show risesW (whoP (X.tasks.set i (goT (tskAt X.tasks i))));rw [HWH.out];exact HK.out.rise),(by show (X.tasks.set i (goT (tskAt X.tasks i))).length≤900;rw [List.length_set];exact HK.out.few),HK.out.many⟩;have hen:=end_any n no H { X with tasks:=X.tasks.set i (goT (tskAt X.tasks i)) } { z with tA:=A9,tn:=z.tn,tc:=c9,tl:=l9 } i _ IS10.out hmin hlen HN.out HNO.out (fun u hu he=>(go_few HMF.out.1 HWK.out (IS10.out.tk.sl.2 u hu) (by rw [he];show tskAt (X.tasks.set i (goT (tskAt X.tasks i))) i=_;rw [hat,HS.out])).2);have hat2:tskAt ({ X with tasks:=X.tasks.set i (goT (tskAt X.tasks i)) }:Crw).tasks i=goT (tskAt X.tasks i):=hat;rw [hat2] at hen;have HEN:=hid hen;clear hP hP0 TF hlen hat hmin hen hat2))
  | (with_reducible refine ld_cw w.heap.size C10.out _ rfl rfl rfl ?_)
  | (go_at_call 47;go_must ((with_reducible refine HEN.out.mono ?_);rintro e w11 ⟨z11,rfl,hz11,hb11,ho11⟩;have Z11:=hid hz11;have O11:=hid ho11;have B11:=hid (bnext B10.out hb11);have C11:=hid (C10.out.below hb11);have R11:=hid (R10.out.below hb11);clear hz11 hb11 ho11;have C12:Hid (Bk (w11.setRow w.heap.size (cwA n no H z11)) w.heap.size 34 (cwA n no H z11)):=hid (C11.out.setRow _);have R12:Hid (Bk (w11.setRow w.heap.size (cwA n no H z11)) (w.heap.size + 1) 34 cwZ):=hid (R11.out.farRow (by omega) _)))
  | (with_reducible refine st_cw w.heap.size C11.out rfl n no H z11 _ _ rfl rfl rfl rfl ?_)
  | (with_reducible refine ld_cw w.heap.size C12.out _ rfl rfl rfl ?_)
  | (with_reducible refine st_cw (w.heap.size + 1) R12.out rfl n no H z11 _ _ rfl rfl rfl rfl ?_))
 have BF:Below w.heap.size w ((w11.setRow w.heap.size (cwA n no H z11)).setRow (w.heap.size + 1) (cwA n no H z11)):=below_row (below_row B11.out (Nat.le_refl _) _) (by omega) _
 have hz10:w3.heap.size≤(w9.setCell ⟨w.heap.size,2,none⟩ (.slice A9 z.tn c9)).heap.size:=by have:=HZ9.out;simp [World.setCell];omega
 have hO:∀ G,w.heap.size≤G→G < w2.heap.size→CwOff G n no z11:=fun G h1 h2=>O11.out G (by omega) (by have q:=H0.out.off_ge h1;exact ⟨q.b,HP0.out G h1 h2,q.r,q.o,q.k⟩)
 have IS:=(Z11.out.keep (hO w.heap.size (Nat.le_refl _) (by omega)) (OneOff.setRow w11 w.heap.size (cwA n no H z11)) C11.out (by decide) (by decide)).keep (hO (w.heap.size + 1) (by omega) (by omega)) (OneOff.setRow _ (w.heap.size + 1) (cwA n no H z11)) R12.out (by decide) (by decide)
 exact bodyPost_ret (v:=.tuple #[.agg (cwA n no H z11),.int .i64 0]) (res2_cw rfl _ _ (w.heap.size + 1) _ rfl rfl (Bk.setRow R12.out _)) rfl ⟨_,rfl,IS,BF,fun G hG q=>O11.out G (by omega) ⟨q.b,HP.out G (by omega) q.t (q.t.2 t HTM.out),q.r,q.o,q.k⟩⟩
theorem rstep17_on (h:CwIs n no X w z) (hk:CrOk n X) (hn:n≤1000) (hno:no≤1000) (hin:0≤worker∧worker < workers) (i:Nat) (ho:ofP X.tasks worker=some i) (hv:(goT (tskAt X.tasks i)).m.over=false) :
  Calls Tryz.prog 15 #[.agg (cwA n no H z),.int .i64 workers,.int .i64 worker] w (CwErr n no H { X with tasks:=X.tasks.set i (goT (tskAt X.tasks i)) } z 0 w):=by
 obtain ⟨W0,hW0⟩:∃ W,W=(w.alloc (.cells (cwA n no H z) 34)).alloc (.cells cwZ 34):=⟨_,rfl⟩
 obtain ⟨b0,kb,kr⟩:=cwW_is n no H z w
 rw [← hW0] at b0 kb kr
 have HW:=hid hW0
 have B0:=hid b0
 have K0:=hid kb
 have R0:=hid kr
 have H0:=hid h
 have hs0:w.heap.size + 2≤W0.heap.size:=by rw [hW0,World.size_alloc,World.size_alloc];omega
 have hfew:=hk.few
 have hof:=hid (fun W (hW:Below w.heap.size w W)=>rof_is X.tasks z.tl z.tA z.tn z.tc W worker (H0.out.tk.below hW) (by have:=H0.out.tk.lenL;omega))
 rw [wk_some ho] at hof
 have d1:decide (worker < 0)=false:=decide_eq_false (by omega)
 have d2:decide (workers≤worker)=false:=decide_eq_false (by omega)
 obtain ⟨hi,hw0,hwi0⟩:=ofP_some ho
 obtain ⟨t,ht,hts,hint,hfe⟩:=tk_is h.tk hi
 have hmem:=List.mem_of_getElem? (tskAt_lt hi)
 have hmf:=hk.cmds (tskAt X.tasks i) hmem
 have hwk:=hk.work (tskAt X.tasks i) hmem (by omega)
 have hc0:(tskAt X.tasks i).cmd=t.x.c:=by rw [← hts];rfl
 rw [hc0] at hmf
 rw [← hts] at hwk
 obtain ⟨b,off,hA,hat⟩:=h.tk.sl.lies ht
 have HAT:=hid hat
 have hitn:i < z.tn:=by have:=h.tk.lenL;omega
 have hcap:z.tn≤z.tc:=by have:=h.tk.sl.cap;rw [h.tk.len] at this;exact this
 have htn9:z.tn≤900:=by have:=h.tk.lenL;have:=hk.few;omega
 have e1:(i:Int) < (z.tn:Int):=by omega
 have e2:(i:Int) < (z.tc:Int):=by omega
 have e3:decide ((i:Int) < 0)=false:=decide_eq_false (by omega)
 have HI:=hid hi
 have HA:=hid hA
 have HIN:=hid hint
 have HMF:=hid hmf
 have HWK:=hid hwk
 have HS:=hid hts
 have HTM:=hid (List.mem_of_getElem? ht)
 have HK:=hid hk
 have HAT0:=hid (tskAt_lt hi)
 have HN:=hid hn
 have HNO:=hid hno
 have hsp:=hid (fun W (hW:Below w.heap.size w W)=>rstep_tk t W (hint.below hW) (stepOk_of hmf.1 hwk))
 have hwi:=fun W (hW:Below w.heap.size w W)=>fun {u:TkL} (hu:u.In W) (hf:fewT u) (_:u.tsk=goT (tskAt X.tasks i))=>rwith_off X.tasks z.tl z.tA z.tn z.tc W i u (H0.out.tk.below hW) hitn (by omega) hu hf
 rw [hA] at hwi
 have HWI:=hid hwi
 have HWH:Hid (whoP (X.tasks.set i (goT (tskAt X.tasks i)))=whoP X.tasks):=hid (whoP_set (tskAt_lt hi) rfl rfl)
 obtain ⟨r,hr⟩:∃ r,r=stepM t.x.c t.m t.own:=⟨_,rfl⟩
 have HR:=hid hr
 have hov:r.1.over=false:=by rw [hr];rw [← hts] at hv;exact hv
 have hgo:({ t.tsk with m:=r.1,own:=r.2 }:Tsk)=goT (tskAt X.tasks i):=by rw [hr,← hts];rfl
 have HGO:=hid hgo
 have HOV:=hid hov
 clear ho hk hi hw0 hwi0 ht hts hint hfe hmem hmf hwk hc0 hA hat hcap hr hov hgo hv hn hno hwi
 clear h b0 kb kr hW0
 go_enter Tryz.func15,Tryz.ntmps15
 go_wp2_with (first
  | (go_at_call 40;rw [← HW.out];go_must ((with_reducible refine (hof.out _ B0.out).mono ?_);rintro e w2 ⟨rfl,hb2⟩;have B2:=hid (bnext B0.out hb2);have K2:=hid (K0.out.below hb2);have R2:=hid (R0.out.below hb2);clear hb2;obtain ⟨-,-,p2,-,pl,-⟩:=K2.out.crew;rw [HA.out] at p2;have hbl:=(HAT.out w2 B2.out).lt;have HR2:=hid (HAT.out w2 B2.out).all;have KZ:=hid (Bk.new w2 67 tkZ);obtain ⟨w3,hw3⟩:∃ w3,w3=(w2.alloc (.cells tkZ 67)).setRow w2.heap.size (tkA t):=⟨_,rfl⟩;have HW3:=hid hw3.symm;have b23:Below w2.heap.size w2 w3:=(by rw [hw3];exact below_row (below_alloc1 _ _) (Nat.le_refl _) _);have hs3:w2.heap.size < w3.heap.size:=(by rw [hw3];simp);have K3:Hid (Bk w3 w2.heap.size 67 (tkA t)):=hid (by rw [hw3];exact KZ.out.setRow _);have C3:=hid (K2.out.below b23);have R3:=hid (R2.out.below b23);have B3:=hid (bnext B2.out b23);have hs2:w.heap.size + 2≤w2.heap.size:=(by have:=R2.out.lt;omega);obtain ⟨-,-,-,-,k16,-,kl,-⟩:=K3.out.tskv;clear hw3 b23))
  | (with_reducible refine ld_tskm b (off + i * 18) HR2.out _ rfl rfl rfl ?_)
  | (with_reducible refine st_tsk w2.heap.size KZ.out rfl t _ _ rfl rfl rfl rfl ?_;rw [HW3.out])
  | (with_reducible refine ld_tcmd w2.heap.size K3.out _ rfl rfl rfl ?_)
  | (with_reducible refine ld_tmac w2.heap.size K3.out _ rfl rfl rfl ?_)
  | (go_at_call 46;go_must ((with_reducible refine (hsp.out _ B3.out).mono ?_);rintro e w4 ⟨sA,sn,sc,oA,on,oc,bA,bn,bc,rfl,hin4,hb4,ho4⟩;rw [← HR.out] at hin4 ⊢;have C4:=hid (C3.out.below hb4);have R4:=hid (R3.out.below hb4);have B4:=hid (bnext B3.out hb4);have K4:=hid (K3.out.below hb4);obtain ⟨w5,hw5⟩:∃ W,W=w4.setCells w2.heap.size 6 (mC r.1.pc r.1.fuel (.slice sA sn sc) (rg r.1.regs 0) (rg r.1.regs 1) (rg r.1.regs 2) (rg r.1.regs 3) (.slice oA on oc) r.1.over r.1.told).toList:=⟨_,rfl⟩;have HW5:=hid hw5;obtain ⟨t1,ht1⟩:∃ u,u=({ t with m:=r.1,own:=r.2,sA:=sA,sn:=sn,sc:=sc,oA:=oA,on:=on,oc:=oc,bA:=bA,bn:=bn,bc:=bc }:TkL):=⟨_,rfl⟩;have K5:Hid (Bk w5 w2.heap.size 67 (tkA { t with m:=r.1,sA:=sA,sn:=sn,sc:=sc,oA:=oA,on:=on,oc:=oc })):=hid (by rw [hw5];exact K4.out.tM r.1 sA sn sc oA on oc);have C5:Hid (Bk w5 w.heap.size 34 (cwA n no H z)):=hid (by rw [hw5];exact C4.out.setCells (by omega) _ _);have R5:Hid (Bk w5 (w.heap.size + 1) 34 cwZ):=hid (by rw [hw5];exact R4.out.setCells (by omega) _ _);have B5:Hid (Below w.heap.size w w5):=hid (by rw [hw5];exact below_setCells B4.out (by omega) _ _);have O1:Hid (∀ G,G < w3.heap.size→t.Off G→t1.Off G):=hid (fun G hG q=>by rw [ht1];exact ⟨q.x,ho4 G hG q.m⟩);have oT:t1.Off w2.heap.size:=O1.out _ hs3 (HIN.out.off_ge (by omega));have i1:t1.In w4:=(by rw [ht1];exact hin4);have I6:Hid (t1.In (w5.setCell ⟨w2.heap.size,16,none⟩ (.slice bA bn bc))):=hid (by rw [hw5];exact (i1.setCells oT _ _).setCell oT _ _);have K6:Hid (Bk (w5.setCell ⟨w2.heap.size,16,none⟩ (.slice bA bn bc)) w2.heap.size 67 (tkA t1)):=hid (by rw [ht1];exact K5.out.tO r.2 bA bn bc);have C6:=hid (C5.out.far (p:=⟨w2.heap.size,16,none⟩) (by show w.heap.size≠w2.heap.size;omega) (.slice bA bn bc));have R6:=hid (R5.out.far (p:=⟨w2.heap.size,16,none⟩) (by show w.heap.size + 1≠w2.heap.size;omega) (.slice bA bn bc));have B6:=hid (B5.out.setCell (p:=⟨w2.heap.size,16,none⟩) (by show w.heap.size≤w2.heap.size;omega) (.slice bA bn bc));have hz6:(w5.setCell ⟨w2.heap.size,16,none⟩ (.slice bA bn bc)).heap.size=w4.heap.size:=(by rw [hw5];simp [World.setCell,size_setCells]);have hs6:w3.heap.size≤(w5.setCell ⟨w2.heap.size,16,none⟩ (.slice bA bn bc)).heap.size:=(by have:=hb4.size;omega);have HS6:=hid hs6;have hq1:t1.tsk=goT (tskAt X.tasks i):=(by rw [ht1,← HGO.out];rfl);have HQ1:=hid hq1;have hq0:t1.tsk=goT t.tsk:=(by rw [hq1,HS.out]);obtain ⟨hfe1,hbn1⟩:=go_few HMF.out.1 HWK.out i1 hq0;have HFE1:=hid hfe1;have HBN1:=hid hbn1;have hov1:t1.m.over=false:=(by rw [ht1];exact HOV.out);have HOV1:=hid hov1;obtain ⟨-,-,-,-,k16,-,kl,kf⟩:=K5.out.tskv;obtain ⟨-,-,k14,-,-,-,kl6,-⟩:=K6.out.tskv;rw [hov1] at k14;obtain ⟨-,-,s2,-,sl,-⟩:=C6.out.crew;rw [HA.out] at s2;clear hin4 hb4 ho4 hw5 oT i1 hz6 hs6 hq1 hq0 hfe1 hbn1 hov1 ht1))
  | (with_reducible refine st_tmac w2.heap.size K4.out r.1 sA sn sc oA on oc _ _ rfl rfl rfl rfl ?_;rw [← HW5.out])
  | (with_reducible refine ld_tsk w2.heap.size K6.out _ rfl rfl rfl ?_)
  | (go_at_call 43;go_must ((with_reducible refine (HWI.out _ B6.out I6.out HFE1.out HQ1.out).mono ?_);rintro e w9 ⟨A9,c9,l9,rfl,hT9,hb9,ho9⟩;have T9:=hid hT9;have O9:=hid ho9;have B9:=hid (bnext B6.out hb9);have C9:=hid (C6.out.below hb9);have R9:=hid (R6.out.below hb9);have K9:=hid (K6.out.below hb9);have hz9:w3.heap.size≤w9.heap.size:=(by have:=hb9.size;have:=HS6.out;omega);have HZ9:=hid hz9;obtain ⟨-,-,u2,-,ul,uf⟩:=C9.out.crew;clear hT9 hb9 ho9 s2 sl k14 kl6 hz9;have C10:=hid (C9.out.cT A9 z.tn c9 l9);have R10:=hid (R9.out.far (p:=⟨w.heap.size,2,none⟩) (by show w.heap.size + 1≠w.heap.size;omega) (.slice A9 z.tn c9));have K10:=hid (K9.out.far (p:=⟨w.heap.size,2,none⟩) (by show w2.heap.size≠w.heap.size;omega) (.slice A9 z.tn c9));obtain ⟨-,-,k14,-,-,-,kl6,-⟩:=K10.out.tskv;rw [HOV1.out] at k14;have B10:=hid (B9.out.setCell (p:=⟨w.heap.size,2,none⟩) (Nat.le_refl _) (.slice A9 z.tn c9));have hP:∀ G,G < w2.heap.size→TkOffs G z.tA z.tn z.tl→t.Off G→TkOffs G A9 z.tn l9:=(fun G h2 q1 q2=>O9.out G (by have:=HS6.out;omega) ⟨by rw [← HA.out];exact q1,O1.out G (by omega) q2⟩);have hP0:∀ G,w.heap.size≤G→G < w2.heap.size→TkOffs G A9 z.tn l9:=(fun G h1 h2=>hP G h2 (H0.out.tk.off_ge h1) (HIN.out.off_ge h1));have TF:=T9.out.keep (hP0 w.heap.size (Nat.le_refl _) (by omega)) (OneOff.setCell w9 w.heap.size 2 (.slice A9 z.tn c9));rw [HQ1.out] at TF;have IS10:=hid (H0.out.withT B10.out TF HWH.out);have HP:=hid hP;have HP0:=hid hP0;clear hP hP0 TF))
  | (with_reducible refine ld_cw w.heap.size C10.out _ rfl rfl rfl ?_)
  | (with_reducible refine st_cw (w.heap.size + 1) R10.out rfl n no H { z with tA:=A9,tn:=z.tn,tc:=c9,tl:=l9 } _ _ rfl rfl rfl rfl ?_))
 have BF:Below w.heap.size w ((w9.setCell ⟨w.heap.size,2,none⟩ (.slice A9 z.tn c9)).setRow (w.heap.size + 1) (cwA n no H { z with tA:=A9,tn:=z.tn,tc:=c9,tl:=l9 })):=below_row B10.out (by omega) _
 have q1:=H0.out.off_ge (G:=w.heap.size + 1) (by omega)
 have IS:=IS10.out.keep ⟨q1.b,HP0.out (w.heap.size + 1) (by omega) (by omega),q1.r,q1.o,q1.k⟩ (OneOff.setRow _ (w.heap.size + 1) (cwA n no H { z with tA:=A9,tn:=z.tn,tc:=c9,tl:=l9 })) R10.out (by decide) (by decide)
 exact bodyPost_ret (v:=.tuple #[.agg (cwA n no H { z with tA:=A9,tn:=z.tn,tc:=c9,tl:=l9 }),.int .i64 0]) (res2_cw rfl _ _ (w.heap.size + 1) _ rfl rfl (Bk.setRow R10.out _)) rfl ⟨_,rfl,IS,BF,fun G hG q=>⟨q.b,HP.out G (by omega) q.t (q.t.2 t HTM.out),q.r,q.o,q.k⟩⟩
end
end
end Go.Proofs.YtpaocjpjlogkgaaGreat
