/-
  Words and contracts of this claim, 4 texts laid into one, each under its own remark. No conditions but those that stand at each.
-/
import Derived.Test.YtpaocjpjlogkgaaGreatQPooV
import Derived.Test.YtpaocjpjlogkgaaGreatZRowQ
import Derived.Test.YtpaocjpjlogkgaaGreatZLckX
import Derived.Test.YtpaocjpjlogkgaaGreatQRely
import Derived.Test.YtpaocjpjlogkgaaGreatQCrwF
import Derived.Test.YtpaocjpjlogkgaaGreatQCrwEn
namespace Go.Proofs.YtpaocjpjlogkgaaGreat
set_option maxRecDepth 100000
set_option maxHeartbeats 32000000
open Go
open Go.Lib (hid)
section
open Go Go.RowKit
attribute [local go_sem] look findAt
attribute [local simp] depsOf isV Region.binds
theorem clip_any (A:Option Addr) (n c:Nat) (w:World) (hc:n≤c):Calls Tryz.prog 84 #[.slice A n c] w fun e w'=>e=.returned (.slice A n n)∧w=w':=by
 go_enter Tryz.func84,Tryz.ntmps84
 go_wp2
 go_ret
 exact ⟨rfl,rfl⟩
section
variable (n no:Nat) (H:Hd) (X:Crw) (z:CwL) (i:Nat) (t:TkL) (w:World)
theorem done_well (T:Tsk) (h:CwIs n no X w z) (ho:CrOk n X) (hT:X.tasks[i]? = some T) (hsq:T.seq=t.s) (hcm:T.cmd=t.x.c) (ht:t.In w) (hm:MayBe t.x.c) (hf:fitsT t.x.c n) (hfe:fewT t) (hbn:t.x.nr + t.x.nw=t.bn) (hn:n≤1000) (hno:no≤1000) (h0:t.m.told=0) :
  Calls Tryz.prog 45 #[.agg (cwA n no H z),.int .i64 (i:Int),.agg (tkA t)] w (CwPost n no H (endC X t.tsk i) z w):=by
 obtain ⟨i0,hi0,hz0,hz1,hz2⟩:=infoRslZ
 obtain ⟨W0,hW0⟩:∃ W,W=((w.alloc (.cells (cwA n no H z) 34)).alloc (.cells (tkA t) 67)).alloc (.cells cwZ 34):=⟨_,rfl⟩
 have b0:Below w.heap.size w W0:=by rw [hW0];exact bnext (bnext (below_alloc1 _ _) (below_alloc1 _ _)) (below_alloc1 _ _)
 have kb:Bk W0 w.heap.size 34 (cwA n no H z):=by rw [hW0];exact ((Bk.new w _ _).alloc _).alloc _
 have kt:Bk W0 (w.heap.size + 1) 67 (tkA t):=by
  rw [hW0]
  have:=(Bk.new (w.alloc (.cells (cwA n no H z) 34)) 67 (tkA t)).alloc (.cells cwZ 34)
  rwa [World.size_alloc] at this
 have kr:Bk W0 (w.heap.size + 2) 34 cwZ:=by
  rw [hW0]
  have:=Bk.new ((w.alloc (.cells (cwA n no H z) 34)).alloc (.cells (tkA t) 67)) 34 cwZ
  rwa [World.size_alloc,World.size_alloc] at this
 have hs0:W0.heap.size=w.heap.size + 3:=by rw [hW0,World.size_alloc,World.size_alloc,World.size_alloc]
 have hlk:=CmL.lk ht.cmd hm hf
 have hlc:=hid (fun W (hW:Below w.heap.size w W)=>hlk.below hW)
 have HLC:=hlc
 have H0:=hid h
 have HT:=hid ht
 have HM:=hid hm
 have HN:=hid hn
 have HON:=hid hfe.o
 have HU:Hid ((whoP X.tasks).length≤1000):=hid (by rw [whoP_len];have:=ho.few;omega)
 have HMY:=hid ho.many
 have hit:i < X.tasks.length:=(List.getElem?_eq_some_iff.1 hT).1
 have hwq:∀ x∈whoP X.tasks,x.1=t.s→x.2=t.x.c:=fun x hx e=>by
  have:=rises_one ho.rise hx (whoP_mem (List.mem_of_getElem? hT)) (by rw [e];exact hsq.symm)
  rw [this]
  exact hcm
 have HWQ:=hid hwq
 have HWO:Hid (whoP (withoutP X.tasks i)=(whoP X.tasks).filter fun x=>decide (x.1≠t.s)):=hid (by rw [whoP_without ho.rise hT,hsq])
 have hin:i < z.tn:=by have:=h.tk.lenL;omega
 have htn:z.tn≤900:=by have:=h.tk.lenL;have:=ho.few;omega
 have HW:=hid hW0
 have B0:=hid b0
 have K0:=hid kb
 have T0:=hid kt
 have R0:=hid kr
 have HS0:=hid hs0
 have hsd:=hid (stored_any n no H X z t W0 (h.below b0) (ht.below b0) hm hf hfe hbn hn hno)
 have d0:((t.m.told:Int) == 0)=true:=by rw [h0];rfl
 have hend:endC X t.tsk i={ storedX X t.tsk with tasks:=withoutP X.tasks i,results:=X.results ++ [⟨t.s,t.m.told,t.m.out⟩] }:=by
  unfold endC storedX
  rw [if_pos (show t.tsk.m.told=0 from h0),if_pos (show t.tsk.m.told=0 from h0)]
  rfl
 rw [hend]
 have HXT:Hid ((storedX X t.tsk).tasks=X.tasks):=hid rfl
 have HXR:Hid ((storedX X t.tsk).results=X.results):=hid rfl
 generalize storedX X t.tsk=X1 at *
 clear h ho hT hsq hcm ht hm hf hfe hbn hn hno hW0 b0 kb kt kr hs0 hlk hlc hwq hit h0 hend
 go_enter Tryz.func45,Tryz.ntmps45
 go_wp2_with (first
  | (rw [← HW.out];with_reducible refine ld_cw w.heap.size K0.out _ rfl rfl rfl ?_)
  | (with_reducible refine ld_tsk (w.heap.size + 1) T0.out _ rfl rfl rfl ?_)
  | (go_at_call 82;go_must ((with_reducible refine hsd.out.mono ?_);rintro e w1 ⟨z1,rfl,hz1,hb1,ho1⟩;have Z1:=hid hz1;have K1:=hid (K0.out.below hb1);have T1:=hid (T0.out.below hb1);have R1:=hid (R0.out.below hb1);have B1:=hid (bnext B0.out hb1);have O1:=hid ho1;clear hz1 hb1 ho1))
  | (with_reducible refine st_cw w.heap.size K1.out rfl n no H z1 _ _ rfl rfl rfl rfl ?_;refine Hid.out ?_))
 refine hid ?_
 obtain ⟨W2,hW2⟩:∃ W,W=w1.setRow w.heap.size (cwA n no H z1):=⟨_,rfl⟩
 rw [← hW2]
 have O2:Hid (∀ G,G < w.heap.size + 3→CwOff G n no z→CwOff G n no z1):=hid (fun G hG=>O1.out G (by rw [HS0.out];exact hG))
 have IS2:Hid (CwIs n no X1 W2 z1):=hid (by rw [hW2];exact Z1.out.keep (O2.out w.heap.size (by omega) (H0.out.off_ge (Nat.le_refl _))) (OneOff.setRow w1 w.heap.size _) K1.out (by decide) (by decide))
 have K2:Hid (Bk W2 w.heap.size 34 (cwA n no H z1)):=hid (by rw [hW2];exact K1.out.setRow _)
 have T2:Hid (Bk W2 (w.heap.size + 1) 67 (tkA t)):=hid (by rw [hW2];exact T1.out.farRow (by omega) _)
 have R2:Hid (Bk W2 (w.heap.size + 2) 34 cwZ):=hid (by rw [hW2];exact R1.out.farRow (by omega) _)
 have B2:Hid (Below w.heap.size w W2):=hid (by rw [hW2];exact below_row B1.out (Nat.le_refl _) _)
 clear hW2
 have HLK:Hid (LkSl W2 z1.wA n z1.wc (lksW (whoP X.tasks) n)):=hid (by rw [← HXT.out];exact IS2.out.wt.sl)
 obtain ⟨-,p1,-,-,pl,pf⟩:=K2.out.crew
 obtain ⟨q0,-,-,-,-,-,ql,-⟩:=T2.out.tskv
 go_wp2_with (first
  | (with_reducible refine ld_tcmd (w.heap.size + 1) T2.out _ rfl rfl rfl ?_)
  | (go_at_call 83;go_must ((with_reducible refine (give_who t.x.c t.x.ra t.x.nr t.x.rc t.x.wa t.x.nw t.x.wc t.x.aa t.x.na t.x.ac t.x.c.fuel t.x.ca t.x.nc t.x.cc (whoP X.tasks) z1.wA n z1.wc t.s W2 HLK.out HN.out HU.out HM.out.sets HWQ.out (HLC.out W2 B2.out)).mono ?_);rintro e w3 ⟨A3,c3,rfl,hL3,hb3⟩;have L3:=hid (hL3.lower (Nat.zero_le _));have K3:=hid (K2.out.below hb3);have T3:=hid (T2.out.below hb3);have R3:=hid (R2.out.below hb3);have B3:=hid (bnext B2.out hb3);have IS3:=hid (IS2.out.below hb3);clear hL3 hb3 p1 pl pf q0 ql;obtain ⟨-,p1,-,-,pl,pf⟩:=K3.out.crew)))
 obtain ⟨W4,hW4⟩:∃ W,W=w3.setCell ⟨w.heap.size,1,none⟩ (.slice A3 n c3):=⟨_,rfl⟩
 rw [← hW4]
 have G3:=OneOff.setCell w3 w.heap.size 1 (.slice A3 n c3)
 rw [← hW4] at G3
 have K4:Hid (Bk W4 w.heap.size 34 (cwA n no H { z1 with wA:=A3,wc:=c3 })):=hid (by rw [hW4];exact K3.out.cW A3 c3)
 have T4:Hid (Bk W4 (w.heap.size + 1) 67 (tkA t)):=hid (by rw [hW4];exact T3.out.far (by show (w.heap.size + 1)≠w.heap.size;omega) _)
 have R4:Hid (Bk W4 (w.heap.size + 2) 34 cwZ):=hid (by rw [hW4];exact R3.out.far (by show (w.heap.size + 2)≠w.heap.size;omega) _)
 have B4:Hid (Below w.heap.size w W4):=hid (by rw [hW4];exact B3.out.setCell (p:=⟨w.heap.size,1,none⟩) (Nat.le_refl _) _)
 have L4:Hid (LkOwn 0 W4 A3 n c3 (lksW ((whoP X.tasks).filter fun x=>decide (x.1≠t.s)) n)):=hid (L3.out.turns G3.grown K3.out (by decide) (by decide))
 have IS4:Hid (CwIs n no X1 W4 z1):=hid (IS3.out.keep (O2.out w.heap.size (by omega) (H0.out.off_ge (Nat.le_refl _))) G3 K3.out (by decide) (by decide))
 have hrn:z1.rn≤z1.rc:=by have:=IS4.out.rs.sl.cap;rw [IS4.out.rs.len] at this;exact this
 clear hW4 G3 p1 pl pf
 have HRS:Hid (Sl W4 3 z1.rA z1.rn z1.rc (rslsW z1.rl)):=hid (by have:=IS4.out.rs.sl.1;rw [IS4.out.rs.len] at this;exact this)
 have hrz:z1.rn≤100000:=by have:=IS4.out.rs.lenR;rw [HXR.out] at this;have:=HMY.out;omega
 try simp only [List.append_eq,List.cons_append,List.nil_append]
 refine wp_region_saysK 7 (fun x y=>Below x.heap.size x y) (fun _ _ _ h k=>bnext h k) W4 (below_drew1 W4) (by kernel_rfl) (by kernel_rfl) (by kernel_rfl) (by kernel_rfl) (by rfl) ?_
 simp only [List.take_succ_cons,List.take_zero,List.drop_succ_cons,List.drop_zero]
 refine wkI ?_ (fun u X' hX hd=>?_) ?_
 rotate_left
 ·obtain ⟨-,-,-,p3,pl,-⟩:=(K4.out.below hX).crew
  obtain ⟨q0,-,-,-,-,-,ql,-⟩:=(T4.out.below hX).tskv
  try simp at hd
  go_simp
  try rfl
 refine wkI (.slice z1.rA z1.rn z1.rc) (fun u X' hX hd=>?_) ?_
 ·obtain ⟨-,-,-,p3,pl,-⟩:=(K4.out.below hX).crew
  obtain ⟨q0,-,-,-,-,-,ql,-⟩:=(T4.out.below hX).tskv
  try simp at hd
  go_simp
  try rfl
 refine walkK_call (isV (.slice z1.rA z1.rn z1.rn)) 84 ?_ (by first | exact gs0 rfl | exact gs1 rfl rfl rfl) (fun _ _ _ _ h=>h) (fun u X' hX hd=>?_) (fun X' hX=>?_) ?_
 rotate_left
 ·obtain ⟨-,-,-,p3,pl,-⟩:=(K4.out.below hX).crew
  obtain ⟨q0,-,-,-,-,-,ql,-⟩:=(T4.out.below hX).tskv
  try simp at hd
  go_simp
  try rfl
 ·exact ((clip_any z1.rA z1.rn z1.rc X' hrn).mono fun _ _ h=>And.intro h.1 (h.2 ▸ Below.refl _ _)).mono fun e X2 ⟨he,hb⟩=>⟨_,he,hb,rfl⟩
 refine wkN ?_
 refine wkI ?_ (fun u X' hX hd=>?_) ?_
 rotate_left
 ·obtain ⟨-,-,-,p3,pl,-⟩:=(K4.out.below hX).crew
  obtain ⟨q0,-,-,-,-,-,ql,-⟩:=(T4.out.below hX).tskv
  try simp at hd
  go_simp
  try rfl
 refine wkI (.int .i64 t.s) (fun u X' hX hd=>?_) ?_
 ·obtain ⟨-,-,-,p3,pl,-⟩:=(K4.out.below hX).crew
  obtain ⟨q0,-,-,-,-,-,ql,-⟩:=(T4.out.below hX).tskv
  try simp at hd
  go_simp
  try rfl
 refine wkI ?_ (fun u X' hX hd=>?_) ?_
 rotate_left
 ·obtain ⟨-,-,-,p3,pl,-⟩:=(K4.out.below hX).crew
  obtain ⟨q0,-,-,-,-,-,ql,-⟩:=(T4.out.below hX).tskv
  try simp at hd
  go_simp
  try rfl
 refine walkK_is (.agg (mC t.m.pc t.m.fuel (.slice t.sA t.sn t.sc) (rg t.m.regs 0) (rg t.m.regs 1) (rg t.m.regs 2) (rg t.m.regs 3) (.slice t.oA t.on t.oc) t.m.over t.m.told)) (by first | exact gs0 rfl | exact gs1 rfl rfl rfl) (fun _=>Below.refl _ _) (fun u X' hX hd=>?_) ?_
 ·have hl:=run_loadVar_mid X' (w.heap.size + 1) 6 64 _ _ (T4.out.below hX).tmac Tryz.underlying64 rfl infoMc
  try simp at hd
  refine op_load_at 64 ((w.heap.size + 1)) (6) hl _ rfl ?_
  go_simp
 refine walkK_last ?_
 intro u X' hX hsay
 have v2:=sayAll_put hsay 2 (.slice z1.rA z1.rn z1.rn) rfl
 have v4:=sayAll_put hsay 4 (.int .i64 t.s) rfl
 have v6:=sayAll_put hsay 6 (.agg (mC t.m.pc t.m.fuel (.slice t.sA t.sn t.sc) (rg t.m.regs 0) (rg t.m.regs 1) (rg t.m.regs 2) (rg t.m.regs 3) (.slice t.oA t.on t.oc) t.m.over t.m.told)) rfl
 clear hsay
 simp only [putAll,Act.put,v2,v4,v6,List.setIfInBounds_toArray,List.set_cons_succ,List.set_cons_zero,Nat.zero_add,Nat.reduceAdd]
 have K5:=hid (K4.out.below hX)
 have T5:=hid (T4.out.below hX)
 have R5:=hid (R4.out.below hX)
 have B5:=hid (bnext B4.out hX)
 have L5:=hid (L4.out.below hX)
 have IS5:=hid (IS4.out.below hX)
 have RS5:=hid (HRS.out.below hX)
 clear hX v2 v4 v6
 go_wp2_with (first
  | (go_at_call 85;go_must ((with_reducible refine (tells_tk t.s t _ (HT.out.below B5.out) HON.out).mono ?_);rintro e w6 ⟨x6,rfl,hx6,hxi,hb6,hxo⟩;have XS:=hid hx6;have XI:=hid hxi;have XO:=hid hxo;have K6:=hid (K5.out.below hb6);have T6:=hid (T5.out.below hb6);have R6:=hid (R5.out.below hb6);have B6:=hid (bnext B5.out hb6);have L6:=hid (L5.out.below hb6);have IS6:=hid (IS5.out.below hb6);have RS6:=hid (RS5.out.below hb6);have hs6:X'.heap.size≤w6.heap.size:=hb6.size;clear hx6 hxi hb6 hxo))
  | (at_builtin;go_must (refine append_full rfl (.tmp 24) (.tmp 30) _ rfl 51 i0 _ 3 40 Tryz.underlying29 hi0 hz0 hz1 hz2 rfl (by decide) z1.rA z1.rn (rslsW z1.rl) rfl ((RS6.out.below (below_alloc1 _ _)).full) ⟨w6.heap.size,0,none⟩ 1 1 (rslC x6) rfl (by decide) rfl (Bk.news (Bk.new w6 51 (rslA x6)) rfl) (rslC_one x6) (by unfold maxLen;omega) (by omega) ?_;intro v' w7 hown hg;obtain ⟨A7,c7,rfl,hsl7⟩:=Sl.own hown;have OV7:Hid (overA (w.heap.size + 3) A7 (z1.rn + 1)):=hid ((own_over hown).lower (by simp;have:=R6.out.lt;omega));have hb7:Below w6.heap.size w6 w7:=bnext (below_alloc1 w6 _) ((Below.refl _ _).grown hg (Nat.le_refl _) (fun k hk=>by cases hk));have SL7:=hid hsl7;have K7:=hid (K6.out.below hb7);have T7:=hid (T6.out.below hb7);have R7:=hid (R6.out.below hb7);have B7:=hid (bnext B6.out hb7);have L7:=hid (L6.out.below hb7);have IS7:=hid (IS6.out.below hb7);have XI7:=hid (XI.out.below hb7);clear hsl7 hb7 hown hg;obtain ⟨-,-,-,p3,pl,pf⟩:=K7.out.crew;have G8:=OneOff.setCell w7 w.heap.size 3 (.slice A7 (z1.rn + 1) c7);have IS8:=hid (IS7.out.keep (O2.out w.heap.size (by omega) (H0.out.off_ge (Nat.le_refl _))) G8 K7.out (by decide) (by decide));have L8:=hid (L7.out.turns G8.grown K7.out (by decide) (by decide));have K8:=hid (K7.out.cR A7 (z1.rn + 1) c7 (z1.rl ++ [x6]));have R8:=hid (R7.out.far (p:=⟨w.heap.size,3,none⟩) (by show (w.heap.size + 2)≠w.heap.size;omega) (.slice A7 (z1.rn + 1) c7));have B8:=hid (B7.out.setCell (p:=⟨w.heap.size,3,none⟩) (Nat.le_refl _) (.slice A7 (z1.rn + 1) c7));obtain ⟨-,-,s2,-,sl,-⟩:=K8.out.crew;have htk8:=IS8.out.tk;rw [HXT.out] at htk8;have hin1:i < z1.tn:=(by have:=htk8.lenL;have:=H0.out.tk.lenL;omega);have htn1:z1.tn≤1000:=(by have:=htk8.lenL;have:=H0.out.tk.lenL;omega);have HWI:=hid (pwithout_off X.tasks z1.tl z1.tA z1.tn z1.tc _ i htk8 hin1 htn1);have hs8:w.heap.size + 3≤(w7.setCell ⟨w.heap.size,3,none⟩ (.slice A7 (z1.rn + 1) c7)).heap.size:=(by have h1:=R7.out.lt;have h2:=T7.out.lt;have h3:(w7.setCell ⟨w.heap.size,3,none⟩ (.slice A7 (z1.rn + 1) c7)).heap.size=w7.heap.size:=(by simp [World.setCell]);omega);have HS8:=hid hs8;clear htk8 G8 hs8))
  | (go_at_call 86;go_must ((with_reducible refine HWI.out.mono ?_);rintro e w9 ⟨A9,c9,l9,rfl,hT9,hb9,ho9⟩;have TK9:=hid hT9;have O9:=hid ho9;have K9:=hid (K8.out.below hb9);have R9:=hid (R8.out.below hb9);have B9:=hid (bnext B8.out hb9);have L9:=hid (L8.out.below hb9);have IS9:=hid (IS8.out.below hb9);have HB9:=hid hb9;clear hT9 hb9 ho9 s2 sl p3 pl pf;obtain ⟨-,-,u2,-,ul,uf⟩:=K9.out.crew;have K10:=hid (K9.out.cT A9 (z1.tn - 1) c9 l9);have R10:=hid (R9.out.far (p:=⟨w.heap.size,2,none⟩) (by show (w.heap.size + 2)≠w.heap.size;omega) (.slice A9 (z1.tn - 1) c9))))
  | (with_reducible refine ld_cw w.heap.size K10.out _ rfl rfl rfl ?_)
  | (with_reducible refine st_cw (w.heap.size + 2) R10.out rfl n no H { z1 with wA:=A3,wc:=c3,rA:=A7,rn:=z1.rn + 1,rc:=c7,rl:=z1.rl ++ [x6],tA:=A9,tn:=z1.tn - 1,tc:=c9,tl:=l9 } _ _ rfl rfl rfl rfl ?_))
 have BF:Below w.heap.size w ((w9.setCell ⟨w.heap.size,2,none⟩ (.slice A9 (z1.tn - 1) c9)).setRow (w.heap.size + 2) (cwA n no H { z1 with wA:=A3,wc:=c3,rA:=A7,rn:=z1.rn + 1,rc:=c7,rl:=z1.rl ++ [x6],tA:=A9,tn:=z1.tn - 1,tc:=c9,tl:=l9 })):=below_row (B9.out.setCell (p:=⟨w.heap.size,2,none⟩) (Nat.le_refl _) _) (by omega) _
 have hqg:=O2.out w.heap.size (by omega) (H0.out.off_ge (Nat.le_refl _))
 have hqr:=O2.out (w.heap.size + 2) (by omega) (H0.out.off_ge (by omega))
 have g9:=OneOff.setCell w9 w.heap.size 2 (.slice A9 (z1.tn - 1) c9)
 have gF:=OneOff.setRow (w9.setCell ⟨w.heap.size,2,none⟩ (.slice A9 (z1.tn - 1) c9)) (w.heap.size + 2) (cwA n no H { z1 with wA:=A3,wc:=c3,rA:=A7,rn:=z1.rn + 1,rc:=c7,rl:=z1.rl ++ [x6],tA:=A9,tn:=z1.tn - 1,tc:=c9,tl:=l9 })
 have ISF:=(IS9.out.keep hqg g9 K9.out (by decide) (by decide)).keep hqr gF R10.out (by decide) (by decide)
 have LF:=(L9.out.turns g9.grown K9.out (by decide) (by decide)).turns gF.grown R10.out (by decide) (by decide)
 have hT:∀ G,G < w.heap.size + 3→CwOff G n no z→TkOffs G A9 (z1.tn - 1) l9:=fun G hG q=>O9.out G (Nat.lt_of_lt_of_le hG HS8.out) (O2.out G hG q).t
 have hR:∀ G,G < w.heap.size + 3→CwOff G n no z→RsOffs G A7 (z1.rn + 1) (z1.rl ++ [x6]):=fun G hG q=>⟨OV7.out.off hG,fun x hx=>by
  rcases List.mem_append.1 hx with hx | hx
  ·exact (O2.out G hG q).r.2 x hx
  ·rw [List.mem_singleton.1 hx]
   exact XO.out G (by have h1:=R5.out.lt;have h2:=T5.out.lt;omega) (fun h0=>absurd h0 (Nat.lt_irrefl 0))⟩
 have qg:CwOff w.heap.size n no z:=H0.out.off_ge (Nat.le_refl _)
 have qr:CwOff (w.heap.size + 2) n no z:=H0.out.off_ge (by omega)
 have TKF:=(TK9.out.keep (hT _ (by omega) qg) g9).keep (hT _ (by omega) qr) gF
 have hrs:=IS7.out.rs
 have RS7:RsIs (X.results ++ [⟨t.s,t.m.told,t.m.out⟩]) w7 A7 (z1.rn + 1) c7 (z1.rl ++ [x6]):=by
  refine ⟨⟨?_,fun x hx=>?_⟩,by rw [List.length_append,hrs.len];rfl,by rw [List.map_append,hrs.says,HXR.out];exact congrArg (X.results ++ [·]) XS.out⟩
  ·rw [rslsW_append,rslsW_sing,List.length_append,hrs.len]
   exact SL7.out
  ·rcases List.mem_append.1 hx with hx | hx
   ·exact hrs.sl.2 x hx
   ·rw [List.mem_singleton.1 hx];exact XI7.out
 have RSF:=(((RS7.keep (hR _ (by omega) qg) (OneOff.setCell w7 w.heap.size 3 (.slice A7 (z1.rn + 1) c7))).below HB9.out).keep (hR _ (by omega) qg) g9).keep (hR _ (by omega) qr) gF
 have IS:CwIs n no { X1 with tasks:=withoutP X.tasks i,results:=X.results ++ [⟨t.s,t.m.told,t.m.out⟩] } _ { z1 with wA:=A3,wc:=c3,rA:=A7,rn:=z1.rn + 1,rc:=c7,rl:=z1.rl ++ [x6],tA:=A9,tn:=z1.tn - 1,tc:=c9,tl:=l9 }:=
  ⟨ISF.len,ISF.bl,ISF.e8,by
   show LkOwn 0 _ A3 n c3 (lksW (whoP (withoutP X.tasks i)) n)
   rw [HWO.out]
   exact LF,TKF,RSF,ISF.on,ISF.mark⟩
 exact bodyPost_ret (v:=.agg (cwA n no H { z1 with wA:=A3,wc:=c3,rA:=A7,rn:=z1.rn + 1,rc:=c7,rl:=z1.rl ++ [x6],tA:=A9,tn:=z1.tn - 1,tc:=c9,tl:=l9 })) (res_cw rfl _ _ (w.heap.size + 2) rfl (Bk.setRow R10.out _)) rfl ⟨_,rfl,IS,BF,fun G hG q=>⟨(O2.out G (by omega) q).b,hT G (by omega) q,hR G (by omega) q,(O2.out G (by omega) q).o,(O2.out G (by omega) q).k⟩⟩
theorem done_ill (T:Tsk) (h:CwIs n no X w z) (ho:CrOk n X) (hT:X.tasks[i]? = some T) (hsq:T.seq=t.s) (hcm:T.cmd=t.x.c) (ht:t.In w) (hm:MayBe t.x.c) (hf:fitsT t.x.c n) (hfe:fewT t) (hn:n≤1000) (h0:t.m.told≠0) :
  Calls Tryz.prog 45 #[.agg (cwA n no H z),.int .i64 (i:Int),.agg (tkA t)] w (CwPost n no H (endC X t.tsk i) z w):=by
 obtain ⟨i0,hi0,hz0,hz1,hz2⟩:=infoRslZ
 obtain ⟨W0,hW0⟩:∃ W,W=((w.alloc (.cells (cwA n no H z) 34)).alloc (.cells (tkA t) 67)).alloc (.cells cwZ 34):=⟨_,rfl⟩
 have b0:Below w.heap.size w W0:=by rw [hW0];exact bnext (bnext (below_alloc1 _ _) (below_alloc1 _ _)) (below_alloc1 _ _)
 have kb:Bk W0 w.heap.size 34 (cwA n no H z):=by rw [hW0];exact ((Bk.new w _ _).alloc _).alloc _
 have kt:Bk W0 (w.heap.size + 1) 67 (tkA t):=by
  rw [hW0]
  have:=(Bk.new (w.alloc (.cells (cwA n no H z) 34)) 67 (tkA t)).alloc (.cells cwZ 34)
  rwa [World.size_alloc] at this
 have kr:Bk W0 (w.heap.size + 2) 34 cwZ:=by
  rw [hW0]
  have:=Bk.new ((w.alloc (.cells (cwA n no H z) 34)).alloc (.cells (tkA t) 67)) 34 cwZ
  rwa [World.size_alloc,World.size_alloc] at this
 have hs0:W0.heap.size=w.heap.size + 3:=by rw [hW0,World.size_alloc,World.size_alloc,World.size_alloc]
 have hlk:=CmL.lk ht.cmd hm hf
 have hlc:=hid (fun W (hW:Below w.heap.size w W)=>hlk.below hW)
 have HLC:=hlc
 have H0:=hid h
 have HT:=hid ht
 have HM:=hid hm
 have HN:=hid hn
 have HON:=hid hfe.o
 have HU:Hid ((whoP X.tasks).length≤1000):=hid (by rw [whoP_len];have:=ho.few;omega)
 have HMY:=hid ho.many
 have hit:i < X.tasks.length:=(List.getElem?_eq_some_iff.1 hT).1
 have hwq:∀ x∈whoP X.tasks,x.1=t.s→x.2=t.x.c:=fun x hx e=>by
  have:=rises_one ho.rise hx (whoP_mem (List.mem_of_getElem? hT)) (by rw [e];exact hsq.symm)
  rw [this]
  exact hcm
 have HWQ:=hid hwq
 have HWO:Hid (whoP (withoutP X.tasks i)=(whoP X.tasks).filter fun x=>decide (x.1≠t.s)):=hid (by rw [whoP_without ho.rise hT,hsq])
 have hin:i < z.tn:=by have:=h.tk.lenL;omega
 have htn:z.tn≤900:=by have:=h.tk.lenL;have:=ho.few;omega
 have HW:=hid hW0
 have B0:=hid b0
 have K0:=hid kb
 have T0:=hid kt
 have R0:=hid kr
 have HS0:=hid hs0
 have d0:((t.m.told:Int) == 0)=false:=beq_eq_false_iff_ne.2 (by omega)
 have hend:endC X t.tsk i={ X with tasks:=withoutP X.tasks i,results:=X.results ++ [⟨t.s,t.m.told,t.m.out⟩] }:=by
  unfold endC
  rw [if_neg (show ¬ t.tsk.m.told=0 from h0),if_neg (show ¬ t.tsk.m.told=0 from h0)]
  rfl
 rw [hend]
 obtain ⟨X1,hX1⟩:∃ Y,Y=X:=⟨_,rfl⟩
 have HXT:Hid (X1.tasks=X.tasks):=hid (by rw [hX1])
 have HXR:Hid (X1.results=X.results):=hid (by rw [hX1])
 have O2:Hid (∀ G,G < w.heap.size + 3→CwOff G n no z→CwOff G n no z):=hid (fun G _ q=>q)
 have IS2:Hid (CwIs n no X1 W0 z):=hid (by rw [hX1];exact h.below b0)
 have K2:Hid (Bk W0 w.heap.size 34 (cwA n no H z)):=hid kb
 have T2:=hid kt
 have R2:=hid kr
 have B2:=hid b0
 rw [show ({ X with tasks:=withoutP X.tasks i,results:=X.results ++ [⟨t.s,t.m.told,t.m.out⟩] }:Crw)={ X1 with tasks:=withoutP X.tasks i,results:=X.results ++ [⟨t.s,t.m.told,t.m.out⟩] } by rw [hX1]]
 clear h ho hT hsq hcm ht hm hf hfe hn hW0 b0 kb kt kr hs0 hlk hlc hwq hit h0 hend hX1
 go_enter Tryz.func45,Tryz.ntmps45
 have HLK:Hid (LkSl W0 z.wA n z.wc (lksW (whoP X.tasks) n)):=hid (by rw [← HXT.out];exact IS2.out.wt.sl)
 obtain ⟨-,p1,-,-,pl,pf⟩:=K2.out.crew
 obtain ⟨q0,-,-,-,-,-,ql,-⟩:=T2.out.tskv
 go_wp2_with (first
  | (rw [← HW.out];with_reducible refine ld_tcmd (w.heap.size + 1) T2.out _ rfl rfl rfl ?_)
  | (go_at_call 83;go_must ((with_reducible refine (give_who t.x.c t.x.ra t.x.nr t.x.rc t.x.wa t.x.nw t.x.wc t.x.aa t.x.na t.x.ac t.x.c.fuel t.x.ca t.x.nc t.x.cc (whoP X.tasks) z.wA n z.wc t.s W0 HLK.out HN.out HU.out HM.out.sets HWQ.out (HLC.out W0 B2.out)).mono ?_);rintro e w3 ⟨A3,c3,rfl,hL3,hb3⟩;have L3:=hid (hL3.lower (Nat.zero_le _));have K3:=hid (K2.out.below hb3);have T3:=hid (T2.out.below hb3);have R3:=hid (R2.out.below hb3);have B3:=hid (bnext B2.out hb3);have IS3:=hid (IS2.out.below hb3);clear hL3 hb3 p1 pl pf q0 ql;obtain ⟨-,p1,-,-,pl,pf⟩:=K3.out.crew)))
 obtain ⟨W4,hW4⟩:∃ W,W=w3.setCell ⟨w.heap.size,1,none⟩ (.slice A3 n c3):=⟨_,rfl⟩
 rw [← hW4]
 have G3:=OneOff.setCell w3 w.heap.size 1 (.slice A3 n c3)
 rw [← hW4] at G3
 have K4:Hid (Bk W4 w.heap.size 34 (cwA n no H { z with wA:=A3,wc:=c3 })):=hid (by rw [hW4];exact K3.out.cW A3 c3)
 have T4:Hid (Bk W4 (w.heap.size + 1) 67 (tkA t)):=hid (by rw [hW4];exact T3.out.far (by show (w.heap.size + 1)≠w.heap.size;omega) _)
 have R4:Hid (Bk W4 (w.heap.size + 2) 34 cwZ):=hid (by rw [hW4];exact R3.out.far (by show (w.heap.size + 2)≠w.heap.size;omega) _)
 have B4:Hid (Below w.heap.size w W4):=hid (by rw [hW4];exact B3.out.setCell (p:=⟨w.heap.size,1,none⟩) (Nat.le_refl _) _)
 have L4:Hid (LkOwn 0 W4 A3 n c3 (lksW ((whoP X.tasks).filter fun x=>decide (x.1≠t.s)) n)):=hid (L3.out.turns G3.grown K3.out (by decide) (by decide))
 have IS4:Hid (CwIs n no X1 W4 z):=hid (IS3.out.keep (O2.out w.heap.size (by omega) (H0.out.off_ge (Nat.le_refl _))) G3 K3.out (by decide) (by decide))
 have hrn:z.rn≤z.rc:=by have:=IS4.out.rs.sl.cap;rw [IS4.out.rs.len] at this;exact this
 clear hW4 G3 p1 pl pf
 have HRS:Hid (Sl W4 3 z.rA z.rn z.rc (rslsW z.rl)):=hid (by have:=IS4.out.rs.sl.1;rw [IS4.out.rs.len] at this;exact this)
 have hrz:z.rn≤100000:=by have:=IS4.out.rs.lenR;rw [HXR.out] at this;have:=HMY.out;omega
 try simp only [List.append_eq,List.cons_append,List.nil_append]
 refine wp_region_saysK 7 (fun x y=>Below x.heap.size x y) (fun _ _ _ h k=>bnext h k) W4 (below_drew1 W4) (by kernel_rfl) (by kernel_rfl) (by kernel_rfl) (by kernel_rfl) (by rfl) ?_
 simp only [List.take_succ_cons,List.take_zero,List.drop_succ_cons,List.drop_zero]
 refine wkI ?_ (fun u X' hX hd=>?_) ?_
 rotate_left
 ·obtain ⟨-,-,-,p3,pl,-⟩:=(K4.out.below hX).crew
  obtain ⟨q0,-,-,-,-,-,ql,-⟩:=(T4.out.below hX).tskv
  try simp at hd
  go_simp
  try rfl
 refine wkI (.slice z.rA z.rn z.rc) (fun u X' hX hd=>?_) ?_
 ·obtain ⟨-,-,-,p3,pl,-⟩:=(K4.out.below hX).crew
  obtain ⟨q0,-,-,-,-,-,ql,-⟩:=(T4.out.below hX).tskv
  try simp at hd
  go_simp
  try rfl
 refine walkK_call (isV (.slice z.rA z.rn z.rn)) 84 ?_ (by first | exact gs0 rfl | exact gs1 rfl rfl rfl) (fun _ _ _ _ h=>h) (fun u X' hX hd=>?_) (fun X' hX=>?_) ?_
 rotate_left
 ·obtain ⟨-,-,-,p3,pl,-⟩:=(K4.out.below hX).crew
  obtain ⟨q0,-,-,-,-,-,ql,-⟩:=(T4.out.below hX).tskv
  try simp at hd
  go_simp
  try rfl
 ·exact ((clip_any z.rA z.rn z.rc X' hrn).mono fun _ _ h=>And.intro h.1 (h.2 ▸ Below.refl _ _)).mono fun e X2 ⟨he,hb⟩=>⟨_,he,hb,rfl⟩
 refine wkN ?_
 refine wkI ?_ (fun u X' hX hd=>?_) ?_
 rotate_left
 ·obtain ⟨-,-,-,p3,pl,-⟩:=(K4.out.below hX).crew
  obtain ⟨q0,-,-,-,-,-,ql,-⟩:=(T4.out.below hX).tskv
  try simp at hd
  go_simp
  try rfl
 refine wkI (.int .i64 t.s) (fun u X' hX hd=>?_) ?_
 ·obtain ⟨-,-,-,p3,pl,-⟩:=(K4.out.below hX).crew
  obtain ⟨q0,-,-,-,-,-,ql,-⟩:=(T4.out.below hX).tskv
  try simp at hd
  go_simp
  try rfl
 refine wkI ?_ (fun u X' hX hd=>?_) ?_
 rotate_left
 ·obtain ⟨-,-,-,p3,pl,-⟩:=(K4.out.below hX).crew
  obtain ⟨q0,-,-,-,-,-,ql,-⟩:=(T4.out.below hX).tskv
  try simp at hd
  go_simp
  try rfl
 refine walkK_is (.agg (mC t.m.pc t.m.fuel (.slice t.sA t.sn t.sc) (rg t.m.regs 0) (rg t.m.regs 1) (rg t.m.regs 2) (rg t.m.regs 3) (.slice t.oA t.on t.oc) t.m.over t.m.told)) (by first | exact gs0 rfl | exact gs1 rfl rfl rfl) (fun _=>Below.refl _ _) (fun u X' hX hd=>?_) ?_
 ·have hl:=run_loadVar_mid X' (w.heap.size + 1) 6 64 _ _ (T4.out.below hX).tmac Tryz.underlying64 rfl infoMc
  try simp at hd
  refine op_load_at 64 ((w.heap.size + 1)) (6) hl _ rfl ?_
  go_simp
 refine walkK_last ?_
 intro u X' hX hsay
 have v2:=sayAll_put hsay 2 (.slice z.rA z.rn z.rn) rfl
 have v4:=sayAll_put hsay 4 (.int .i64 t.s) rfl
 have v6:=sayAll_put hsay 6 (.agg (mC t.m.pc t.m.fuel (.slice t.sA t.sn t.sc) (rg t.m.regs 0) (rg t.m.regs 1) (rg t.m.regs 2) (rg t.m.regs 3) (.slice t.oA t.on t.oc) t.m.over t.m.told)) rfl
 clear hsay
 simp only [putAll,Act.put,v2,v4,v6,List.setIfInBounds_toArray,List.set_cons_succ,List.set_cons_zero,Nat.zero_add,Nat.reduceAdd]
 have K5:=hid (K4.out.below hX)
 have T5:=hid (T4.out.below hX)
 have R5:=hid (R4.out.below hX)
 have B5:=hid (bnext B4.out hX)
 have L5:=hid (L4.out.below hX)
 have IS5:=hid (IS4.out.below hX)
 have RS5:=hid (HRS.out.below hX)
 clear hX v2 v4 v6
 go_wp2_with (first
  | (go_at_call 85;go_must ((with_reducible refine (tells_tk t.s t _ (HT.out.below B5.out) HON.out).mono ?_);rintro e w6 ⟨x6,rfl,hx6,hxi,hb6,hxo⟩;have XS:=hid hx6;have XI:=hid hxi;have XO:=hid hxo;have K6:=hid (K5.out.below hb6);have T6:=hid (T5.out.below hb6);have R6:=hid (R5.out.below hb6);have B6:=hid (bnext B5.out hb6);have L6:=hid (L5.out.below hb6);have IS6:=hid (IS5.out.below hb6);have RS6:=hid (RS5.out.below hb6);have hs6:X'.heap.size≤w6.heap.size:=hb6.size;clear hx6 hxi hb6 hxo))
  | (at_builtin;go_must (refine append_full rfl (.tmp 24) (.tmp 30) _ rfl 51 i0 _ 3 40 Tryz.underlying29 hi0 hz0 hz1 hz2 rfl (by decide) z.rA z.rn (rslsW z.rl) rfl ((RS6.out.below (below_alloc1 _ _)).full) ⟨w6.heap.size,0,none⟩ 1 1 (rslC x6) rfl (by decide) rfl (Bk.news (Bk.new w6 51 (rslA x6)) rfl) (rslC_one x6) (by unfold maxLen;omega) (by omega) ?_;intro v' w7 hown hg;obtain ⟨A7,c7,rfl,hsl7⟩:=Sl.own hown;have OV7:Hid (overA (w.heap.size + 3) A7 (z.rn + 1)):=hid ((own_over hown).lower (by simp;have:=R6.out.lt;omega));have hb7:Below w6.heap.size w6 w7:=bnext (below_alloc1 w6 _) ((Below.refl _ _).grown hg (Nat.le_refl _) (fun k hk=>by cases hk));have SL7:=hid hsl7;have K7:=hid (K6.out.below hb7);have T7:=hid (T6.out.below hb7);have R7:=hid (R6.out.below hb7);have B7:=hid (bnext B6.out hb7);have L7:=hid (L6.out.below hb7);have IS7:=hid (IS6.out.below hb7);have XI7:=hid (XI.out.below hb7);clear hsl7 hb7 hown hg;obtain ⟨-,-,-,p3,pl,pf⟩:=K7.out.crew;have G8:=OneOff.setCell w7 w.heap.size 3 (.slice A7 (z.rn + 1) c7);have IS8:=hid (IS7.out.keep (O2.out w.heap.size (by omega) (H0.out.off_ge (Nat.le_refl _))) G8 K7.out (by decide) (by decide));have L8:=hid (L7.out.turns G8.grown K7.out (by decide) (by decide));have K8:=hid (K7.out.cR A7 (z.rn + 1) c7 (z.rl ++ [x6]));have R8:=hid (R7.out.far (p:=⟨w.heap.size,3,none⟩) (by show (w.heap.size + 2)≠w.heap.size;omega) (.slice A7 (z.rn + 1) c7));have B8:=hid (B7.out.setCell (p:=⟨w.heap.size,3,none⟩) (Nat.le_refl _) (.slice A7 (z.rn + 1) c7));obtain ⟨-,-,s2,-,sl,-⟩:=K8.out.crew;have htk8:=IS8.out.tk;rw [HXT.out] at htk8;have hin1:i < z.tn:=(by have:=htk8.lenL;have:=H0.out.tk.lenL;omega);have htn1:z.tn≤1000:=(by have:=htk8.lenL;have:=H0.out.tk.lenL;omega);have HWI:=hid (pwithout_off X.tasks z.tl z.tA z.tn z.tc _ i htk8 hin1 htn1);have hs8:w.heap.size + 3≤(w7.setCell ⟨w.heap.size,3,none⟩ (.slice A7 (z.rn + 1) c7)).heap.size:=(by have h1:=R7.out.lt;have h2:=T7.out.lt;have h3:(w7.setCell ⟨w.heap.size,3,none⟩ (.slice A7 (z.rn + 1) c7)).heap.size=w7.heap.size:=(by simp [World.setCell]);omega);have HS8:=hid hs8;clear htk8 G8 hs8))
  | (go_at_call 86;go_must ((with_reducible refine HWI.out.mono ?_);rintro e w9 ⟨A9,c9,l9,rfl,hT9,hb9,ho9⟩;have TK9:=hid hT9;have O9:=hid ho9;have K9:=hid (K8.out.below hb9);have R9:=hid (R8.out.below hb9);have B9:=hid (bnext B8.out hb9);have L9:=hid (L8.out.below hb9);have IS9:=hid (IS8.out.below hb9);have HB9:=hid hb9;clear hT9 hb9 ho9 s2 sl p3 pl pf;obtain ⟨-,-,u2,-,ul,uf⟩:=K9.out.crew;have K10:=hid (K9.out.cT A9 (z.tn - 1) c9 l9);have R10:=hid (R9.out.far (p:=⟨w.heap.size,2,none⟩) (by show (w.heap.size + 2)≠w.heap.size;omega) (.slice A9 (z.tn - 1) c9))))
  | (with_reducible refine ld_cw w.heap.size K10.out _ rfl rfl rfl ?_)
  | (with_reducible refine st_cw (w.heap.size + 2) R10.out rfl n no H { z with wA:=A3,wc:=c3,rA:=A7,rn:=z.rn + 1,rc:=c7,rl:=z.rl ++ [x6],tA:=A9,tn:=z.tn - 1,tc:=c9,tl:=l9 } _ _ rfl rfl rfl rfl ?_))
 have BF:Below w.heap.size w ((w9.setCell ⟨w.heap.size,2,none⟩ (.slice A9 (z.tn - 1) c9)).setRow (w.heap.size + 2) (cwA n no H { z with wA:=A3,wc:=c3,rA:=A7,rn:=z.rn + 1,rc:=c7,rl:=z.rl ++ [x6],tA:=A9,tn:=z.tn - 1,tc:=c9,tl:=l9 })):=below_row (B9.out.setCell (p:=⟨w.heap.size,2,none⟩) (Nat.le_refl _) _) (by omega) _
 have hqg:=O2.out w.heap.size (by omega) (H0.out.off_ge (Nat.le_refl _))
 have hqr:=O2.out (w.heap.size + 2) (by omega) (H0.out.off_ge (by omega))
 have g9:=OneOff.setCell w9 w.heap.size 2 (.slice A9 (z.tn - 1) c9)
 have gF:=OneOff.setRow (w9.setCell ⟨w.heap.size,2,none⟩ (.slice A9 (z.tn - 1) c9)) (w.heap.size + 2) (cwA n no H { z with wA:=A3,wc:=c3,rA:=A7,rn:=z.rn + 1,rc:=c7,rl:=z.rl ++ [x6],tA:=A9,tn:=z.tn - 1,tc:=c9,tl:=l9 })
 have ISF:=(IS9.out.keep hqg g9 K9.out (by decide) (by decide)).keep hqr gF R10.out (by decide) (by decide)
 have LF:=(L9.out.turns g9.grown K9.out (by decide) (by decide)).turns gF.grown R10.out (by decide) (by decide)
 have hT:∀ G,G < w.heap.size + 3→CwOff G n no z→TkOffs G A9 (z.tn - 1) l9:=fun G hG q=>O9.out G (Nat.lt_of_lt_of_le hG HS8.out) (O2.out G hG q).t
 have hR:∀ G,G < w.heap.size + 3→CwOff G n no z→RsOffs G A7 (z.rn + 1) (z.rl ++ [x6]):=fun G hG q=>⟨OV7.out.off hG,fun x hx=>by
  rcases List.mem_append.1 hx with hx | hx
  ·exact (O2.out G hG q).r.2 x hx
  ·rw [List.mem_singleton.1 hx]
   exact XO.out G (by have h1:=R5.out.lt;have h2:=T5.out.lt;omega) (fun h0=>absurd h0 (Nat.lt_irrefl 0))⟩
 have qg:CwOff w.heap.size n no z:=H0.out.off_ge (Nat.le_refl _)
 have qr:CwOff (w.heap.size + 2) n no z:=H0.out.off_ge (by omega)
 have TKF:=(TK9.out.keep (hT _ (by omega) qg) g9).keep (hT _ (by omega) qr) gF
 have hrs:=IS7.out.rs
 have RS7:RsIs (X.results ++ [⟨t.s,t.m.told,t.m.out⟩]) w7 A7 (z.rn + 1) c7 (z.rl ++ [x6]):=by
  refine ⟨⟨?_,fun x hx=>?_⟩,by rw [List.length_append,hrs.len];rfl,by rw [List.map_append,hrs.says,HXR.out];exact congrArg (X.results ++ [·]) XS.out⟩
  ·rw [rslsW_append,rslsW_sing,List.length_append,hrs.len]
   exact SL7.out
  ·rcases List.mem_append.1 hx with hx | hx
   ·exact hrs.sl.2 x hx
   ·rw [List.mem_singleton.1 hx];exact XI7.out
 have RSF:=(((RS7.keep (hR _ (by omega) qg) (OneOff.setCell w7 w.heap.size 3 (.slice A7 (z.rn + 1) c7))).below HB9.out).keep (hR _ (by omega) qg) g9).keep (hR _ (by omega) qr) gF
 have IS:CwIs n no { X1 with tasks:=withoutP X.tasks i,results:=X.results ++ [⟨t.s,t.m.told,t.m.out⟩] } _ { z with wA:=A3,wc:=c3,rA:=A7,rn:=z.rn + 1,rc:=c7,rl:=z.rl ++ [x6],tA:=A9,tn:=z.tn - 1,tc:=c9,tl:=l9 }:=
  ⟨ISF.len,ISF.bl,ISF.e8,by
   show LkOwn 0 _ A3 n c3 (lksW (whoP (withoutP X.tasks i)) n)
   rw [HWO.out]
   exact LF,TKF,RSF,ISF.on,ISF.mark⟩
 exact bodyPost_ret (v:=.agg (cwA n no H { z with wA:=A3,wc:=c3,rA:=A7,rn:=z.rn + 1,rc:=c7,rl:=z.rl ++ [x6],tA:=A9,tn:=z.tn - 1,tc:=c9,tl:=l9 })) (res_cw rfl _ _ (w.heap.size + 2) rfl (Bk.setRow R10.out _)) rfl ⟨_,rfl,IS,BF,fun G hG q=>⟨(O2.out G (by omega) q).b,hT G (by omega) q,hR G (by omega) q,(O2.out G (by omega) q).o,(O2.out G (by omega) q).k⟩⟩
theorem done_any (T:Tsk) (h:CwIs n no X w z) (ho:CrOk n X) (hT:X.tasks[i]? = some T) (hsq:T.seq=t.s) (hcm:T.cmd=t.x.c) (ht:t.In w) (hm:MayBe t.x.c) (hf:fitsT t.x.c n) (hfe:fewT t) (hbn:t.x.nr + t.x.nw=t.bn) (hn:n≤1000) (hno:no≤1000):Calls Tryz.prog 45 #[.agg (cwA n no H z),.int .i64 (i:Int),.agg (tkA t)] w (CwPost n no H (endC X t.tsk i) z w):=by
 by_cases h0:t.m.told=0
 ·exact done_well n no H X z i t w T h ho hT hsq hcm ht hm hf hfe hbn hn hno h0
 ·exact done_ill n no H X z i t w T h ho hT hsq hcm ht hm hf hfe hn h0
end
end
section
open Go Go.RowKit
section
variable (n no:Nat) (H:Hd) (X:Crw) (z:CwL) (workers worker:Int) (w:World)
theorem cstep_arg (h:CwIs n no X w z) (hin:¬ (0≤worker∧worker < workers)) :
  Calls Tryz.prog 14 #[.agg (cwA n no H z),.int .i64 workers,.int .i64 worker] w (CwErr n no H X z 1 w):=by
 obtain ⟨W0,hW0⟩:∃ W,W=(w.alloc (.cells (cwA n no H z) 34)).alloc (.cells cwZ 34):=⟨_,rfl⟩
 obtain ⟨b0,kb,kr⟩:=cwW_is n no H z w
 rw [← hW0] at b0 kb kr
 have HW:=hid hW0
 have B0:=hid b0
 have K0:=hid kb
 have R0:=hid kr
 have H0:=hid h
 have hs0:w.heap.size + 2≤W0.heap.size:=by rw [hW0,World.size_alloc,World.size_alloc];omega
 clear h b0 kb kr hW0
 have d1:decide (0≤worker∧worker < workers)=false:=decide_eq_false hin
 go_enter Tryz.func14,Tryz.ntmps14
 go_wp2_with (first
  | (go_at_call 33;rw [← HW.out];go_must ((with_reducible refine (isOne_any _ _ _).mono ?_);rintro e w1 ⟨rfl,rfl⟩;obtain ⟨-,-,p2,-,pl,-⟩:=K0.out.crew))
  | (with_reducible refine ld_cw w.heap.size K0.out _ rfl rfl rfl ?_)
  | (with_reducible refine st_cw (w.heap.size + 1) R0.out rfl n no H z _ _ rfl rfl rfl rfl ?_))
 exact bodyPost_ret (v:=.tuple #[.agg (cwA n no H z),.int .i64 1]) (res2_cw rfl _ _ (w.heap.size + 1) _ rfl rfl (Bk.setRow R0.out _)) rfl ⟨z,rfl,H0.out.below (below_row B0.out (by omega) _),below_row B0.out (by omega) _,fun _ _ q=>q⟩
theorem cstep_none (h:CwIs n no X w z) (hfew:X.tasks.length≤900) (hin:0≤worker∧worker < workers) (ho:ofP X.tasks worker=none) :
  Calls Tryz.prog 14 #[.agg (cwA n no H z),.int .i64 workers,.int .i64 worker] w (CwErr n no H X z 16 w):=by
 obtain ⟨W0,hW0⟩:∃ W,W=(w.alloc (.cells (cwA n no H z) 34)).alloc (.cells cwZ 34):=⟨_,rfl⟩
 obtain ⟨b0,kb,kr⟩:=cwW_is n no H z w
 rw [← hW0] at b0 kb kr
 have HW:=hid hW0
 have B0:=hid b0
 have K0:=hid kb
 have R0:=hid kr
 have H0:=hid h
 have hs0:w.heap.size + 2≤W0.heap.size:=by rw [hW0,World.size_alloc,World.size_alloc];omega
 have hof:=hid (fun W (hW:Below w.heap.size w W)=>pof_is X.tasks z.tl z.tA z.tn z.tc W worker (H0.out.tk.below hW) (by have:=H0.out.tk.lenL;omega))
 rw [wk_none ho] at hof
 have d1:decide (0≤worker∧worker < workers)=true:=decide_eq_true hin
 have d3:decide ((-1:Int) < 0)=true:=by decide
 clear ho
 clear h b0 kb kr hW0
 go_enter Tryz.func14,Tryz.ntmps14
 go_wp2_with (first
  | (go_at_call 33;rw [← HW.out];go_must ((with_reducible refine (isOne_any _ _ _).mono ?_);rintro e w1 ⟨rfl,rfl⟩;obtain ⟨-,-,p2,-,pl,-⟩:=K0.out.crew))
  | (go_at_call 34;go_must ((with_reducible refine (hof.out _ B0.out).mono ?_);rintro e w2 ⟨rfl,hb2⟩;have B2:=hid (bnext B0.out hb2);have K2:=hid (K0.out.below hb2);have R2:=hid (R0.out.below hb2);clear hb2;obtain ⟨-,-,p2,-,pl,-⟩:=K2.out.crew))
  | (with_reducible refine ld_cw w.heap.size K2.out _ rfl rfl rfl ?_)
  | (with_reducible refine st_cw (w.heap.size + 1) R2.out rfl n no H z _ _ rfl rfl rfl rfl ?_))
 exact bodyPost_ret (v:=.tuple #[.agg (cwA n no H z),.int .i64 16]) (res2_cw rfl _ _ (w.heap.size + 1) _ rfl rfl (Bk.setRow R2.out _)) rfl ⟨z,rfl,H0.out.below (below_row B2.out (by omega) _),below_row B2.out (by omega) _,fun _ _ q=>q⟩
theorem cstep_over (h:CwIs n no X w z) (hk:CrOk n X) (hn:n≤1000) (hno:no≤1000) (hin:0≤worker∧worker < workers) (i:Nat) (ho:ofP X.tasks worker=some i) (hv:(goT (tskAt X.tasks i)).m.over=true) :
  Calls Tryz.prog 14 #[.agg (cwA n no H z),.int .i64 workers,.int .i64 worker] w (CwErr n no H (endC { X with tasks:=X.tasks.set i (goT (tskAt X.tasks i)) } (goT (tskAt X.tasks i)) i) z 0 w):=by
 obtain ⟨W0,hW0⟩:∃ W,W=(w.alloc (.cells (cwA n no H z) 34)).alloc (.cells cwZ 34):=⟨_,rfl⟩
 obtain ⟨b0,kb,kr⟩:=cwW_is n no H z w
 rw [← hW0] at b0 kb kr
 have HW:=hid hW0
 have B0:=hid b0
 have K0:=hid kb
 have R0:=hid kr
 have H0:=hid h
 have hs0:w.heap.size + 2≤W0.heap.size:=by rw [hW0,World.size_alloc,World.size_alloc];omega
 have hfew:=hk.few
 have hof:=hid (fun W (hW:Below w.heap.size w W)=>pof_is X.tasks z.tl z.tA z.tn z.tc W worker (H0.out.tk.below hW) (by have:=H0.out.tk.lenL;omega))
 rw [wk_some ho] at hof
 have d1:decide (0≤worker∧worker < workers)=true:=decide_eq_true hin
 obtain ⟨hi,hw0,hwi0⟩:=ofP_some ho
 obtain ⟨t,ht,hts,hint,hfe⟩:=tk_is h.tk hi
 have hmem:=List.mem_of_getElem? (tskAt_lt hi)
 have hmf:=hk.cmds (tskAt X.tasks i) hmem
 have hwk:=hk.work (tskAt X.tasks i) hmem (by omega)
 have hc0:(tskAt X.tasks i).cmd=t.x.c:=by rw [← hts];rfl
 rw [hc0] at hmf
 rw [← hts] at hwk
 obtain ⟨b,off,hA,hat⟩:=h.tk.sl.lies ht
 have HAT:=hid hat
 have hitn:i < z.tn:=by have:=h.tk.lenL;omega
 have hcap:z.tn≤z.tc:=by have:=h.tk.sl.cap;rw [h.tk.len] at this;exact this
 have htn9:z.tn≤900:=by have:=h.tk.lenL;have:=hk.few;omega
 have e1:(i:Int) < (z.tn:Int):=by omega
 have e2:(i:Int) < (z.tc:Int):=by omega
 have e3:decide ((i:Int) < 0)=false:=decide_eq_false (by omega)
 have HA:=hid hA
 have HIN:=hid hint
 have HMF:=hid hmf
 have HWK:=hid hwk
 have HS:=hid hts
 have HTM:=hid (List.mem_of_getElem? ht)
 have HK:=hid hk
 have HAT0:=hid (tskAt_lt hi)
 have HN:=hid hn
 have HNO:=hid hno
 have hsp:=hid (fun W (hW:Below w.heap.size w W)=>step_tk t W (hint.below hW) (stepOk_of hmf.1 hwk))
 have hwi:=fun W (hW:Below w.heap.size w W)=>fun {u:TkL} (hu:u.In W) (hf:fewT u) (_:u.tsk=goT (tskAt X.tasks i))=>pwith_off X.tasks z.tl z.tA z.tn z.tc W i u (H0.out.tk.below hW) hitn (by omega) hu hf
 rw [hA] at hwi
 have HWI:=hid hwi
 have HWH:Hid (whoP (X.tasks.set i (goT (tskAt X.tasks i)))=whoP X.tasks):=hid (whoP_set (tskAt_lt hi) rfl rfl)
 obtain ⟨r,hr⟩:∃ r,r=stepM t.x.c t.m t.own:=⟨_,rfl⟩
 have HR:=hid hr
 have hov:r.1.over=true:=by rw [hr];rw [← hts] at hv;exact hv
 have hgo:({ t.tsk with m:=r.1,own:=r.2 }:Tsk)=goT (tskAt X.tasks i):=by rw [hr,← hts];rfl
 have HGO:=hid hgo
 have HOV:=hid hov
 clear ho hk hi hw0 hwi0 ht hts hint hfe hmem hmf hwk hc0 hA hat hcap hr hov hgo hv hn hno hwi
 clear h b0 kb kr hW0
 go_enter Tryz.func14,Tryz.ntmps14
 go_wp2_with (first
  | (go_at_call 33;rw [← HW.out];go_must ((with_reducible refine (isOne_any _ _ _).mono ?_);rintro e w1 ⟨rfl,rfl⟩;obtain ⟨-,-,p2,-,pl,-⟩:=K0.out.crew))
  | (go_at_call 34;go_must ((with_reducible refine (hof.out _ B0.out).mono ?_);rintro e w2 ⟨rfl,hb2⟩;have B2:=hid (bnext B0.out hb2);have K2:=hid (K0.out.below hb2);have R2:=hid (R0.out.below hb2);clear hb2;obtain ⟨-,-,p2,-,pl,-⟩:=K2.out.crew;rw [HA.out] at p2;have hbl:=(HAT.out w2 B2.out).lt;have HR2:=hid (HAT.out w2 B2.out).all;have KZ:=hid (Bk.new w2 67 tkZ);obtain ⟨w3,hw3⟩:∃ w3,w3=(w2.alloc (.cells tkZ 67)).setRow w2.heap.size (tkA t):=⟨_,rfl⟩;have HW3:=hid hw3.symm;have b23:Below w2.heap.size w2 w3:=(by rw [hw3];exact below_row (below_alloc1 _ _) (Nat.le_refl _) _);have hs3:w2.heap.size < w3.heap.size:=(by rw [hw3];simp);have K3:Hid (Bk w3 w2.heap.size 67 (tkA t)):=hid (by rw [hw3];exact KZ.out.setRow _);have C3:=hid (K2.out.below b23);have R3:=hid (R2.out.below b23);have B3:=hid (bnext B2.out b23);have hs2:w.heap.size + 2≤w2.heap.size:=(by have:=R2.out.lt;omega);obtain ⟨-,-,-,-,k16,-,kl,-⟩:=K3.out.tskv;clear hw3 b23))
  | (with_reducible refine ld_tskm b (off + i * 18) HR2.out _ rfl rfl rfl ?_)
  | (with_reducible refine st_tsk w2.heap.size KZ.out rfl t _ _ rfl rfl rfl rfl ?_;rw [HW3.out])
  | (with_reducible refine ld_tcmd w2.heap.size K3.out _ rfl rfl rfl ?_)
  | (with_reducible refine ld_tmac w2.heap.size K3.out _ rfl rfl rfl ?_)
  | (go_at_call 44;go_must ((with_reducible refine (hsp.out _ B3.out).mono ?_);rintro e w4 ⟨sA,sn,sc,oA,on,oc,bA,bn,bc,rfl,hin4,hb4,ho4⟩;rw [← HR.out] at hin4 ⊢;have C4:=hid (C3.out.below hb4);have R4:=hid (R3.out.below hb4);have B4:=hid (bnext B3.out hb4);have K4:=hid (K3.out.below hb4);obtain ⟨w5,hw5⟩:∃ W,W=w4.setCells w2.heap.size 6 (mC r.1.pc r.1.fuel (.slice sA sn sc) (rg r.1.regs 0) (rg r.1.regs 1) (rg r.1.regs 2) (rg r.1.regs 3) (.slice oA on oc) r.1.over r.1.told).toList:=⟨_,rfl⟩;have HW5:=hid hw5;obtain ⟨t1,ht1⟩:∃ u,u=({ t with m:=r.1,own:=r.2,sA:=sA,sn:=sn,sc:=sc,oA:=oA,on:=on,oc:=oc,bA:=bA,bn:=bn,bc:=bc }:TkL):=⟨_,rfl⟩;have K5:Hid (Bk w5 w2.heap.size 67 (tkA { t with m:=r.1,sA:=sA,sn:=sn,sc:=sc,oA:=oA,on:=on,oc:=oc })):=hid (by rw [hw5];exact K4.out.tM r.1 sA sn sc oA on oc);have C5:Hid (Bk w5 w.heap.size 34 (cwA n no H z)):=hid (by rw [hw5];exact C4.out.setCells (by omega) _ _);have R5:Hid (Bk w5 (w.heap.size + 1) 34 cwZ):=hid (by rw [hw5];exact R4.out.setCells (by omega) _ _);have B5:Hid (Below w.heap.size w w5):=hid (by rw [hw5];exact below_setCells B4.out (by omega) _ _);have O1:Hid (∀ G,G < w3.heap.size→t.Off G→t1.Off G):=hid (fun G hG q=>by rw [ht1];exact ⟨q.x,ho4 G hG q.m⟩);have oT:t1.Off w2.heap.size:=O1.out _ hs3 (HIN.out.off_ge (by omega));have i1:t1.In w4:=(by rw [ht1];exact hin4);have I6:Hid (t1.In (w5.setCell ⟨w2.heap.size,16,none⟩ (.slice bA bn bc))):=hid (by rw [hw5];exact (i1.setCells oT _ _).setCell oT _ _);have K6:Hid (Bk (w5.setCell ⟨w2.heap.size,16,none⟩ (.slice bA bn bc)) w2.heap.size 67 (tkA t1)):=hid (by rw [ht1];exact K5.out.tO r.2 bA bn bc);have C6:=hid (C5.out.far (p:=⟨w2.heap.size,16,none⟩) (by show w.heap.size≠w2.heap.size;omega) (.slice bA bn bc));have R6:=hid (R5.out.far (p:=⟨w2.heap.size,16,none⟩) (by show w.heap.size + 1≠w2.heap.size;omega) (.slice bA bn bc));have B6:=hid (B5.out.setCell (p:=⟨w2.heap.size,16,none⟩) (by show w.heap.size≤w2.heap.size;omega) (.slice bA bn bc));have hz6:(w5.setCell ⟨w2.heap.size,16,none⟩ (.slice bA bn bc)).heap.size=w4.heap.size:=(by rw [hw5];simp [World.setCell,size_setCells]);have hs6:w3.heap.size≤(w5.setCell ⟨w2.heap.size,16,none⟩ (.slice bA bn bc)).heap.size:=(by have:=hb4.size;omega);have HS6:=hid hs6;have hq1:t1.tsk=goT (tskAt X.tasks i):=(by rw [ht1,← HGO.out];rfl);have HQ1:=hid hq1;have hq0:t1.tsk=goT t.tsk:=(by rw [hq1,HS.out]);obtain ⟨hfe1,hbn1⟩:=go_few HMF.out.1 HWK.out i1 hq0;have HFE1:=hid hfe1;have HBN1:=hid hbn1;have hov1:t1.m.over=true:=(by rw [ht1];exact HOV.out);obtain ⟨-,-,-,-,k16,-,kl,kf⟩:=K5.out.tskv;obtain ⟨-,-,k14,-,-,-,kl6,-⟩:=K6.out.tskv;rw [hov1] at k14;obtain ⟨-,-,s2,-,sl,-⟩:=C6.out.crew;rw [HA.out] at s2;have hxc:t1.x.c=t.x.c:=(by rw [ht1]);have HDN:=hid (done_any n no H X z i t1 _ (tskAt X.tasks i) (H0.out.below B6.out) HK.out HAT0.out (by rw [ht1,← HS.out];rfl) (by rw [ht1,← HS.out];rfl) I6.out (by rw [hxc];exact HMF.out.1) (by rw [hxc];exact HMF.out.2) hfe1 hbn1 HN.out HNO.out);clear hxc;clear hin4 hb4 ho4 hw5 oT i1 hz6 hs6 hq1 hq0 hfe1 hbn1 hov1 ht1))
  | (with_reducible refine st_tmac w2.heap.size K4.out r.1 sA sn sc oA on oc _ _ rfl rfl rfl rfl ?_;rw [← HW5.out])
  | (with_reducible refine ld_cw w.heap.size C6.out _ rfl rfl rfl ?_)
  | (with_reducible refine ld_tsk w2.heap.size K6.out _ rfl rfl rfl ?_)
  | (go_at_call 45;go_must ((with_reducible refine HDN.out.mono ?_);rintro e w7 ⟨z7,rfl,hz7,hb7,ho7⟩;have Z7:=hid hz7;have O7:=hid ho7;have B7:=hid (bnext B6.out hb7);have R7:=hid (R6.out.below hb7);clear hz7 hb7 ho7))
  | (with_reducible refine st_cw (w.heap.size + 1) R7.out rfl n no H z7 _ _ rfl rfl rfl rfl ?_))
 have BF:Below w.heap.size w (w7.setRow (w.heap.size + 1) (cwA n no H z7)):=below_row B7.out (by omega) _
 have heq:endC { X with tasks:=X.tasks.set i (goT (tskAt X.tasks i)) } (goT (tskAt X.tasks i)) i=endC X t1.tsk i:=by
  rw [HQ1.out]
  unfold endC
  simp only [without_set]
 rw [heq]
 have hs7:=HS6.out
 have IS:=Z7.out.keep (O7.out (w.heap.size + 1) (by omega) (H0.out.off_ge (by omega))) (OneOff.setRow w7 (w.heap.size + 1) (cwA n no H z7)) R7.out (by decide) (by decide)
 exact bodyPost_ret (v:=.tuple #[.agg (cwA n no H z7),.int .i64 0]) (res2_cw rfl _ _ (w.heap.size + 1) _ rfl rfl (Bk.setRow R7.out _)) rfl ⟨_,rfl,IS,BF,fun G hG q=>O7.out G (by omega) q⟩
theorem cstep_on (h:CwIs n no X w z) (hk:CrOk n X) (hn:n≤1000) (hno:no≤1000) (hin:0≤worker∧worker < workers) (i:Nat) (ho:ofP X.tasks worker=some i) (hv:(goT (tskAt X.tasks i)).m.over=false) :
  Calls Tryz.prog 14 #[.agg (cwA n no H z),.int .i64 workers,.int .i64 worker] w (CwErr n no H { X with tasks:=X.tasks.set i (goT (tskAt X.tasks i)) } z 0 w):=by
 obtain ⟨W0,hW0⟩:∃ W,W=(w.alloc (.cells (cwA n no H z) 34)).alloc (.cells cwZ 34):=⟨_,rfl⟩
 obtain ⟨b0,kb,kr⟩:=cwW_is n no H z w
 rw [← hW0] at b0 kb kr
 have HW:=hid hW0
 have B0:=hid b0
 have K0:=hid kb
 have R0:=hid kr
 have H0:=hid h
 have hs0:w.heap.size + 2≤W0.heap.size:=by rw [hW0,World.size_alloc,World.size_alloc];omega
 have hfew:=hk.few
 have hof:=hid (fun W (hW:Below w.heap.size w W)=>pof_is X.tasks z.tl z.tA z.tn z.tc W worker (H0.out.tk.below hW) (by have:=H0.out.tk.lenL;omega))
 rw [wk_some ho] at hof
 have d1:decide (0≤worker∧worker < workers)=true:=decide_eq_true hin
 obtain ⟨hi,hw0,hwi0⟩:=ofP_some ho
 obtain ⟨t,ht,hts,hint,hfe⟩:=tk_is h.tk hi
 have hmem:=List.mem_of_getElem? (tskAt_lt hi)
 have hmf:=hk.cmds (tskAt X.tasks i) hmem
 have hwk:=hk.work (tskAt X.tasks i) hmem (by omega)
 have hc0:(tskAt X.tasks i).cmd=t.x.c:=by rw [← hts];rfl
 rw [hc0] at hmf
 rw [← hts] at hwk
 obtain ⟨b,off,hA,hat⟩:=h.tk.sl.lies ht
 have HAT:=hid hat
 have hitn:i < z.tn:=by have:=h.tk.lenL;omega
 have hcap:z.tn≤z.tc:=by have:=h.tk.sl.cap;rw [h.tk.len] at this;exact this
 have htn9:z.tn≤900:=by have:=h.tk.lenL;have:=hk.few;omega
 have e1:(i:Int) < (z.tn:Int):=by omega
 have e2:(i:Int) < (z.tc:Int):=by omega
 have e3:decide ((i:Int) < 0)=false:=decide_eq_false (by omega)
 have HA:=hid hA
 have HIN:=hid hint
 have HMF:=hid hmf
 have HWK:=hid hwk
 have HS:=hid hts
 have HTM:=hid (List.mem_of_getElem? ht)
 have HK:=hid hk
 have HAT0:=hid (tskAt_lt hi)
 have HN:=hid hn
 have HNO:=hid hno
 have hsp:=hid (fun W (hW:Below w.heap.size w W)=>step_tk t W (hint.below hW) (stepOk_of hmf.1 hwk))
 have hwi:=fun W (hW:Below w.heap.size w W)=>fun {u:TkL} (hu:u.In W) (hf:fewT u) (_:u.tsk=goT (tskAt X.tasks i))=>pwith_off X.tasks z.tl z.tA z.tn z.tc W i u (H0.out.tk.below hW) hitn (by omega) hu hf
 rw [hA] at hwi
 have HWI:=hid hwi
 have HWH:Hid (whoP (X.tasks.set i (goT (tskAt X.tasks i)))=whoP X.tasks):=hid (whoP_set (tskAt_lt hi) rfl rfl)
 obtain ⟨r,hr⟩:∃ r,r=stepM t.x.c t.m t.own:=⟨_,rfl⟩
 have HR:=hid hr
 have hov:r.1.over=false:=by rw [hr];rw [← hts] at hv;exact hv
 have hgo:({ t.tsk with m:=r.1,own:=r.2 }:Tsk)=goT (tskAt X.tasks i):=by rw [hr,← hts];rfl
 have HGO:=hid hgo
 have HOV:=hid hov
 clear ho hk hi hw0 hwi0 ht hts hint hfe hmem hmf hwk hc0 hA hat hcap hr hov hgo hv hn hno hwi
 clear h b0 kb kr hW0
 go_enter Tryz.func14,Tryz.ntmps14
 go_wp2_with (first
  | (go_at_call 33;rw [← HW.out];go_must ((with_reducible refine (isOne_any _ _ _).mono ?_);rintro e w1 ⟨rfl,rfl⟩;obtain ⟨-,-,p2,-,pl,-⟩:=K0.out.crew))
  | (go_at_call 34;go_must ((with_reducible refine (hof.out _ B0.out).mono ?_);rintro e w2 ⟨rfl,hb2⟩;have B2:=hid (bnext B0.out hb2);have K2:=hid (K0.out.below hb2);have R2:=hid (R0.out.below hb2);clear hb2;obtain ⟨-,-,p2,-,pl,-⟩:=K2.out.crew;rw [HA.out] at p2;have hbl:=(HAT.out w2 B2.out).lt;have HR2:=hid (HAT.out w2 B2.out).all;have KZ:=hid (Bk.new w2 67 tkZ);obtain ⟨w3,hw3⟩:∃ w3,w3=(w2.alloc (.cells tkZ 67)).setRow w2.heap.size (tkA t):=⟨_,rfl⟩;have HW3:=hid hw3.symm;have b23:Below w2.heap.size w2 w3:=(by rw [hw3];exact below_row (below_alloc1 _ _) (Nat.le_refl _) _);have hs3:w2.heap.size < w3.heap.size:=(by rw [hw3];simp);have K3:Hid (Bk w3 w2.heap.size 67 (tkA t)):=hid (by rw [hw3];exact KZ.out.setRow _);have C3:=hid (K2.out.below b23);have R3:=hid (R2.out.below b23);have B3:=hid (bnext B2.out b23);have hs2:w.heap.size + 2≤w2.heap.size:=(by have:=R2.out.lt;omega);obtain ⟨-,-,-,-,k16,-,kl,-⟩:=K3.out.tskv;clear hw3 b23))
  | (with_reducible refine ld_tskm b (off + i * 18) HR2.out _ rfl rfl rfl ?_)
  | (with_reducible refine st_tsk w2.heap.size KZ.out rfl t _ _ rfl rfl rfl rfl ?_;rw [HW3.out])
  | (with_reducible refine ld_tcmd w2.heap.size K3.out _ rfl rfl rfl ?_)
  | (with_reducible refine ld_tmac w2.heap.size K3.out _ rfl rfl rfl ?_)
  | (go_at_call 44;go_must ((with_reducible refine (hsp.out _ B3.out).mono ?_);rintro e w4 ⟨sA,sn,sc,oA,on,oc,bA,bn,bc,rfl,hin4,hb4,ho4⟩;rw [← HR.out] at hin4 ⊢;have C4:=hid (C3.out.below hb4);have R4:=hid (R3.out.below hb4);have B4:=hid (bnext B3.out hb4);have K4:=hid (K3.out.below hb4);obtain ⟨w5,hw5⟩:∃ W,W=w4.setCells w2.heap.size 6 (mC r.1.pc r.1.fuel (.slice sA sn sc) (rg r.1.regs 0) (rg r.1.regs 1) (rg r.1.regs 2) (rg r.1.regs 3) (.slice oA on oc) r.1.over r.1.told).toList:=⟨_,rfl⟩;have HW5:=hid hw5;obtain ⟨t1,ht1⟩:∃ u,u=({ t with m:=r.1,own:=r.2,sA:=sA,sn:=sn,sc:=sc,oA:=oA,on:=on,oc:=oc,bA:=bA,bn:=bn,bc:=bc }:TkL):=⟨_,rfl⟩;have K5:Hid (Bk w5 w2.heap.size 67 (tkA { t with m:=r.1,sA:=sA,sn:=sn,sc:=sc,oA:=oA,on:=on,oc:=oc })):=hid (by rw [hw5];exact K4.out.tM r.1 sA sn sc oA on oc);have C5:Hid (Bk w5 w.heap.size 34 (cwA n no H z)):=hid (by rw [hw5];exact C4.out.setCells (by omega) _ _);have R5:Hid (Bk w5 (w.heap.size + 1) 34 cwZ):=hid (by rw [hw5];exact R4.out.setCells (by omega) _ _);have B5:Hid (Below w.heap.size w w5):=hid (by rw [hw5];exact below_setCells B4.out (by omega) _ _);have O1:Hid (∀ G,G < w3.heap.size→t.Off G→t1.Off G):=hid (fun G hG q=>by rw [ht1];exact ⟨q.x,ho4 G hG q.m⟩);have oT:t1.Off w2.heap.size:=O1.out _ hs3 (HIN.out.off_ge (by omega));have i1:t1.In w4:=(by rw [ht1];exact hin4);have I6:Hid (t1.In (w5.setCell ⟨w2.heap.size,16,none⟩ (.slice bA bn bc))):=hid (by rw [hw5];exact (i1.setCells oT _ _).setCell oT _ _);have K6:Hid (Bk (w5.setCell ⟨w2.heap.size,16,none⟩ (.slice bA bn bc)) w2.heap.size 67 (tkA t1)):=hid (by rw [ht1];exact K5.out.tO r.2 bA bn bc);have C6:=hid (C5.out.far (p:=⟨w2.heap.size,16,none⟩) (by show w.heap.size≠w2.heap.size;omega) (.slice bA bn bc));have R6:=hid (R5.out.far (p:=⟨w2.heap.size,16,none⟩) (by show w.heap.size + 1≠w2.heap.size;omega) (.slice bA bn bc));have B6:=hid (B5.out.setCell (p:=⟨w2.heap.size,16,none⟩) (by show w.heap.size≤w2.heap.size;omega) (.slice bA bn bc));have hz6:(w5.setCell ⟨w2.heap.size,16,none⟩ (.slice bA bn bc)).heap.size=w4.heap.size:=(by rw [hw5];simp [World.setCell,size_setCells]);have hs6:w3.heap.size≤(w5.setCell ⟨w2.heap.size,16,none⟩ (.slice bA bn bc)).heap.size:=(by have:=hb4.size;omega);have HS6:=hid hs6;have hq1:t1.tsk=goT (tskAt X.tasks i):=(by rw [ht1,← HGO.out];rfl);have HQ1:=hid hq1;have hq0:t1.tsk=goT t.tsk:=(by rw [hq1,HS.out]);obtain ⟨hfe1,hbn1⟩:=go_few HMF.out.1 HWK.out i1 hq0;have HFE1:=hid hfe1;have HBN1:=hid hbn1;have hov1:t1.m.over=false:=(by rw [ht1];exact HOV.out);obtain ⟨-,-,-,-,k16,-,kl,kf⟩:=K5.out.tskv;obtain ⟨-,-,k14,-,-,-,kl6,-⟩:=K6.out.tskv;rw [hov1] at k14;obtain ⟨-,-,s2,-,sl,-⟩:=C6.out.crew;rw [HA.out] at s2;clear hin4 hb4 ho4 hw5 oT i1 hz6 hs6 hq1 hq0 hfe1 hbn1 hov1 ht1))
  | (with_reducible refine st_tmac w2.heap.size K4.out r.1 sA sn sc oA on oc _ _ rfl rfl rfl rfl ?_;rw [← HW5.out])
  | (with_reducible refine ld_tsk w2.heap.size K6.out _ rfl rfl rfl ?_)
  | (go_at_call 38;go_must ((with_reducible refine (HWI.out _ B6.out I6.out HFE1.out HQ1.out).mono ?_);rintro e w9 ⟨A9,c9,l9,rfl,hT9,hb9,ho9⟩;have T9:=hid hT9;have O9:=hid ho9;have B9:=hid (bnext B6.out hb9);have C9:=hid (C6.out.below hb9);have R9:=hid (R6.out.below hb9);obtain ⟨-,-,u2,-,ul,uf⟩:=C9.out.crew;clear hT9 hb9 ho9 s2 sl k14 kl6;have C10:=hid (C9.out.cT A9 z.tn c9 l9);have R10:=hid (R9.out.far (p:=⟨w.heap.size,2,none⟩) (by show w.heap.size + 1≠w.heap.size;omega) (.slice A9 z.tn c9))))
  | (with_reducible refine ld_cw w.heap.size C10.out _ rfl rfl rfl ?_)
  | (with_reducible refine st_cw (w.heap.size + 1) R10.out rfl n no H { z with tA:=A9,tn:=z.tn,tc:=c9,tl:=l9 } _ _ rfl rfl rfl rfl ?_))
 have BF:Below w.heap.size w ((w9.setCell ⟨w.heap.size,2,none⟩ (.slice A9 z.tn c9)).setRow (w.heap.size + 1) (cwA n no H { z with tA:=A9,tn:=z.tn,tc:=c9,tl:=l9 })):=below_row (B9.out.setCell (p:=⟨w.heap.size,2,none⟩) (Nat.le_refl _) _) (by omega) _
 have hs9:=HS6.out
 have hP:∀ G,G < w2.heap.size→TkOffs G z.tA z.tn z.tl→t.Off G→TkOffs G A9 z.tn l9:=fun G h2 q1 q2=>O9.out G (by omega) ⟨by rw [← HA.out];exact q1,O1.out G (by omega) q2⟩
 have hP0:∀ G,w.heap.size≤G→G < w2.heap.size→TkOffs G A9 z.tn l9:=fun G h1 h2=>hP G h2 (H0.out.tk.off_ge h1) (HIN.out.off_ge h1)
 have TF:=(T9.out.keep (hP0 w.heap.size (Nat.le_refl _) (by omega)) (OneOff.setCell w9 w.heap.size 2 (.slice A9 z.tn c9))).keep (hP0 (w.heap.size + 1) (by omega) (by omega)) (OneOff.setRow _ (w.heap.size + 1) (cwA n no H { z with tA:=A9,tn:=z.tn,tc:=c9,tl:=l9 }))
 rw [HQ1.out] at TF
 have IS:=H0.out.withT BF TF HWH.out
 exact bodyPost_ret (v:=.tuple #[.agg (cwA n no H { z with tA:=A9,tn:=z.tn,tc:=c9,tl:=l9 }),.int .i64 0]) (res2_cw rfl _ _ (w.heap.size + 1) _ rfl rfl (Bk.setRow R10.out _)) rfl ⟨_,rfl,IS,BF,fun G hG q=>⟨q.b,hP G (by omega) q.t (q.t.2 t HTM.out),q.r,q.o,q.k⟩⟩
end
end
section
open Go.RowKit
section
variable (n no:Nat) (H:Hd) (X:Crw) (z:CwL) (workers worker seq:Int) (w:World)
theorem pick_all (h:CwIs n no X w z) (hk:CrOk n X) (hid0:∀ T∈X.tasks,T.worker < 0→T.m=newM T.cmd) :
  Calls Tryz.prog 12 #[.agg (cwA n no H z),.int .i64 workers,.int .i64 worker,.int .i64 seq] w (CwErr n no H (pickC X workers worker seq).1 z (pickC X workers worker seq).2 w):=by
 by_cases hin:0≤worker∧worker < workers
 ·cases ho:ofP X.tasks worker with
  | some j=>
   rw [pickC_busy hin ho]
   exact pick_busy n no H X z workers worker seq w h hk.few hin j ho
  | none=>
   cases hf:findP X.tasks seq with
   | none=>
    rw [pickC_find hin ho hf]
    exact pick_find n no H X z workers worker seq w h hk.few hin ho hf
   | some i=>
    by_cases hno:0≤(tskAt X.tasks i).worker∨readyB (whoP X.tasks) seq (tskAt X.tasks i).cmd=false
    ·rw [pickC_has hin ho hf hno]
     exact pick_has n no H X z workers worker seq w h hk.few hk.cmds hin ho i hf hno
    ·have hw:(tskAt X.tasks i).worker < 0:=by
      rcases Int.lt_or_le (tskAt X.tasks i).worker 0 with q | q
      ·exact q
      ·exact absurd (.inl q) hno
     have hr:readyB (whoP X.tasks) seq (tskAt X.tasks i).cmd=true:=by
      cases q:readyB (whoP X.tasks) seq (tskAt X.tasks i).cmd with
      | true=>rfl
      | false=>exact absurd (.inr q) hno
     rw [pickC_yes hin ho hf hw hr]
     exact pick_yes n no H X z workers worker seq w h hk.few hk.cmds hid0 hin ho i hf hw hr
 ·rw [pickC_arg hin]
  exact pick_arg n no H X z workers worker seq w h hin
theorem step_all (h:CwIs n no X w z) (hk:CrOk n X) (hn:n≤1000) (hno:no≤1000) :
  Calls Tryz.prog 14 #[.agg (cwA n no H z),.int .i64 workers,.int .i64 worker] w (CwErr n no H (stepC X workers worker).1 z (stepC X workers worker).2 w):=by
 by_cases hin:0≤worker∧worker < workers
 ·cases ho:ofP X.tasks worker with
  | none=>
   rw [stepC_none hin ho]
   exact cstep_none n no H X z workers worker w h hk.few hin ho
  | some i=>
   cases hv:(goT (tskAt X.tasks i)).m.over with
   | true=>
    rw [stepC_over hin ho hv]
    exact cstep_over n no H X z workers worker w h hk hn hno hin i ho hv
   | false=>
    rw [stepC_on hin ho hv]
    exact cstep_on n no H X z workers worker w h hk hn hno hin i ho hv
 ·rw [stepC_arg hin]
  exact cstep_arg n no H X z workers worker w h hin
end
end
section
open Go.RowKit
section
variable (n no:Nat) (H:Hd) (X:Crw) (z:CwL) (workers worker seq:Int) (w:World)
theorem rpick_all (h:CwIs n no X w z) (hk:CrOk n X) (hid0:∀ T∈X.tasks,T.worker < 0→T.m=newM T.cmd) :
  Calls Tryz.prog 13 #[.agg (cwA n no H z),.int .i64 workers,.int .i64 worker,.int .i64 seq] w (CwErr n no H (pickC X workers worker seq).1 z (pickC X workers worker seq).2 w):=by
 by_cases hin:0≤worker∧worker < workers
 ·cases ho:ofP X.tasks worker with
  | some j=>
   rw [pickC_busy hin ho]
   exact rpick_busy n no H X z workers worker seq w h hk.few hin j ho
  | none=>
   cases hf:findP X.tasks seq with
   | none=>
    rw [pickC_find hin ho hf]
    exact rpick_find n no H X z workers worker seq w h hk.few hin ho hf
   | some i=>
    by_cases hno:0≤(tskAt X.tasks i).worker∨readyB (whoP X.tasks) seq (tskAt X.tasks i).cmd=false
    ·rw [pickC_has hin ho hf hno]
     rcases Int.lt_or_le (tskAt X.tasks i).worker 0 with q | q
     ·exact rpick_wait n no H X z workers worker seq w h hk.few hk.cmds hin ho i hf q (hno.resolve_left (by omega))
     ·exact rpick_has n no H X z workers worker seq w h hk.few hk.cmds hin ho i hf q
    ·have hw:(tskAt X.tasks i).worker < 0:=by
      rcases Int.lt_or_le (tskAt X.tasks i).worker 0 with q | q
      ·exact q
      ·exact absurd (.inl q) hno
     have hr:readyB (whoP X.tasks) seq (tskAt X.tasks i).cmd=true:=by
      cases q:readyB (whoP X.tasks) seq (tskAt X.tasks i).cmd with
      | true=>rfl
      | false=>exact absurd (.inr q) hno
     rw [pickC_yes hin ho hf hw hr]
     exact rpick_yes n no H X z workers worker seq w h hk.few hk.cmds hid0 hin ho i hf hw hr
 ·rw [pickC_arg hin]
  exact rpick_arg n no H X z workers worker seq w h hk.few hin
theorem rstep_all (h:CwIs n no X w z) (hk:CrOk n X) (hn:n≤1000) (hno:no≤1000) :
  Calls Tryz.prog 15 #[.agg (cwA n no H z),.int .i64 workers,.int .i64 worker] w (CwErr n no H (stepC X workers worker).1 z (stepC X workers worker).2 w):=by
 by_cases hin:0≤worker∧worker < workers
 ·cases ho:ofP X.tasks worker with
  | none=>
   rw [stepC_none hin ho]
   exact rstep17_none n no H X z workers worker w h hk.few hin ho
  | some i=>
   cases hv:(goT (tskAt X.tasks i)).m.over with
   | true=>
    rw [stepC_over hin ho hv]
    exact rstep17_over n no H X z workers worker w h hk hn hno hin i ho hv
   | false=>
    rw [stepC_on hin ho hv]
    exact rstep17_on n no H X z workers worker w h hk hn hno hin i ho hv
 ·rw [stepC_arg hin]
  exact rstep17_arg n no H X z workers worker w h hk.few hin
end
end
end Go.Proofs.YtpaocjpjlogkgaaGreat
