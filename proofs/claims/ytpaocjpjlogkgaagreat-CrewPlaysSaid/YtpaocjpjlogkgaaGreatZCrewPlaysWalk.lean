/-
  CrewPlays, walked: true of whatever comes, in whatever memory.
-/
import Derived.Test.YtpaocjpjlogkgaaGreatZCrwAw
import Derived.Test.YtpaocjpjlogkgaaGreatQCrwC
import Derived.Test.YtpaocjpjlogkgaaGreatQCrwF
import Derived.Test.YtpaocjpjlogkgaaGreatQPooV
import Derived.Test.YtpaocjpjlogkgaaGreatQCrwDn
import Derived.Test.YtpaocjpjlogkgaaGreatQTrnM
import Derived.Test.YtpaocjpjlogkgaaGreatZCrwTu
namespace Go.Proofs.YtpaocjpjlogkgaaGreat
open Go Go.RowKit
set_option maxRecDepth 100000
attribute [local go_sem] look findAt
attribute [local simp] depsOf isV Region.binds
section
variable (l:List CmL) (A:Option Addr) (n c:Nat) (ts:List Trn) (tA:Option Addr) (tn tc:Nat)
set_option maxHeartbeats 4000000 in
theorem crewPlays_no (hz:n≤9223372036854775807) (w:World) (h:Cmds w A c l) (hN:l.length=n) (hr:¬ R17 l) :
  Calls Tryz.prog 3 #[.slice A n c,.slice tA tn tc] w fun e w'=>e=.returned (.bool true)∧Below w.heap.size w w':=by
 have aw:=Lib.hid (fun W=>awake17 W)
 have hri:=Lib.hid (right17_no h hN hz hr)
 clear h hN hr
 go_enter Tryz.func3,Tryz.ntmps3
 go_wp2_with (first
  | (go_at_call 6;go_must ((with_reducible refine hri.out.mono ?_);rintro e w1 ⟨rfl,hb1⟩;have B1:=Lib.hid hb1;clear hb1))
  | (go_at_call 7;go_must ((with_reducible refine (aw.out _).mono ?_);rintro e w2 ⟨rfl,hb2⟩;have B2:=Lib.hid (bnext B1.out hb2);clear hb2)))
 go_ret
 exact ⟨rfl,B2.out⟩
set_option maxHeartbeats 4000000 in
theorem crewPlays_many (w:World) (h:Cmds w A c l) (hN:l.length=n) (hr:R17 l) (hm:150 < tn) :
  Calls Tryz.prog 3 #[.slice A n c,.slice tA tn tc] w fun e w'=>e=.returned (.bool true)∧Below w.heap.size w w':=by
 have aw:=Lib.hid (fun W=>awake17 W)
 have hri:=Lib.hid (right17_yes h hN hr)
 have d1:decide ((150:Int) < (tn:Int))=true:=decide_eq_true (by omega)
 clear h hN hr
 go_enter Tryz.func3,Tryz.ntmps3
 go_wp2_with (first
  | (go_at_call 6;go_must ((with_reducible refine hri.out.mono ?_);rintro e w1 ⟨rfl,hb1⟩;have B1:=Lib.hid hb1;clear hb1))
  | (go_at_call 7;go_must ((with_reducible refine (aw.out _).mono ?_);rintro e w2 ⟨rfl,hb2⟩;have B2:=Lib.hid (bnext B1.out hb2);clear hb2)))
 go_ret
 exact ⟨rfl,B2.out⟩
set_option maxHeartbeats 32000000 in
theorem crewPlays_main (w:World) (h:Cmds w A c l) (hN:l.length=n) (hr:R17 l) (hm:tn≤150) (hts:Trns w tA tc ts) (htn:ts.length=tn) :
  Calls Tryz.prog 3 #[.slice A n c,.slice tA tn tc] w fun e w'=>e=.returned (.bool true)∧Below w.heap.size w w':=by
 have aw:=Lib.hid (fun W=>awake17 W)
 have hri:=Lib.hid (right17_yes h hN hr)
 have hre:Hid (∀ W,Calls Tryz.prog 9 #[.int .i64 6] W (AddPost 6 0 hd0 (restX 6) W)):=Lib.hid (fun W=>rest_any 6 (by decide) (by decide) W)
 have hst:=Lib.hid (fun W (hW:Below w.heap.size w W) z (hz:CwIs 6 0 (restX 6) W z)=>start_any (h.below hW) hN hr hz)
 have d1:decide ((150:Int) < (tn:Int))=false:=decide_eq_false (by omega)
 have hn20:n≤20:=by rw [← hN];exact hr.2
 have H:=Lib.hid h
 have HN:=Lib.hid hN
 have HR:=Lib.hid hr
 have HTS:=Lib.hid hts
 have HTN:=Lib.hid htn
 have hst2:=Lib.hid (fun W (hW:Below w.heap.size w W) z (hz:CwIs 6 0 (restX 6) W z)=>(show Calls Tryz.prog 10 #[.agg (cwA 6 0 hd0 z),.slice A n c,.int .i64 1] W (AddPost 6 0 hd0 (startX 6 (csOf l)) W) from by
  have:=radd17_any 6 0 hd0 (restX 6) z l A n c 1 W hz (h.below hW) hN hr.1 (by have:=hr.2;show 0 + n≤900;omega) (by decide) (by decide)
  rwa [start_is 6 l hN] at this))
 have HC0:=Lib.hid hr.inv
 have HCS:=Lib.hid hr.cmds'
 have HOK0:=Lib.hid (hr.inv.ok hr.cmds' goodT6 List.length_replicate (by have:=hr.few;omega))
 have htc:tn≤tc:=by have:=hts.cap;omega
 clear h hN hr hts htn
 go_enter Tryz.func3,Tryz.ntmps3
 have m1:True:=trivial
 have m2:True:=trivial
 go_wp2_with (first
  | (go_at_call 6;go_must ((with_reducible refine hri.out.mono ?_);rintro e w1 ⟨rfl,hb1⟩;have B1:=Lib.hid hb1;clear hb1))
  | (go_at_call 9;clear m1;go_must ((with_reducible refine (hre.out _).mono ?_);rintro e w2 ⟨z2,rfl,hI2,hb2⟩;have I2:=Lib.hid hI2;have B2:=Lib.hid (bnext B1.out hb2);clear hI2 hb2))
  | (go_at_call 8;go_must ((with_reducible refine (hst.out _ B2.out z2 I2.out).mono ?_);rintro e w3 ⟨z3,rfl,hI3,hb3⟩;have I3:=Lib.hid hI3;have B3:=Lib.hid (bnext B2.out hb3);clear hI3 hb3))
  | (go_at_call 9;clear m2;go_must ((with_reducible refine (hre.out _).mono ?_);rintro e w4 ⟨z4,rfl,hI4,hb4⟩;have I4:=Lib.hid hI4;have I3':=Lib.hid (I3.out.below hb4);have B4:=Lib.hid (bnext B3.out hb4);clear hI4 hb4))
  | (go_at_call 10;go_must ((with_reducible refine (hst2.out _ B4.out z4 I4.out).mono ?_);rintro e w5 ⟨z5,rfl,hI5,hb5⟩;have I5:=Lib.hid hI5;have I3'':=Lib.hid (I3'.out.below hb5);have B5:=Lib.hid (bnext B4.out hb5);have a5:=below_alloc1 w5 (.cells cwZ 34);have a6:=below_alloc1 (w5.alloc (.cells cwZ 34)) (.cells cwZ 34);have N5:=Lib.hid ((Bk.new w5 34 cwZ).below a6);have N6:Hid (Bk ((w5.alloc (.cells cwZ 34)).alloc (.cells cwZ 34)) (w5.heap.size + 1) 34 cwZ):=Lib.hid (by have:=Bk.new (w5.alloc (.cells cwZ 34)) 34 cwZ;rwa [World.size_alloc] at this);have M5:=Lib.hid (N6.out.farRow (show w5.heap.size + 1≠w5.heap.size by omega) (cwA 6 0 hd0 z3));obtain ⟨w5',hw5⟩:∃ W,W=(((w5.alloc (.cells cwZ 34)).alloc (.cells cwZ 34)).setRow w5.heap.size (cwA 6 0 hd0 z3)).setRow (w5.heap.size + 1) (cwA 6 0 hd0 z5):=⟨_,rfl⟩;have HW5:=Lib.hid hw5.symm;have f5:Below w5.heap.size w5 w5':=(by rw [hw5];exact below_row (below_row (a5.trans (a6.mono a5.size)) (Nat.le_refl _) _) (by omega) _);have TC0:Hid (TwoC w5.heap.size (w5.heap.size + 1) (startX 6 (csOf l)) (startX 6 (csOf l)) z3 z5 w5'):=Lib.hid ⟨I3''.out.below f5,hI5.below f5,by rw [hw5];exact (N5.out.setRow _).farRow (by omega) _,by rw [hw5];exact M5.out.setRow _,I3''.out.off_ge (Nat.le_refl _),I3''.out.off_ge (by omega),hI5.off_ge (Nat.le_refl _),hI5.off_ge (by omega),by omega⟩;have G5:=Lib.hid (bnext B5.out f5);have hwx:w.heap.size≤w5.heap.size:=B5.out.size;clear hI5 hb5 a5 a6 hw5 f5))
  | (with_reducible refine st_cw w5.heap.size N5.out rfl 6 0 hd0 z3 _ _ rfl rfl rfl rfl ?_)
  | (with_reducible refine st_cw (w5.heap.size + 1) M5.out rfl 6 0 hd0 z5 _ _ rfl rfl rfl rfl ?_;rw [HW5.out])
  | (with_reducible refine ld_cw w5.heap.size TC0.out.kx _ rfl rfl rfl ?_)
  | (with_reducible refine ld_cw (w5.heap.size + 1) TC0.out.ky _ rfl rfl rfl ?_)
  | (go_at_call 11;go_must ((with_reducible refine (sameCw_yes 6 0 hd0 (startX 6 (csOf l)) z3 z5 w5' TC0.out.ix TC0.out.iy (by decide) (by decide) (by have:=HOK0.out.few;omega) (by have:=HOK0.out.many;omega) HOK0.out.outs).mono ?_);rintro e w6 ⟨rfl,hb6⟩;have T6:=Lib.hid (TC0.out.below hb6);have B6:=Lib.hid (bnext G5.out hb6);clear hb6)))
 obtain ⟨gx,hgx⟩:∃ g,g=w5.heap.size:=⟨_,rfl⟩
 obtain ⟨gy,hgy⟩:∃ g,g=w5.heap.size + 1:=⟨_,rfl⟩
 rw [← hgy] at T6 ⊢
 rw [← hgx] at T6 hwx ⊢
 have hwy:w.heap.size≤gy:=by omega
 clear hgx hgy TC0 G5 HW5 M5 N5 N6 I3 I3' I3'' I5 I4 I2 hst hst2 hre hri B1 B2 B3 B4 B5
 go_loopw [7] (fun cc wr=>∃ (i:Nat) (X:Crw) (zx zy:CwL),i≤tn∧cc=.int .i64 i∧Hid (CInv (csOf l) b06 3 X)∧Hid (TwoC gx gy X X zx zy wr)∧Hid (Below w.heap.size w wr)) (fun cc _=>tn - (intOf cc).toNat)
 case atStart=>exact ⟨0,_,z3,z5,Nat.zero_le _,rfl,HC0,T6,B6⟩
 case round=>
  obtain ⟨i,X,zx,zy,hi,rfl,HC,HTC,HB⟩:=hrel
  by_cases hlt:i < tn
  ·have f1:(i:Int) < (tn:Int):=by omega
   have f2:(i:Int) < (tc:Int):=by omega
   obtain ⟨tr,htr⟩:=trn_at (l:=ts) (i:=i) (by rw [HTN.out];exact hlt)
   obtain ⟨tb,to,hA,hbt,hat⟩:=HTS.out.at htr
   have HT:Hid (some (⟨tb,to,none⟩:Addr)=tA∧∀ W,Below w.heap.size w W→W.cell? ⟨tb,to + i * 3,none⟩=some (.bool tr.pick)∧W.cell? ⟨tb,to + i * 3 + 1,none⟩=some (.int .i64 tr.worker)∧W.cell? ⟨tb,to + i * 3 + 2,none⟩=some (.int .i64 tr.seq)∧tb < W.heap.size):=Lib.hid ⟨hA.symm,hat⟩
   have HOK:=Lib.hid (HC.out.ok HCS.out goodT6 List.length_replicate (by have:=HR.out.few;omega))
   rw [hA]
   clear hA hat htr
   cases hpk:tr.pick with
   | true=>
    obtain ⟨r,hr⟩:∃ r,r=(pickC X 3 tr.worker tr.seq).2:=⟨_,rfl⟩
    obtain ⟨X2,hX2⟩:∃ X2,X2=(pickC X 3 tr.worker tr.seq).1:=⟨_,rfl⟩
    have HC2:Hid (CInv (csOf l) b06 3 X2):=Lib.hid (by
     rw [hX2]
     by_cases h0:(pickC X 3 tr.worker tr.seq).2=0
     ·exact HC.out.pick HCS.out h0
     ·rw [pick_no tr.worker tr.seq h0]
      exact HC.out)
    have hp1:Hid (∀ W,CwIs 6 0 X W zx→Calls Tryz.prog 12 #[.agg (cwA 6 0 hd0 zx),.int .i64 3,.int .i64 tr.worker,.int .i64 tr.seq] W (CwErr 6 0 hd0 X2 zx r W)):=Lib.hid (fun W hz=>by
     rw [hX2,hr]
     exact pick_all 6 0 hd0 X zx 3 tr.worker tr.seq W hz HOK.out HC.out.idle)
    have hp2:Hid (∀ W,CwIs 6 0 X W zy→Calls Tryz.prog 13 #[.agg (cwA 6 0 hd0 zy),.int .i64 3,.int .i64 tr.worker,.int .i64 tr.seq] W (CwErr 6 0 hd0 X2 zy r W)):=Lib.hid (fun W hz=>by
     rw [hX2,hr]
     exact rpick_all 6 0 hd0 X zy 3 tr.worker tr.seq W hz HOK.out HC.out.idle)
    have HOK2:=Lib.hid (HC2.out.ok HCS.out goodT6 List.length_replicate (by have:=HR.out.few;omega))
    obtain ⟨y0,y1,y2,yl⟩:=HT.out.2 wr HB.out
    rw [hpk] at y0
    clear hr hX2
    go_wp2
    clear y0 y1 y2 yl
    try simp only [List.append_eq,List.cons_append,List.nil_append]
    refine wp_region_saysT 15 14 (fun x y=>Below x.heap.size x y) (fun _ _ _ h k=>bnext h k) wr (below_drew1 wr) (by kernel_rfl) (by kernel_rfl) (by kernel_rfl) (by kernel_rfl) (by rfl) _ _ rfl rfl rfl (by kernel_rfl) rfl (by decide) (plain_extract rfl) (fun _ _=>rfl) ?_
    simp only [List.take_succ_cons,List.take_zero,List.drop_succ_cons,List.drop_zero]
    refine wkI (.agg (cwA 6 0 hd0 zx)) (fun u X' hX hd=>?_) ?_
    ·have hl:=run_loadVar_row X' gx 34 34 _ (0,0) _ (HTC.out.kx.below hX) Tryz.underlying34 rfl infoCrw
     try simp at hd
     refine op_load_at 34 (gx) (0) hl _ rfl ?_
     go_simp
    refine wkI (.slice (some ⟨tb,to,none⟩) tn tc) (fun u X' hX hd=>?_) ?_
    ·obtain ⟨y0,y1,y2,yl⟩:=HT.out.2 X' (bnext HB.out hX)
     try simp at hd
     go_simp
     try rfl
    refine wkI (.int .i64 (i:Int)) (fun u X' hX hd=>?_) ?_
    ·obtain ⟨y0,y1,y2,yl⟩:=HT.out.2 X' (bnext HB.out hX)
     try simp at hd
     go_simp
     try rfl
    refine wkI (.pointer (some ⟨tb,to + i * 3,none⟩)) (fun u X' hX hd=>?_) ?_
    ·obtain ⟨y0,y1,y2,yl⟩:=HT.out.2 X' (bnext HB.out hX)
     try simp at hd
     go_simp
     try rfl
    refine wkI (.pointer (some ⟨tb,to + i * 3 + 1,none⟩)) (fun u X' hX hd=>?_) ?_
    ·obtain ⟨y0,y1,y2,yl⟩:=HT.out.2 X' (bnext HB.out hX)
     try simp at hd
     go_simp
     try rfl
    refine wkI (.int .i64 tr.worker) (fun u X' hX hd=>?_) ?_
    ·obtain ⟨y0,y1,y2,yl⟩:=HT.out.2 X' (bnext HB.out hX)
     try simp at hd
     go_simp
     try rfl
    refine wkI (.slice (some ⟨tb,to,none⟩) tn tc) (fun u X' hX hd=>?_) ?_
    ·obtain ⟨y0,y1,y2,yl⟩:=HT.out.2 X' (bnext HB.out hX)
     try simp at hd
     go_simp
     try rfl
    refine wkI (.int .i64 (i:Int)) (fun u X' hX hd=>?_) ?_
    ·obtain ⟨y0,y1,y2,yl⟩:=HT.out.2 X' (bnext HB.out hX)
     try simp at hd
     go_simp
     try rfl
    refine wkI (.pointer (some ⟨tb,to + i * 3,none⟩)) (fun u X' hX hd=>?_) ?_
    ·obtain ⟨y0,y1,y2,yl⟩:=HT.out.2 X' (bnext HB.out hX)
     try simp at hd
     go_simp
     try rfl
    refine wkI (.pointer (some ⟨tb,to + i * 3 + 2,none⟩)) (fun u X' hX hd=>?_) ?_
    ·obtain ⟨y0,y1,y2,yl⟩:=HT.out.2 X' (bnext HB.out hX)
     try simp at hd
     go_simp
     try rfl
    refine wkI (.int .i64 tr.seq) (fun u X' hX hd=>?_) ?_
    ·obtain ⟨y0,y1,y2,yl⟩:=HT.out.2 X' (bnext HB.out hX)
     try simp at hd
     go_simp
     try rfl
    refine walkK_call (errV 6 0 hd0 X2 zx wr.heap.size r) 12 ?_ (by first | exact gs0 rfl | exact gs1 rfl rfl rfl) (fun v x y hb h=>errV_keep v x y hb h) (fun u X' hX hd=>?_) (fun X' hX=>?_) ?_
    rotate_left
    ·obtain ⟨y0,y1,y2,yl⟩:=HT.out.2 X' (bnext HB.out hX)
     try simp at hd
     go_simp
     try rfl
    ·exact (hp1.out X' (HTC.out.ix.below hX)).mono fun _ _ h=>h.says hX.size
    refine wkN ?_
    refine walkK_new (errV 6 0 hd0 X2 zx wr.heap.size r) (by first | exact gs0 rfl | exact gs1 rfl rfl rfl) (fun v x y hb h=>errV_keep v x y hb h) (fun u X' hX hd=>?_) ?_
    ·simp at hd
     refine ⟨u 11,X',?_,Below.refl _ _,hd⟩
     go_simp
    refine wkN ?_
    refine walkK_new (cwV 6 0 hd0 X2 zx wr.heap.size) (by first | exact gs0 rfl | exact gs1 rfl rfl rfl) (fun v x y hb h=>cwV_keep v x y hb h) (fun u X' hX hd=>?_) ?_
    ·simp at hd
     obtain ⟨z1,hv,hI,ho⟩:=hd
     refine ⟨.agg (cwA 6 0 hd0 z1),X',?_,Below.refl _ _,z1,rfl,hI,ho⟩
     go_simp
    refine wkN ?_
    refine walkK_is (.int .i64 r) (by first | exact gs0 rfl | exact gs1 rfl rfl rfl) (fun _=>Below.refl _ _) (fun u X' hX hd=>?_) ?_
    ·simp at hd
     obtain ⟨z1,hv,hI,ho⟩:=hd
     go_simp
    refine walkK_last ?_
    intro u X' hX hsay
    have v0:=sayAll_put hsay 0 (.agg (cwA 6 0 hd0 zx)) rfl
    have vx:cwV 6 0 hd0 X2 zx wr.heap.size (u 13) X':=sayAll_get hsay (j:=13) (φ:=cwV 6 0 hd0 X2 zx wr.heap.size) rfl
    have ve:=sayAll_put hsay 14 (.int .i64 r) rfl
    clear hsay
    obtain ⟨z1,vx,hz1,ho1⟩:=vx
    refine ⟨_,exec_st_cw (n:=6) (no:=0) (H:=hd0) (z:=z1) gx (HTC.out.kx.below hX) rfl _ _ rfl rfl (by simp [look,findAt,vx]),?_⟩
    simp only [putAll,Act.put,v0,vx,ve,List.setIfInBounds_toArray,List.set_cons_succ,List.set_cons_zero,Nat.zero_add,Nat.reduceAdd]
    clear v0 vx ve
    obtain ⟨V1,hV1⟩:∃ V,V=X'.setRow gx (cwA 6 0 hd0 z1):=⟨_,rfl⟩
    have T1:=Lib.hid (HTC.out.setx hX hz1 ho1)
    have B1:Hid (Below w.heap.size w V1):=Lib.hid (by rw [hV1];exact below_row (bnext HB.out hX) hwx _)
    rw [← hV1] at T1 ⊢
    clear hV1 hz1 ho1 hX
    go_wp2
    try simp only [List.append_eq,List.cons_append,List.nil_append]
    refine wp_region_saysT 15 14 (fun x y=>Below x.heap.size x y) (fun _ _ _ h k=>bnext h k) V1 (below_drew1 V1) (by kernel_rfl) (by kernel_rfl) (by kernel_rfl) (by kernel_rfl) (by rfl) _ _ rfl rfl rfl (by kernel_rfl) rfl (by decide) (plain_extract rfl) (fun _ _=>rfl) ?_
    simp only [List.take_succ_cons,List.take_zero,List.drop_succ_cons,List.drop_zero]
    refine wkI (.agg (cwA 6 0 hd0 zy)) (fun u X' hX hd=>?_) ?_
    ·have hl:=run_loadVar_row X' gy 34 34 _ (0,0) _ (T1.out.ky.below hX) Tryz.underlying34 rfl infoCrw
     try simp at hd
     refine op_load_at 34 (gy) (0) hl _ rfl ?_
     go_simp
    refine wkI (.slice (some ⟨tb,to,none⟩) tn tc) (fun u X' hX hd=>?_) ?_
    ·obtain ⟨y0,y1,y2,yl⟩:=HT.out.2 X' (bnext B1.out hX)
     try simp at hd
     go_simp
     try rfl
    refine wkI (.int .i64 (i:Int)) (fun u X' hX hd=>?_) ?_
    ·obtain ⟨y0,y1,y2,yl⟩:=HT.out.2 X' (bnext B1.out hX)
     try simp at hd
     go_simp
     try rfl
    refine wkI (.pointer (some ⟨tb,to + i * 3,none⟩)) (fun u X' hX hd=>?_) ?_
    ·obtain ⟨y0,y1,y2,yl⟩:=HT.out.2 X' (bnext B1.out hX)
     try simp at hd
     go_simp
     try rfl
    refine wkI (.pointer (some ⟨tb,to + i * 3 + 1,none⟩)) (fun u X' hX hd=>?_) ?_
    ·obtain ⟨y0,y1,y2,yl⟩:=HT.out.2 X' (bnext B1.out hX)
     try simp at hd
     go_simp
     try rfl
    refine wkI (.int .i64 tr.worker) (fun u X' hX hd=>?_) ?_
    ·obtain ⟨y0,y1,y2,yl⟩:=HT.out.2 X' (bnext B1.out hX)
     try simp at hd
     go_simp
     try rfl
    refine wkI (.slice (some ⟨tb,to,none⟩) tn tc) (fun u X' hX hd=>?_) ?_
    ·obtain ⟨y0,y1,y2,yl⟩:=HT.out.2 X' (bnext B1.out hX)
     try simp at hd
     go_simp
     try rfl
    refine wkI (.int .i64 (i:Int)) (fun u X' hX hd=>?_) ?_
    ·obtain ⟨y0,y1,y2,yl⟩:=HT.out.2 X' (bnext B1.out hX)
     try simp at hd
     go_simp
     try rfl
    refine wkI (.pointer (some ⟨tb,to + i * 3,none⟩)) (fun u X' hX hd=>?_) ?_
    ·obtain ⟨y0,y1,y2,yl⟩:=HT.out.2 X' (bnext B1.out hX)
     try simp at hd
     go_simp
     try rfl
    refine wkI (.pointer (some ⟨tb,to + i * 3 + 2,none⟩)) (fun u X' hX hd=>?_) ?_
    ·obtain ⟨y0,y1,y2,yl⟩:=HT.out.2 X' (bnext B1.out hX)
     try simp at hd
     go_simp
     try rfl
    refine wkI (.int .i64 tr.seq) (fun u X' hX hd=>?_) ?_
    ·obtain ⟨y0,y1,y2,yl⟩:=HT.out.2 X' (bnext B1.out hX)
     try simp at hd
     go_simp
     try rfl
    refine walkK_call (errV 6 0 hd0 X2 zy V1.heap.size r) 13 ?_ (by first | exact gs0 rfl | exact gs1 rfl rfl rfl) (fun v x y hb h=>errV_keep v x y hb h) (fun u X' hX hd=>?_) (fun X' hX=>?_) ?_
    rotate_left
    ·obtain ⟨y0,y1,y2,yl⟩:=HT.out.2 X' (bnext B1.out hX)
     try simp at hd
     go_simp
     try rfl
    ·exact (hp2.out X' (T1.out.iy.below hX)).mono fun _ _ h=>h.says hX.size
    refine wkN ?_
    refine walkK_new (errV 6 0 hd0 X2 zy V1.heap.size r) (by first | exact gs0 rfl | exact gs1 rfl rfl rfl) (fun v x y hb h=>errV_keep v x y hb h) (fun u X' hX hd=>?_) ?_
    ·simp at hd
     refine ⟨u 11,X',?_,Below.refl _ _,hd⟩
     go_simp
    refine wkN ?_
    refine walkK_new (cwV 6 0 hd0 X2 zy V1.heap.size) (by first | exact gs0 rfl | exact gs1 rfl rfl rfl) (fun v x y hb h=>cwV_keep v x y hb h) (fun u X' hX hd=>?_) ?_
    ·simp at hd
     obtain ⟨z2,hv,hI,ho⟩:=hd
     refine ⟨.agg (cwA 6 0 hd0 z2),X',?_,Below.refl _ _,z2,rfl,hI,ho⟩
     go_simp
    refine wkN ?_
    refine walkK_is (.int .i64 r) (by first | exact gs0 rfl | exact gs1 rfl rfl rfl) (fun _=>Below.refl _ _) (fun u X' hX hd=>?_) ?_
    ·simp at hd
     obtain ⟨z2,hv,hI,ho⟩:=hd
     go_simp
    refine walkK_last ?_
    intro u X' hX hsay
    have v0:=sayAll_put hsay 0 (.agg (cwA 6 0 hd0 zy)) rfl
    have vx:cwV 6 0 hd0 X2 zy V1.heap.size (u 13) X':=sayAll_get hsay (j:=13) (φ:=cwV 6 0 hd0 X2 zy V1.heap.size) rfl
    have ve:=sayAll_put hsay 14 (.int .i64 r) rfl
    clear hsay
    obtain ⟨z2,vx,hz2,ho1⟩:=vx
    refine ⟨_,exec_st_cw (n:=6) (no:=0) (H:=hd0) (z:=z2) gy (T1.out.ky.below hX) rfl _ _ rfl rfl (by simp [look,findAt,vx]),?_⟩
    simp only [putAll,Act.put,v0,vx,ve,List.setIfInBounds_toArray,List.set_cons_succ,List.set_cons_zero,Nat.zero_add,Nat.reduceAdd]
    clear v0 vx ve
    obtain ⟨V2,hV2⟩:∃ V,V=X'.setRow gy (cwA 6 0 hd0 z2):=⟨_,rfl⟩
    have T2:=Lib.hid (T1.out.sety hX hz2 ho1)
    have B2:Hid (Below w.heap.size w V2):=Lib.hid (by rw [hV2];exact below_row (bnext B1.out hX) hwy _)
    rw [← hV2] at T2 ⊢
    clear hV2 hz2 ho1 hX
    have hsm:=Lib.hid (sameCw_yes 6 0 hd0 X2 z1 z2 V2 T2.out.ix T2.out.iy (by decide) (by decide) (by have:=HOK2.out.few;omega) (by have:=HOK2.out.many;omega) HOK2.out.outs)
    go_wp2_with (first
     | (refine ld_cwG gx T2.out.kx _ rfl rfl (by rfl) ?_)
     | (refine ld_cwG gy T2.out.ky _ rfl rfl (by rfl) ?_)
     | (go_at_call 11;go_must ((with_reducible refine hsm.out.mono ?_);rintro e w6 ⟨rfl,hb6⟩;have T6:=Lib.hid (T2.out.below hb6);have B6:=Lib.hid (bnext B2.out hb6);clear hb6)))
    go_roundw
    case rel=>exact ⟨i + 1,X2,z1,z2,by omega,by go_num,HC2,T6,B6⟩
    case measure=>simp [intOf];omega
   | false=>
    obtain ⟨r,hr⟩:∃ r,r=(stepC X 3 tr.worker).2:=⟨_,rfl⟩
    obtain ⟨X2,hX2⟩:∃ X2,X2=(stepC X 3 tr.worker).1:=⟨_,rfl⟩
    have HC2:Hid (CInv (csOf l) b06 3 X2):=Lib.hid (by
     rw [hX2]
     by_cases h0:(stepC X 3 tr.worker).2=0
     ·exact HC.out.step HCS.out goodT6 h0
     ·rw [step_no tr.worker h0]
      exact HC.out)
    have hp1:Hid (∀ W,CwIs 6 0 X W zx→Calls Tryz.prog 14 #[.agg (cwA 6 0 hd0 zx),.int .i64 3,.int .i64 tr.worker] W (CwErr 6 0 hd0 X2 zx r W)):=Lib.hid (fun W hz=>by
     rw [hX2,hr]
     exact step_all 6 0 hd0 X zx 3 tr.worker W hz HOK.out (by decide) (by decide))
    have hp2:Hid (∀ W,CwIs 6 0 X W zy→Calls Tryz.prog 15 #[.agg (cwA 6 0 hd0 zy),.int .i64 3,.int .i64 tr.worker] W (CwErr 6 0 hd0 X2 zy r W)):=Lib.hid (fun W hz=>by
     rw [hX2,hr]
     exact rstep_all 6 0 hd0 X zy 3 tr.worker W hz HOK.out (by decide) (by decide))
    have HOK2:=Lib.hid (HC2.out.ok HCS.out goodT6 List.length_replicate (by have:=HR.out.few;omega))
    obtain ⟨y0,y1,y2,yl⟩:=HT.out.2 wr HB.out
    rw [hpk] at y0
    clear hr hX2
    go_wp2
    clear y0 y1 y2 yl
    try simp only [List.append_eq,List.cons_append,List.nil_append]
    refine wp_region_saysT 10 9 (fun x y=>Below x.heap.size x y) (fun _ _ _ h k=>bnext h k) wr (below_drew1 wr) (by kernel_rfl) (by kernel_rfl) (by kernel_rfl) (by kernel_rfl) (by rfl) _ _ rfl rfl rfl (by kernel_rfl) rfl (by decide) (plain_extract rfl) (fun _ _=>rfl) ?_
    simp only [List.take_succ_cons,List.take_zero,List.drop_succ_cons,List.drop_zero]
    refine wkI (.agg (cwA 6 0 hd0 zx)) (fun u X' hX hd=>?_) ?_
    ·have hl:=run_loadVar_row X' gx 34 34 _ (0,0) _ (HTC.out.kx.below hX) Tryz.underlying34 rfl infoCrw
     try simp at hd
     refine op_load_at 34 (gx) (0) hl _ rfl ?_
     go_simp
    refine wkI (.slice (some ⟨tb,to,none⟩) tn tc) (fun u X' hX hd=>?_) ?_
    ·obtain ⟨y0,y1,y2,yl⟩:=HT.out.2 X' (bnext HB.out hX)
     try simp at hd
     go_simp
     try rfl
    refine wkI (.int .i64 (i:Int)) (fun u X' hX hd=>?_) ?_
    ·obtain ⟨y0,y1,y2,yl⟩:=HT.out.2 X' (bnext HB.out hX)
     try simp at hd
     go_simp
     try rfl
    refine wkI (.pointer (some ⟨tb,to + i * 3,none⟩)) (fun u X' hX hd=>?_) ?_
    ·obtain ⟨y0,y1,y2,yl⟩:=HT.out.2 X' (bnext HB.out hX)
     try simp at hd
     go_simp
     try rfl
    refine wkI (.pointer (some ⟨tb,to + i * 3 + 1,none⟩)) (fun u X' hX hd=>?_) ?_
    ·obtain ⟨y0,y1,y2,yl⟩:=HT.out.2 X' (bnext HB.out hX)
     try simp at hd
     go_simp
     try rfl
    refine wkI (.int .i64 tr.worker) (fun u X' hX hd=>?_) ?_
    ·obtain ⟨y0,y1,y2,yl⟩:=HT.out.2 X' (bnext HB.out hX)
     try simp at hd
     go_simp
     try rfl
    refine walkK_call (errV 6 0 hd0 X2 zx wr.heap.size r) 14 ?_ (by first | exact gs0 rfl | exact gs1 rfl rfl rfl) (fun v x y hb h=>errV_keep v x y hb h) (fun u X' hX hd=>?_) (fun X' hX=>?_) ?_
    rotate_left
    ·obtain ⟨y0,y1,y2,yl⟩:=HT.out.2 X' (bnext HB.out hX)
     try simp at hd
     go_simp
     try rfl
    ·exact (hp1.out X' (HTC.out.ix.below hX)).mono fun _ _ h=>h.says hX.size
    refine wkN ?_
    refine walkK_new (errV 6 0 hd0 X2 zx wr.heap.size r) (by first | exact gs0 rfl | exact gs1 rfl rfl rfl) (fun v x y hb h=>errV_keep v x y hb h) (fun u X' hX hd=>?_) ?_
    ·simp at hd
     refine ⟨u 6,X',?_,Below.refl _ _,hd⟩
     go_simp
    refine wkN ?_
    refine walkK_new (cwV 6 0 hd0 X2 zx wr.heap.size) (by first | exact gs0 rfl | exact gs1 rfl rfl rfl) (fun v x y hb h=>cwV_keep v x y hb h) (fun u X' hX hd=>?_) ?_
    ·simp at hd
     obtain ⟨z1,hv,hI,ho⟩:=hd
     refine ⟨.agg (cwA 6 0 hd0 z1),X',?_,Below.refl _ _,z1,rfl,hI,ho⟩
     go_simp
    refine wkN ?_
    refine walkK_is (.int .i64 r) (by first | exact gs0 rfl | exact gs1 rfl rfl rfl) (fun _=>Below.refl _ _) (fun u X' hX hd=>?_) ?_
    ·simp at hd
     obtain ⟨z1,hv,hI,ho⟩:=hd
     go_simp
    refine walkK_last ?_
    intro u X' hX hsay
    have v0:=sayAll_put hsay 0 (.agg (cwA 6 0 hd0 zx)) rfl
    have vx:cwV 6 0 hd0 X2 zx wr.heap.size (u 8) X':=sayAll_get hsay (j:=8) (φ:=cwV 6 0 hd0 X2 zx wr.heap.size) rfl
    have ve:=sayAll_put hsay 9 (.int .i64 r) rfl
    clear hsay
    obtain ⟨z1,vx,hz1,ho1⟩:=vx
    refine ⟨_,exec_st_cw (n:=6) (no:=0) (H:=hd0) (z:=z1) gx (HTC.out.kx.below hX) rfl _ _ rfl rfl (by simp [look,findAt,vx]),?_⟩
    simp only [putAll,Act.put,v0,vx,ve,List.setIfInBounds_toArray,List.set_cons_succ,List.set_cons_zero,Nat.zero_add,Nat.reduceAdd]
    clear v0 vx ve
    obtain ⟨V1,hV1⟩:∃ V,V=X'.setRow gx (cwA 6 0 hd0 z1):=⟨_,rfl⟩
    have T1:=Lib.hid (HTC.out.setx hX hz1 ho1)
    have B1:Hid (Below w.heap.size w V1):=Lib.hid (by rw [hV1];exact below_row (bnext HB.out hX) hwx _)
    rw [← hV1] at T1 ⊢
    clear hV1 hz1 ho1 hX
    go_wp2
    try simp only [List.append_eq,List.cons_append,List.nil_append]
    refine wp_region_saysT 10 9 (fun x y=>Below x.heap.size x y) (fun _ _ _ h k=>bnext h k) V1 (below_drew1 V1) (by kernel_rfl) (by kernel_rfl) (by kernel_rfl) (by kernel_rfl) (by rfl) _ _ rfl rfl rfl (by kernel_rfl) rfl (by decide) (plain_extract rfl) (fun _ _=>rfl) ?_
    simp only [List.take_succ_cons,List.take_zero,List.drop_succ_cons,List.drop_zero]
    refine wkI (.agg (cwA 6 0 hd0 zy)) (fun u X' hX hd=>?_) ?_
    ·have hl:=run_loadVar_row X' gy 34 34 _ (0,0) _ (T1.out.ky.below hX) Tryz.underlying34 rfl infoCrw
     try simp at hd
     refine op_load_at 34 (gy) (0) hl _ rfl ?_
     go_simp
    refine wkI (.slice (some ⟨tb,to,none⟩) tn tc) (fun u X' hX hd=>?_) ?_
    ·obtain ⟨y0,y1,y2,yl⟩:=HT.out.2 X' (bnext B1.out hX)
     try simp at hd
     go_simp
     try rfl
    refine wkI (.int .i64 (i:Int)) (fun u X' hX hd=>?_) ?_
    ·obtain ⟨y0,y1,y2,yl⟩:=HT.out.2 X' (bnext B1.out hX)
     try simp at hd
     go_simp
     try rfl
    refine wkI (.pointer (some ⟨tb,to + i * 3,none⟩)) (fun u X' hX hd=>?_) ?_
    ·obtain ⟨y0,y1,y2,yl⟩:=HT.out.2 X' (bnext B1.out hX)
     try simp at hd
     go_simp
     try rfl
    refine wkI (.pointer (some ⟨tb,to + i * 3 + 1,none⟩)) (fun u X' hX hd=>?_) ?_
    ·obtain ⟨y0,y1,y2,yl⟩:=HT.out.2 X' (bnext B1.out hX)
     try simp at hd
     go_simp
     try rfl
    refine wkI (.int .i64 tr.worker) (fun u X' hX hd=>?_) ?_
    ·obtain ⟨y0,y1,y2,yl⟩:=HT.out.2 X' (bnext B1.out hX)
     try simp at hd
     go_simp
     try rfl
    refine walkK_call (errV 6 0 hd0 X2 zy V1.heap.size r) 15 ?_ (by first | exact gs0 rfl | exact gs1 rfl rfl rfl) (fun v x y hb h=>errV_keep v x y hb h) (fun u X' hX hd=>?_) (fun X' hX=>?_) ?_
    rotate_left
    ·obtain ⟨y0,y1,y2,yl⟩:=HT.out.2 X' (bnext B1.out hX)
     try simp at hd
     go_simp
     try rfl
    ·exact (hp2.out X' (T1.out.iy.below hX)).mono fun _ _ h=>h.says hX.size
    refine wkN ?_
    refine walkK_new (errV 6 0 hd0 X2 zy V1.heap.size r) (by first | exact gs0 rfl | exact gs1 rfl rfl rfl) (fun v x y hb h=>errV_keep v x y hb h) (fun u X' hX hd=>?_) ?_
    ·simp at hd
     refine ⟨u 6,X',?_,Below.refl _ _,hd⟩
     go_simp
    refine wkN ?_
    refine walkK_new (cwV 6 0 hd0 X2 zy V1.heap.size) (by first | exact gs0 rfl | exact gs1 rfl rfl rfl) (fun v x y hb h=>cwV_keep v x y hb h) (fun u X' hX hd=>?_) ?_
    ·simp at hd
     obtain ⟨z2,hv,hI,ho⟩:=hd
     refine ⟨.agg (cwA 6 0 hd0 z2),X',?_,Below.refl _ _,z2,rfl,hI,ho⟩
     go_simp
    refine wkN ?_
    refine walkK_is (.int .i64 r) (by first | exact gs0 rfl | exact gs1 rfl rfl rfl) (fun _=>Below.refl _ _) (fun u X' hX hd=>?_) ?_
    ·simp at hd
     obtain ⟨z2,hv,hI,ho⟩:=hd
     go_simp
    refine walkK_last ?_
    intro u X' hX hsay
    have v0:=sayAll_put hsay 0 (.agg (cwA 6 0 hd0 zy)) rfl
    have vx:cwV 6 0 hd0 X2 zy V1.heap.size (u 8) X':=sayAll_get hsay (j:=8) (φ:=cwV 6 0 hd0 X2 zy V1.heap.size) rfl
    have ve:=sayAll_put hsay 9 (.int .i64 r) rfl
    clear hsay
    obtain ⟨z2,vx,hz2,ho1⟩:=vx
    refine ⟨_,exec_st_cw (n:=6) (no:=0) (H:=hd0) (z:=z2) gy (T1.out.ky.below hX) rfl _ _ rfl rfl (by simp [look,findAt,vx]),?_⟩
    simp only [putAll,Act.put,v0,vx,ve,List.setIfInBounds_toArray,List.set_cons_succ,List.set_cons_zero,Nat.zero_add,Nat.reduceAdd]
    clear v0 vx ve
    obtain ⟨V2,hV2⟩:∃ V,V=X'.setRow gy (cwA 6 0 hd0 z2):=⟨_,rfl⟩
    have T2:=Lib.hid (T1.out.sety hX hz2 ho1)
    have B2:Hid (Below w.heap.size w V2):=Lib.hid (by rw [hV2];exact below_row (bnext B1.out hX) hwy _)
    rw [← hV2] at T2 ⊢
    clear hV2 hz2 ho1 hX
    have hsm:=Lib.hid (sameCw_yes 6 0 hd0 X2 z1 z2 V2 T2.out.ix T2.out.iy (by decide) (by decide) (by have:=HOK2.out.few;omega) (by have:=HOK2.out.many;omega) HOK2.out.outs)
    go_wp2_with (first
     | (refine ld_cwG gx T2.out.kx _ rfl rfl (by rfl) ?_)
     | (refine ld_cwG gy T2.out.ky _ rfl rfl (by rfl) ?_)
     | (go_at_call 11;go_must ((with_reducible refine hsm.out.mono ?_);rintro e w6 ⟨rfl,hb6⟩;have T6:=Lib.hid (T2.out.below hb6);have B6:=Lib.hid (bnext B2.out hb6);clear hb6)))
    go_roundw
    case rel=>exact ⟨i + 1,X2,z1,z2,by omega,by go_num,HC2,T6,B6⟩
    case measure=>simp [intOf];omega
  ·obtain rfl:i=tn:=by omega
   have f1:¬ (i:Int) < (i:Int):=by omega
   go_wp2_with (go_at_call 7;go_must ((with_reducible refine (aw.out _).mono ?_);rintro e w9 ⟨rfl,hb9⟩;have B9:=Lib.hid (bnext HB.out hb9);clear hb9))
   go_ret
   exact ⟨rfl,B9.out⟩
theorem crewPlays_walk (hz:n≤9223372036854775807) (w:World) (h:Cmds w A c l) (hN:l.length=n) (hts:Trns w tA tc ts) (htn:ts.length=tn) :
  Calls Tryz.prog 3 #[.slice A n c,.slice tA tn tc] w fun e w'=>e=.returned (.bool true)∧Below w.heap.size w w':=by
 by_cases hr:R17 l
 ·by_cases hm:150 < tn
  ·exact crewPlays_many l A n c tA tn tc w h hN hr hm
  ·exact crewPlays_main l A n c ts tA tn tc w h hN hr (by omega) hts htn
 ·exact crewPlays_no l A n c tA tn tc hz w h hN hr
end
end Go.Proofs.YtpaocjpjlogkgaaGreat
