/-
  Words and contracts of this claim, 10 texts laid into one, each under its own remark. No conditions but those that stand at each.
-/
import Derived.Test.YtpaocjpjlogkgaaGreatQMchF
import Derived.Test.YtpaocjpjlogkgaaGreatZSetL
import Derived.Test.YtpaocjpjlogkgaaGreatQRely
import Derived.Test.YtpaocjpjlogkgaaGreatQCelK
import Derived.Test.YtpaocjpjlogkgaaGreatQWords
import Derived.Test.YtpaocjpjlogkgaaGreatZRowT
import Derived.Test.YtpaocjpjlogkgaaGreatQCelA
import Derived.Test.YtpaocjpjlogkgaaGreatQMchSb
namespace Go.Proofs.YtpaocjpjlogkgaaGreat
set_option maxRecDepth 100000
set_option maxHeartbeats 32000000
open Go
open Go.Lib (hid)
section
open Go.RowKit
attribute [local go_sem] look findAt
attribute [local simp] depsOf isV Region.binds
theorem MRow.putB {B:Nat} {w:World} {st ou:List Int} {own:Blks} {sA:Option Addr} {sn sc:Nat} {oA:Option Addr} {on oc:Nat} {g bn bc:Nat} (h:MRow B w st ou own sA sn sc oA on oc (some ⟨g,0,none⟩) bn bc) (h8:∀ b∈own,b.length=8) {j:Nat} (hj:j < own.length) {y:List Int} (hy:y.length=8) :
  MRow B (w.setCells g (j * 8) (bkC y).toList) st ou (own.set j y) sA sn sc oA on oc (some ⟨g,0,none⟩) bn bc:=by
 have hb:=own_setCells (bkC y).toList (j * 8) h.bk
 rw [show (bkC y).toList=y.map (Value.int .i64) by simp [bkC]] at hb ⊢
 rw [blksW_set own h8 hj hy] at hb
 exact ⟨own_keep h.st (fun k _ hk=>heap_setCells _ _ _ k (fun e=>own_apart h.bk h.st (by decide) g rfl (e ▸ hk))),own_keep h.ou (fun k _ hk=>heap_setCells _ _ _ k (fun e=>own_apart h.bk h.ou (by decide) g rfl (e ▸ hk))),hb,h.tw⟩
theorem Rows3.setCells {B:Nat} {S O A:Value} {w W:World} (h:Rows3 B S O A w W) {g:Nat} (hg:A.ownBlock=some g) (hB:B≤g) (o:Nat) (vs:List Value):Rows3 B S O A w (W.setCells g o vs):=
 ⟨below_setCells h.below hB vs o,fun k hk h1 h2 h3=>(heap_setCells vs o W k (fun e=>h3 (by rw [hg,e]))).trans (h.kept k hk h1 h2 h3)⟩
section
variable (pc fuel:Int) (sA:Option Addr) (sc:Nat) (r0 r1 r2 r3:Int) (oA:Option Addr) (on oc:Nat) (ov:Bool) (e0:Int) (bA:Option Addr) (bn bc:Nat)
theorem takes_put (k j:Nat) (b:Int) (B:Nat) (st ou:List Int) (own:Blks) (w:World) (hB:B≤w.heap.size) (hR:MRow B w st ou own sA (k + 1) sc oA on oc bA bn bc) (hk:k≤1000) (h8:∀ x∈own,x.length=8) (hj:j < own.length) (hjn:own.length≤1000) :
  Calls Tryz.prog 112 #[.agg #[.int .i64 5,.int .i64 (j:Int),.int .i64 b],.agg (mC pc fuel (.slice sA (k + 1:Nat) sc) r0 r1 r2 r3 (.slice oA on oc) ov e0),.slice bA bn bc] w
   (StepPost B (.slice sA (k + 1:Nat) sc) (.slice oA on oc) (.slice bA bn bc) pc fuel (st.take k) r0 r1 r2 r3 ou ov e0 (own.set j (putC (own[j]?.getD []) b (st[k]?.getD 0))) w):=by
 obtain ⟨g,rfl,hg,hsc,hv⟩:=hR.top (j:=k) (Nat.le_refl _)
 have hbn:=hR.blen h8
 subst hbn
 obtain ⟨gb,cur,rfl,hgB,hgb,hbc,_,hcs,_⟩:=own_pos hR.bk (by omega)
 have hb0:=nR_below ⟨5,j,b⟩ (mC pc fuel (.slice (some ⟨g,0,none⟩) (k + 1:Nat) sc) r0 r1 r2 r3 (.slice oA on oc) ov e0) w
 have hat:=hid (atInt_in g 0 (k + 1) sc k _ (nR ⟨5,j,b⟩ (mC pc fuel (.slice (some ⟨g,0,none⟩) (k + 1:Nat) sc) r0 r1 r2 r3 (.slice oA on oc) ov e0) w) (by omega) hsc ((hb0.cell (p:=⟨g,0 + k,none⟩) hg).trans hv))
 have hk2:(k:Int) < (sc:Int):=by omega
 generalize st[k]?.getD 0=top at *
 have hR':=hid (hR.cut (k:=k) (by omega))
 have hbx:=hid (nR_box ⟨5,j,b⟩ (mC pc fuel (.slice (some ⟨g,0,none⟩) k sc) r0 r1 r2 r3 (.slice oA on oc) ov e0) w)
 have hrs:=hid (nR_res ⟨5,j,b⟩ (mC pc fuel (.slice (some ⟨g,0,none⟩) k sc) r0 r1 r2 r3 (.slice oA on oc) ov e0) w)
 have hin:=hid (nR_ins ⟨5,j,b⟩ (mC pc fuel (.slice (some ⟨g,0,none⟩) k sc) r0 r1 r2 r3 (.slice oA on oc) ov e0) w)
 have hbe:=hid (nR_below ⟨5,j,b⟩ (mC pc fuel (.slice (some ⟨g,0,none⟩) k sc) r0 r1 r2 r3 (.slice oA on oc) ov e0) w)
 have hatb:=hid (atBlk_in own _ bc j _ ((hR.blocks h8).below hbe.out) h8 hj)
 have H8:=hid h8
 have hl:(own[j]?.getD []).length=8:=by
  rw [List.getElem?_eq_getElem hj]
  exact h8 _ (List.getElem_mem _)
 have hpu:=hid (fun W=>put_any (own[j]?.getD []) hl b top W)
 have hyl:(putC (own[j]?.getD []) b top).length=8:=by rw [putC_length,hl]
 have hJ:=hid hj
 have hCS:=hid hcs
 have d1:(j:Int) < (own.length:Int):=by omega
 have d2:(j:Int) < (bc:Int):=by omega
 have GB:=hid hgb
 have hglt:=hgb.lt
 have i8:=infoBlk hl
 have s8:(bkC (own[j]?.getD [])).size=8:=by rw [bkC_size,hl]
 have i8y:=infoBlk hyl
 have HY:=hid hyl
 generalize putC (own[j]?.getD []) b top=y at *
 generalize own[j]?.getD []=x at *
 clear hv hR hb0 h8 hgb hcs hj hyl
 go_enter Tryz.func112,Tryz.ntmps112
 go_wp2_with (first
  | (go_at_call 127;go_must ((with_reducible refine hat.out.mono ?_);rintro e w1 ⟨rfl,rfl⟩))
  | (go_at_call 128;go_must ((with_reducible refine hatb.out.mono ?_);rintro e w1 ⟨rfl,hb1⟩;have I1:=hid (hin.out.below hb1);have X1:=hid (hbx.out.below hb1);have R1:=hid (hrs.out.below hb1);have B1:=hid (bnext hbe.out hb1);have N1:=hid (Bk.new w1 74 (bkC (List.replicate 8 0)));have L1:=R1.out.lt;rw [bkC_noughts] at N1;clear hb1))
  | (refine wpList_store_row rfl 74 _ _ rfl w1.heap.size (bkC x) rfl rfl 74 _ N1.out i8 (by rw [s8];rfl) (bkC_all x) ?_))
 obtain ⟨wr,hW⟩:∃ W,W=(w1.alloc (.cells #[.int .i64 0,.int .i64 0,.int .i64 0,.int .i64 0,.int .i64 0,.int .i64 0,.int .i64 0,.int .i64 0] 74)).setRow w1.heap.size (bkC x):=⟨_,rfl⟩
 have hF:∀ {q:Nat} {t:TypeId} {cs:Array Value},Bk w1 q t cs→Bk wr q t cs:=fun {q t cs} h=>by
  rw [hW]
  exact (h.alloc _).farRow (by have:=h.lt;omega) _
 have I2:=hid (hF I1.out)
 have X2:=hid (hF X1.out)
 have R2:=hid (hF R1.out)
 have G2:=hid (hF (GB.out.below B1.out))
 have N2:Hid (Bk wr w1.heap.size 74 (bkC x)):=hid (by rw [hW];exact Bk.setRow N1.out _)
 have BB:Hid (Below w1.heap.size w1 wr):=hid (by rw [hW];exact below_row ((Below.refl _ _).alloc (Nat.le_refl _) _) (Nat.le_refl _) _)
 have lb:Hid (∀ X,Below wr.heap.size wr X→(loadVar 74 ⟨w1.heap.size,0,none⟩).run Tryz.prog X=.ok (.agg (bkC x)) X):=hid (fun X hX=>load_blk hl (N2.out.below hX))
 have la:Hid (∀ X,Below wr.heap.size wr X→X.cell? ⟨w.heap.size,1,none⟩=some (.int .i64 (j:Int))∧X.cell? ⟨w.heap.size,2,none⟩=some (.int .i64 b)):=hid (fun X hX=>⟨(I2.out.below hX).three.2.1,(I2.out.below hX).three.2.2.1⟩)
 rw [← hW]
 clear hW hF
 try simp only [List.append_eq,List.cons_append,List.nil_append]
 refine wp_region_saysK 9 (fun x y=>Below x.heap.size x y) (fun _ _ _ h k=>bnext h k) wr (below_drew1 wr) (by kernel_rfl) (by kernel_rfl) (by kernel_rfl) (by kernel_rfl) (by rfl) ?_
 simp only [List.take_succ_cons,List.take_zero,List.drop_succ_cons,List.drop_zero]
 iterate 3
  refine walkK_is ?_ (by exact gs0 rfl) (fun _=>Below.refl _ _) (fun u X hX hd=>?_) ?_
  rotate_left
  ·obtain ⟨e1,e2⟩:=la.out X hX
   try simp at hd
   go_simp
   try rfl
  refine wkN ?_
 refine walkK_is (.agg (bkC x)) (by exact gs0 rfl) (fun _=>Below.refl _ _) (fun u X hX hd=>op_load_blk w1.heap.size (lb.out X hX) _ rfl rfl) ?_
 iterate 3
  refine wkN ?_
  refine walkK_is ?_ (by exact gs0 rfl) (fun _=>Below.refl _ _) (fun u X hX hd=>?_) ?_
  rotate_left
  ·obtain ⟨e1,e2⟩:=la.out X hX
   try simp at hd
   go_simp
   try rfl
 refine wkN ?_
 refine walkK_call (isV (.agg (bkC y))) 129 ?_ (by exact gs0 rfl) (fun _ _ _ _ h=>h) (fun u X hX hd=>?_) (fun X hX=>?_) ?_
 rotate_left
 ·obtain ⟨e1,e2⟩:=la.out X hX
  try simp at hd
  go_simp
  try rfl
 ·exact (hpu.out X).mono fun e X' ⟨he,hb⟩=>⟨_,he,hb,rfl⟩
 refine wkN ?_
 refine walkK_is ?_ (by exact gs0 rfl) (fun _=>Below.refl _ _) (fun u X hX hd=>?_) ?_
 rotate_left
 ·obtain ⟨e1,e2⟩:=la.out X hX
  try simp at hd
  go_simp
  try rfl
 refine wkN ?_
 intro u X hX hsay
 simp only [sayAll,isV] at hsay
 obtain ⟨v0,v1,v2,v3,v4,v5,v6,v7,v8,-⟩:=hsay
 have C2:=G2.out.below hX
 have X3:=hid (((X2.out.below hX).setCells (h:=gb) (by omega) (j * 8) (bkC y).toList))
 have R3:=hid (((R2.out.below hX).setCells (h:=gb) (by omega) (j * 8) (bkC y).toList))
 have M3:=hid ((((hR'.out.below B1.out).below BB.out).below hX).putB H8.out hJ.out HY.out)
 have B3:Hid (Rows3 B (.slice (some ⟨g,0,none⟩) (k + 1:Nat) sc) (.slice oA on oc) (.slice (some ⟨gb,0,none⟩) own.length bc) w (X.setCells gb (j * 8) (bkC y).toList)):=hid ((Rows3.start hB (bnext (bnext B1.out BB.out) hX)).setCells rfl hgB (j * 8) (bkC y).toList)
 have ht:=hid (C2.there (o:=j * 8) (n:=(bkC y).size) (by rw [bkC_size,HY.out,hCS.out];have:=hJ.out;omega))
 simp only [putAll,Act.put,v0,v1,v2,v3,v4,v5,v6,v7,v8,List.setIfInBounds_toArray,List.set_cons_succ,List.set_cons_zero]
 clear C2 v0 v1 v2 v3 v4 v5 v6 v7 v8
 go_wp2_with (first
  | (refine wpList_store_mid rfl 74 _ _ rfl gb (j * 8) (bkC y) rfl rfl ht.out i8y (bkC_all y) ?_)
  | (with_reducible refine ld_mach (w.heap.size + 1) X3.out _ rfl rfl rfl ?_)
  | (with_reducible refine st_mach (w.heap.size + 1 + 1) R3.out rfl rfl _ _ rfl rfl rfl rfl ?_))
 exact bodyPost_ret (v:=.tuple #[.agg (mC pc fuel (.slice (some ⟨g,0,none⟩) k sc) r0 r1 r2 r3 (.slice oA on oc) ov e0),.slice (some ⟨gb,0,none⟩) own.length bc]) (res2_mach rfl _ _ (w.heap.size + 1 + 1) _ rfl rfl (Bk.setRow R3.out _)) rfl
  ⟨_,_,_,_,_,_,_,_,_,rfl,M3.out.setRow (hR'.out.off (by omega)) _,B3.out.setRow hB (by omega) _⟩
end
end
section
open Go.RowKit
attribute [local go_sem] look findAt
attribute [local simp] depsOf isV Region.binds
abbrev sB (cm:Array Value) (cs:Array Value) (w:World):World:=((w.alloc (.cells cm 56)).alloc (.cells cs 64)).alloc (.cells mZ 64)
theorem sB_below (cm cs:Array Value) (w:World):Below w.heap.size w (sB cm cs w):=bnext (bnext (below_alloc1 _ _) (below_alloc1 _ _)) (below_alloc1 _ _)
theorem sB_cmd (cm cs:Array Value) (w:World):Bk (sB cm cs w) w.heap.size 56 cm:=((Bk.new w _ _).alloc _).alloc _
theorem sB_box (cm cs:Array Value) (w:World):Bk (sB cm cs w) (w.heap.size + 1) 64 cs:=by
 have:=(Bk.new (w.alloc (.cells cm 56)) 64 cs).alloc (.cells mZ 64)
 rwa [World.size_alloc] at this
theorem sB_res (cm cs:Array Value) (w:World):Bk (sB cm cs w) (w.heap.size + 1 + 1) 64 mZ:=by
 have:=Bk.new ((w.alloc (.cells cm 56)).alloc (.cells cs 64)) 64 mZ
 rwa [World.size_alloc,World.size_alloc] at this
def rowV (B:Nat) (e:TypeId) (size n:Nat) (xs:List Value):Says:=fun v w=>∃ A c,v=.slice A n c∧w.ownsRow B e size (.slice A n c) n xs
theorem rowV_keep {B:Nat} {e:TypeId} {size n:Nat} {xs:List Value} (v:Value) (w w':World) (hb:Below w.heap.size w w') (h:rowV B e size n xs v w):rowV B e size n xs v w':=by
 obtain ⟨A,c,rfl,ho⟩:=h
 exact ⟨A,c,rfl,own_below ho hb⟩
theorem rowV_lies {B:Nat} {e:TypeId} {size n:Nat} {xs:List Value} (v:Value) (w:World) (h:rowV B e size n xs v w):liesIn v w:=by
 obtain ⟨A,c,rfl,ho⟩:=h
 exact own_lies ho
theorem rowV_call {f:FuncId} {args:Array Value} {w:World} {B:Nat} {e:TypeId} {size n:Nat} {xs:List Value} (hB:B≤w.heap.size)
  (h:Calls Tryz.prog f args w fun en w'=>∃ A c,en=.returned (.slice A n c)∧w'.ownsRow w.heap.size e size (.slice A n c) n xs∧Below w.heap.size w w') :
  Calls Tryz.prog f args w fun en w'=>∃ v,en=.returned v∧Below w.heap.size w w'∧rowV B e size n xs v w'∧newTo v w:=
 h.mono fun _ _ ⟨A,c,he,ho,hb⟩=>⟨_,he,hb,⟨A,c,rfl,own_lower ho hB⟩,newTo_own ho⟩
theorem ints_oneC (l:List Int):∀ u∈l.map (Value.int .i64),u.oneCell'=true:=by
 intro u hu
 obtain ⟨x,_,rfl⟩:=List.mem_map.1 hu
 rfl
theorem MRow.min {B:Nat} {w:World} {st ou:List Int} {own:Blks} {sA:Option Addr} {sn sc:Nat} {oA:Option Addr} {on oc:Nat} {bA:Option Addr} {bn bc:Nat} (h:MRow B w st ou own sA sn sc oA on oc bA bn bc):MIn w st ou own sA sn sc oA on oc bA bn bc:=⟨Sl.own' h.st,Sl.own' h.ou,Sl.own' h.bk⟩
theorem own_offA {w:World} {B n c G:Nat} {e:TypeId} {size:Nat} {A:Option Addr} {xs:List Value} (h:w.ownsRow B e size (.slice A n c) n xs) (hG:G < B):offA G A n:=fun hn b off he=>by
 obtain ⟨g,_,rfl,hb,_⟩:=own_pos h hn
 injection he with he
 injection he with he
 omega
theorem MRow.off3 {B G:Nat} {w:World} {st ou:List Int} {own:Blks} {sA:Option Addr} {sn sc:Nat} {oA:Option Addr} {on oc:Nat} {bA:Option Addr} {bn bc:Nat} (h:MRow B w st ou own sA sn sc oA on oc bA bn bc) (hG:G < B):off3 G sA sn oA on bA bn:=⟨own_offA h.st hG,own_offA h.ou hG,own_offA h.bk hG⟩
theorem Sl.offSet {w w':World} {size n c G:Nat} {A:Option Addr} {xs:List Value} (h:Sl w size A n c xs) (ho:offA G A n) (hs:w.heap.size≤w'.heap.size) (hk:∀ k,k≠G→k < w.heap.size→w'.heap[k]? = w.heap[k]?):Sl w' size A n c xs:=
 ⟨h.1,h.2.1,h.2.2.1,fun hn=>by
  obtain ⟨b,off,e,hb,hc⟩:=h.2.2.2 hn
  exact ⟨b,off,e,by omega,fun j hj=>(World.cell?_of_block (hk b (ho hn b off e) hb)).trans (hc j hj)⟩⟩
theorem MIn.offSet {w w':World} {st ou:List Int} {own:Blks} {sA:Option Addr} {sn sc:Nat} {oA:Option Addr} {on oc:Nat} {bA:Option Addr} {bn bc:Nat} {G:Nat} (h:MIn w st ou own sA sn sc oA on oc bA bn bc) (ho:off3 G sA sn oA on bA bn) (hs:w.heap.size≤w'.heap.size) (hk:∀ k,k≠G→k < w.heap.size→w'.heap[k]? = w.heap[k]?):MIn w' st ou own sA sn sc oA on oc bA bn bc:=
 ⟨h.st.offSet ho.1 hs hk,h.ou.offSet ho.2.1 hs hk,h.bk.offSet ho.2.2 hs hk⟩
theorem MIn.setRow {w:World} {st ou:List Int} {own:Blks} {sA:Option Addr} {sn sc:Nat} {oA:Option Addr} {on oc:Nat} {bA:Option Addr} {bn bc:Nat} {G:Nat} (h:MIn w st ou own sA sn sc oA on oc bA bn bc) (ho:off3 G sA sn oA on bA bn) (cs:Array Value):MIn (w.setRow G cs) st ou own sA sn sc oA on oc bA bn bc:=
 h.offSet ho (by simp) (fun k hk _=>setRow_other w G k cs hk)
def SPost (pc fuel:Int) (st:List Int) (r0 r1 r2 r3:Int) (ou:List Int) (ov:Bool) (e0:Int) (own:Blks) (w:World) (e:Ending) (w':World):Prop:=
 ∃ sA sn sc oA on oc bA bn bc,e=.returned (.tuple #[.agg (mC pc fuel (.slice sA sn sc) r0 r1 r2 r3 (.slice oA on oc) ov e0),.slice bA bn bc])∧MIn w' st ou own sA sn sc oA on oc bA bn bc∧Below w.heap.size w w'∧∀ G,G < w.heap.size→off3 G sA sn oA on bA bn
section
variable (ra:Option Addr) (nr rc:Nat) (wa:Option Addr) (nw wc:Nat) (aa:Option Addr) (na ac:Nat) (cf:Int) (ca:Option Addr) (nc cc:Nat)
variable (pc fuel:Int) (sA:Option Addr) (sn sc:Nat) (r0 r1 r2 r3:Int) (oA:Option Addr) (on oc:Nat) (ov:Bool) (e0:Int) (bA:Option Addr) (bn bc:Nat)
theorem step_ov (st ou:List Int) (own:Blks) (w:World) (hM:MIn w st ou own sA sn sc oA on oc bA bn bc) (hs:sn≤1000) (ho:on≤1000) (hbn:bn≤1000) :
  Calls Tryz.prog 44 #[cmV ra nr rc wa nw wc aa na ac cf ca nc cc,.agg (mC pc fuel (.slice sA sn sc) r0 r1 r2 r3 (.slice oA on oc) true e0),.slice bA bn bc] w (SPost pc fuel st r0 r1 r2 r3 ou true e0 own w):=by
 have cl1:=hid (fun (W:World) (hW:Below w.heap.size w W)=>rowV_call (B:=w.heap.size) hW.size (clone_ints sA sn sc _ W (hM.st.below hW) hs (ints_oneC st)))
 have cl2:=hid (fun (W:World) (hW:Below w.heap.size w W)=>rowV_call (B:=w.heap.size) hW.size (clone_ints oA on oc _ W (hM.ou.below hW) ho (ints_oneC ou)))
 have cl3:=hid (fun (W:World) (hW:Below w.heap.size w W)=>rowV_call (B:=w.heap.size) hW.size (clone_blks bA bn bc _ W (hM.bk.below hW) hbn (blksW_one own)))
 obtain ⟨wr,hW⟩:∃ W,W=((w.alloc (.cells #[.slice ra nr rc,.slice wa nw wc,.slice aa na ac,.int .i64 cf,.slice ca nc cc] 56)).alloc (.cells (mC pc fuel (.slice sA sn sc) r0 r1 r2 r3 (.slice oA on oc) true e0) 64)).alloc (.cells mZ 64):=⟨_,rfl⟩
 have B0:Hid (Below w.heap.size w wr):=hid (by rw [hW];exact sB_below _ _ _)
 have C0:Hid (Bk wr w.heap.size 56 #[.slice ra nr rc,.slice wa nw wc,.slice aa na ac,.int .i64 cf,.slice ca nc cc]):=hid (by rw [hW];exact sB_cmd _ _ _)
 have X0:Hid (Bk wr (w.heap.size + 1) 64 (mC pc fuel (.slice sA sn sc) r0 r1 r2 r3 (.slice oA on oc) true e0)):=hid (by rw [hW];exact sB_box _ _ _)
 have R0:Hid (Bk wr (w.heap.size + 1 + 1) 64 mZ):=hid (by rw [hW];exact sB_res _ _ _)
 have la:Hid (∀ X,Below wr.heap.size wr X→X.cell? ⟨w.heap.size + 1,2,none⟩=some (.slice sA sn sc)∧X.cell? ⟨w.heap.size + 1,7,none⟩=some (.slice oA on oc)):=hid (fun X hX=>⟨(X0.out.below hX).cell 2,(X0.out.below hX).cell 7⟩)
 clear hM
 go_enter Tryz.func44,Tryz.ntmps44
 go_wp2
 rw [← hW]
 clear hW
 try simp only [List.append_eq,List.cons_append,List.nil_append]
 refine wp_region_saysA 9 (fun x y=>Below x.heap.size x y) (fun _ _ _ h k=>bnext h k) (fun i=>i == 2 || i == 5 || i == 7) wr (below_drew1 wr) (by kernel_rfl) (by kernel_rfl) (by kernel_rfl) (by kernel_rfl) (by rfl) ?_
 simp only [List.take_succ_cons,List.take_zero,List.drop_succ_cons,List.drop_zero]
 refine walkA_is ?_ rfl (fun _=>Below.refl _ _) (fun u X hX hd=>?_) ?_
 rotate_left
 ·obtain ⟨e1,e2⟩:=la.out X hX
  try simp at hd
  go_simp
  try rfl
 apply walkA_norm
 ·first | (simp only [List.nil_append];rfl) | simp only [List.nil_append]
 refine walkA_is ?_ rfl (fun _=>Below.refl _ _) (fun u X hX hd=>?_) ?_
 rotate_left
 ·obtain ⟨e1,e2⟩:=la.out X hX
  try simp at hd
  go_simp
  try rfl
 apply walkA_norm
 ·first | (simp only [List.nil_append,List.cons_append];rfl) | simp only [List.nil_append,List.cons_append]
 refine walkA_row (rowV w.heap.size 3 1 sn (st.map (.int .i64))) 77 ?_ (fun v x y hb h=>rowV_keep v x y hb h) (fun v x h=>rowV_lies v x h) (fun u X hX hd=>?_) (fun X hX=>?_) ?_
 rotate_left
 ·obtain ⟨e1,e2⟩:=la.out X hX
  try simp at hd
  go_simp
  try rfl
 ·exact cl1.out X (bnext B0.out hX)
 iterate 2
  apply walkA_norm
  ·first | (simp only [List.nil_append,List.cons_append];rfl) | simp only [List.nil_append,List.cons_append]
  refine walkA_is ?_ rfl (fun _=>Below.refl _ _) (fun u X hX hd=>?_) ?_
  rotate_left
  ·obtain ⟨e1,e2⟩:=la.out X hX
   try simp at hd
   go_simp
   try rfl
 apply walkA_norm
 ·first | (simp only [List.nil_append,List.cons_append];rfl) | simp only [List.nil_append,List.cons_append]
 refine walkA_row (rowV w.heap.size 3 1 on (ou.map (.int .i64))) 77 ?_ (fun v x y hb h=>rowV_keep v x y hb h) (fun v x h=>rowV_lies v x h) (fun u X hX hd=>?_) (fun X hX=>?_) ?_
 rotate_left
 ·obtain ⟨e1,e2⟩:=la.out X hX
  try simp at hd
  go_simp
  try rfl
 ·exact cl2.out X (bnext B0.out hX)
 apply walkA_norm
 ·first | (simp only [List.nil_append,List.cons_append];rfl) | simp only [List.nil_append,List.cons_append]
 refine walkA_is ?_ rfl (fun _=>Below.refl _ _) (fun u X hX hd=>?_) ?_
 rotate_left
 ·obtain ⟨e1,e2⟩:=la.out X hX
  try simp at hd
  go_simp
  try rfl
 apply walkA_norm
 ·first | (simp only [List.nil_append,List.cons_append];rfl) | simp only [List.nil_append,List.cons_append]
 refine walkA_row (rowV w.heap.size 74 8 bn (blksW own)) 78 ?_ (fun v x y hb h=>rowV_keep v x y hb h) (fun v x h=>rowV_lies v x h) (fun u X hX hd=>?_) (fun X hX=>?_) ?_
 rotate_left
 ·obtain ⟨e1,e2⟩:=la.out X hX
  try simp at hd
  go_simp
  try rfl
 ·exact cl3.out X (bnext B0.out hX)
 apply walkA_norm
 ·first | (simp only [List.nil_append,List.cons_append];rfl) | simp only [List.nil_append,List.cons_append]
 refine walkA_is ?_ rfl (fun _=>Below.refl _ _) (fun u X hX hd=>?_) ?_
 rotate_left
 ·obtain ⟨e1,e2⟩:=la.out X hX
  try simp at hd
  go_simp
  try rfl
 apply walkA_norm
 ·first | (simp only [List.nil_append,List.cons_append];rfl) | simp only [List.nil_append,List.cons_append]
 intro u X hX hsay htw
 simp only [sayAll,isV] at hsay
 obtain ⟨v0,v1,⟨sA',sc',v2,hs2⟩,v3,v4,⟨oA',oc',v5,ho2⟩,v6,⟨bA',bc',v7,hb2⟩,v8,-⟩:=hsay
 have htw2:=htw 2 5 (by decide) (by decide) (by decide) rfl rfl
 rw [v2,v5] at htw2
 have M1:Hid (MRow w.heap.size X st ou own sA' sn sc' oA' on oc' bA' bn bc'):=hid ⟨hs2,ho2,hb2,htw2⟩
 have X1:=hid (X0.out.below hX)
 have hof:=hid (M1.out.offM X1.out)
 have X2:Hid (Bk ((X.setCell ⟨w.heap.size + 1,2,none⟩ (.slice sA' sn sc')).setCell ⟨w.heap.size + 1,7,none⟩ (.slice oA' on oc')) (w.heap.size + 1) 64 (mC pc fuel (.slice sA' sn sc') r0 r1 r2 r3 (.slice oA' on oc') true e0)):=hid (by simpa using (X1.out.set 2 (.slice sA' sn sc')).set 7 (.slice oA' on oc'))
 have R2:=hid (((R0.out.below hX).far (p:=⟨w.heap.size + 1,2,none⟩) (by simp) (.slice sA' sn sc')).far (p:=⟨w.heap.size + 1,7,none⟩) (by simp) (.slice oA' on oc'))
 have C2:=hid (((C0.out.below hX).far (p:=⟨w.heap.size + 1,2,none⟩) (by simp) (.slice sA' sn sc')).far (p:=⟨w.heap.size + 1,7,none⟩) (by simp) (.slice oA' on oc'))
 have M2:=hid ((M1.out.set hof.out 2 (.slice sA' sn sc')).set hof.out 7 (.slice oA' on oc'))
 have B2:=hid (((bnext B0.out hX).setCell (p:=⟨w.heap.size + 1,2,none⟩) (by simp) (.slice sA' sn sc')).setCell (p:=⟨w.heap.size + 1,7,none⟩) (by simp) (.slice oA' on oc'))
 have z0:=X1.out.cell 2
 have z1:=X1.out.cell 7
 have z2:=X1.out.cell 8
 have z3:=X1.out.cell 0
 have z4:=X1.out.cell 1
 have zf:=X1.out.frozen
 have zl:=X1.out.lt
 simp only [List.getElem?_toArray,List.getElem?_cons_zero,List.getElem?_cons_succ] at z0 z1 z2 z3 z4
 simp only [putAll,Act.put,v0,v1,v2,v3,v4,v5,v6,v7,v8,List.setIfInBounds_toArray,List.set_cons_succ,List.set_cons_zero]
 clear hs2 ho2 hb2 htw htw2 v0 v1 v2 v3 v4 v5 v6 v7 v8 cl1 cl2 cl3 la
 go_wp2_with (first
  | (with_reducible refine ld_mach (w.heap.size + 1) X2.out _ rfl rfl rfl ?_)
  | (with_reducible refine st_mach (w.heap.size + 1 + 1) R2.out rfl rfl _ _ rfl rfl rfl rfl ?_))
 exact bodyPost_ret (v:=.tuple #[.agg (mC pc fuel (.slice sA' sn sc') r0 r1 r2 r3 (.slice oA' on oc') true e0),.slice bA' bn bc']) (res2_mach rfl _ _ (w.heap.size + 1 + 1) _ rfl rfl (Bk.setRow R2.out _)) rfl
  ⟨_,_,_,_,_,_,_,_,_,rfl,(M2.out.setRow (M2.out.offM R2.out) _).min,below_row B2.out (by omega) _,fun G hG=>M2.out.off3 hG⟩
theorem step_nofuel (st ou:List Int) (own:Blks) (w:World) (hM:MIn w st ou own sA sn sc oA on oc bA bn bc) (hs:sn≤1000) (ho:on≤1000) (hbn:bn≤1000) (hf:fuel < 1) :
  Calls Tryz.prog 44 #[cmV ra nr rc wa nw wc aa na ac cf ca nc cc,.agg (mC pc fuel (.slice sA sn sc) r0 r1 r2 r3 (.slice oA on oc) false e0),.slice bA bn bc] w (SPost pc fuel st r0 r1 r2 r3 [] true 11 own w):=by
 have hov:=hid (fun sA sc oA oc W=>over_bad pc fuel sA sn sc r0 r1 r2 r3 oA on oc false e0 11 (by decide) W)
 have cl1:=hid (fun (W:World) (hW:Below w.heap.size w W)=>rowV_call (B:=w.heap.size) hW.size (clone_ints sA sn sc _ W (hM.st.below hW) hs (ints_oneC st)))
 have cl2:=hid (fun (W:World) (hW:Below w.heap.size w W)=>rowV_call (B:=w.heap.size) hW.size (clone_ints oA on oc _ W (hM.ou.below hW) ho (ints_oneC ou)))
 have cl3:=hid (fun (W:World) (hW:Below w.heap.size w W)=>rowV_call (B:=w.heap.size) hW.size (clone_blks bA bn bc _ W (hM.bk.below hW) hbn (blksW_one own)))
 obtain ⟨wr,hW⟩:∃ W,W=((w.alloc (.cells #[.slice ra nr rc,.slice wa nw wc,.slice aa na ac,.int .i64 cf,.slice ca nc cc] 56)).alloc (.cells (mC pc fuel (.slice sA sn sc) r0 r1 r2 r3 (.slice oA on oc) false e0) 64)).alloc (.cells mZ 64):=⟨_,rfl⟩
 have B0:Hid (Below w.heap.size w wr):=hid (by rw [hW];exact sB_below _ _ _)
 have C0:Hid (Bk wr w.heap.size 56 #[.slice ra nr rc,.slice wa nw wc,.slice aa na ac,.int .i64 cf,.slice ca nc cc]):=hid (by rw [hW];exact sB_cmd _ _ _)
 have X0:Hid (Bk wr (w.heap.size + 1) 64 (mC pc fuel (.slice sA sn sc) r0 r1 r2 r3 (.slice oA on oc) false e0)):=hid (by rw [hW];exact sB_box _ _ _)
 have R0:Hid (Bk wr (w.heap.size + 1 + 1) 64 mZ):=hid (by rw [hW];exact sB_res _ _ _)
 have la:Hid (∀ X,Below wr.heap.size wr X→X.cell? ⟨w.heap.size + 1,2,none⟩=some (.slice sA sn sc)∧X.cell? ⟨w.heap.size + 1,7,none⟩=some (.slice oA on oc)):=hid (fun X hX=>⟨(X0.out.below hX).cell 2,(X0.out.below hX).cell 7⟩)
 clear hM
 go_enter Tryz.func44,Tryz.ntmps44
 go_wp2
 rw [← hW]
 clear hW
 try simp only [List.append_eq,List.cons_append,List.nil_append]
 refine wp_region_saysA 9 (fun x y=>Below x.heap.size x y) (fun _ _ _ h k=>bnext h k) (fun i=>i == 2 || i == 5 || i == 7) wr (below_drew1 wr) (by kernel_rfl) (by kernel_rfl) (by kernel_rfl) (by kernel_rfl) (by rfl) ?_
 simp only [List.take_succ_cons,List.take_zero,List.drop_succ_cons,List.drop_zero]
 refine walkA_is ?_ rfl (fun _=>Below.refl _ _) (fun u X hX hd=>?_) ?_
 rotate_left
 ·obtain ⟨e1,e2⟩:=la.out X hX
  try simp at hd
  go_simp
  try rfl
 apply walkA_norm
 ·first | (simp only [List.nil_append];rfl) | simp only [List.nil_append]
 refine walkA_is ?_ rfl (fun _=>Below.refl _ _) (fun u X hX hd=>?_) ?_
 rotate_left
 ·obtain ⟨e1,e2⟩:=la.out X hX
  try simp at hd
  go_simp
  try rfl
 apply walkA_norm
 ·first | (simp only [List.nil_append,List.cons_append];rfl) | simp only [List.nil_append,List.cons_append]
 refine walkA_row (rowV w.heap.size 3 1 sn (st.map (.int .i64))) 77 ?_ (fun v x y hb h=>rowV_keep v x y hb h) (fun v x h=>rowV_lies v x h) (fun u X hX hd=>?_) (fun X hX=>?_) ?_
 rotate_left
 ·obtain ⟨e1,e2⟩:=la.out X hX
  try simp at hd
  go_simp
  try rfl
 ·exact cl1.out X (bnext B0.out hX)
 iterate 2
  apply walkA_norm
  ·first | (simp only [List.nil_append,List.cons_append];rfl) | simp only [List.nil_append,List.cons_append]
  refine walkA_is ?_ rfl (fun _=>Below.refl _ _) (fun u X hX hd=>?_) ?_
  rotate_left
  ·obtain ⟨e1,e2⟩:=la.out X hX
   try simp at hd
   go_simp
   try rfl
 apply walkA_norm
 ·first | (simp only [List.nil_append,List.cons_append];rfl) | simp only [List.nil_append,List.cons_append]
 refine walkA_row (rowV w.heap.size 3 1 on (ou.map (.int .i64))) 77 ?_ (fun v x y hb h=>rowV_keep v x y hb h) (fun v x h=>rowV_lies v x h) (fun u X hX hd=>?_) (fun X hX=>?_) ?_
 rotate_left
 ·obtain ⟨e1,e2⟩:=la.out X hX
  try simp at hd
  go_simp
  try rfl
 ·exact cl2.out X (bnext B0.out hX)
 apply walkA_norm
 ·first | (simp only [List.nil_append,List.cons_append];rfl) | simp only [List.nil_append,List.cons_append]
 refine walkA_is ?_ rfl (fun _=>Below.refl _ _) (fun u X hX hd=>?_) ?_
 rotate_left
 ·obtain ⟨e1,e2⟩:=la.out X hX
  try simp at hd
  go_simp
  try rfl
 apply walkA_norm
 ·first | (simp only [List.nil_append,List.cons_append];rfl) | simp only [List.nil_append,List.cons_append]
 refine walkA_row (rowV w.heap.size 74 8 bn (blksW own)) 78 ?_ (fun v x y hb h=>rowV_keep v x y hb h) (fun v x h=>rowV_lies v x h) (fun u X hX hd=>?_) (fun X hX=>?_) ?_
 rotate_left
 ·obtain ⟨e1,e2⟩:=la.out X hX
  try simp at hd
  go_simp
  try rfl
 ·exact cl3.out X (bnext B0.out hX)
 apply walkA_norm
 ·first | (simp only [List.nil_append,List.cons_append];rfl) | simp only [List.nil_append,List.cons_append]
 refine walkA_is ?_ rfl (fun _=>Below.refl _ _) (fun u X hX hd=>?_) ?_
 rotate_left
 ·obtain ⟨e1,e2⟩:=la.out X hX
  try simp at hd
  go_simp
  try rfl
 apply walkA_norm
 ·first | (simp only [List.nil_append,List.cons_append];rfl) | simp only [List.nil_append,List.cons_append]
 intro u X hX hsay htw
 simp only [sayAll,isV] at hsay
 obtain ⟨v0,v1,⟨sA',sc',v2,hs2⟩,v3,v4,⟨oA',oc',v5,ho2⟩,v6,⟨bA',bc',v7,hb2⟩,v8,-⟩:=hsay
 have htw2:=htw 2 5 (by decide) (by decide) (by decide) rfl rfl
 rw [v2,v5] at htw2
 have M1:Hid (MRow w.heap.size X st ou own sA' sn sc' oA' on oc' bA' bn bc'):=hid ⟨hs2,ho2,hb2,htw2⟩
 have X1:=hid (X0.out.below hX)
 have hof:=hid (M1.out.offM X1.out)
 have X2:Hid (Bk ((X.setCell ⟨w.heap.size + 1,2,none⟩ (.slice sA' sn sc')).setCell ⟨w.heap.size + 1,7,none⟩ (.slice oA' on oc')) (w.heap.size + 1) 64 (mC pc fuel (.slice sA' sn sc') r0 r1 r2 r3 (.slice oA' on oc') false e0)):=hid (by simpa using (X1.out.set 2 (.slice sA' sn sc')).set 7 (.slice oA' on oc'))
 have R2:=hid (((R0.out.below hX).far (p:=⟨w.heap.size + 1,2,none⟩) (by simp) (.slice sA' sn sc')).far (p:=⟨w.heap.size + 1,7,none⟩) (by simp) (.slice oA' on oc'))
 have C2:=hid (((C0.out.below hX).far (p:=⟨w.heap.size + 1,2,none⟩) (by simp) (.slice sA' sn sc')).far (p:=⟨w.heap.size + 1,7,none⟩) (by simp) (.slice oA' on oc'))
 have M2:=hid ((M1.out.set hof.out 2 (.slice sA' sn sc')).set hof.out 7 (.slice oA' on oc'))
 have B2:=hid (((bnext B0.out hX).setCell (p:=⟨w.heap.size + 1,2,none⟩) (by simp) (.slice sA' sn sc')).setCell (p:=⟨w.heap.size + 1,7,none⟩) (by simp) (.slice oA' on oc'))
 have z0:=X1.out.cell 2
 have z1:=X1.out.cell 7
 have z2:=X1.out.cell 8
 have z3:=X1.out.cell 0
 have z4:=X1.out.cell 1
 have zf:=X1.out.frozen
 have zl:=X1.out.lt
 simp only [List.getElem?_toArray,List.getElem?_cons_zero,List.getElem?_cons_succ] at z0 z1 z2 z3 z4
 simp only [putAll,Act.put,v0,v1,v2,v3,v4,v5,v6,v7,v8,List.setIfInBounds_toArray,List.set_cons_succ,List.set_cons_zero]
 clear hs2 ho2 hb2 htw htw2 v0 v1 v2 v3 v4 v5 v6 v7 v8 cl1 cl2 cl3 la
 go_wp2_with (first
  | (with_reducible refine ld_mach (w.heap.size + 1) X2.out _ rfl rfl rfl ?_)
  | (go_at_call 79;go_must ((with_reducible refine (hov.out _ _ _ _ _).mono ?_);rintro e w1 ⟨rfl,hb1⟩;have R3:=hid (R2.out.below hb1);have M3:=hid (M2.out.below hb1).mute;have B3:=hid (bnext B2.out hb1);clear hb1))
  | (with_reducible refine st_mach (w.heap.size + 1 + 1) R3.out rfl rfl _ _ rfl rfl rfl rfl ?_))
 exact bodyPost_ret (v:=.tuple #[.agg (mC pc fuel (.slice sA' sn sc') r0 r1 r2 r3 (.slice none 0 0) true 11),.slice bA' bn bc']) (res2_mach rfl _ _ (w.heap.size + 1 + 1) _ rfl rfl (Bk.setRow R3.out _)) rfl
  ⟨_,_,_,_,_,_,_,_,_,rfl,(M3.out.setRow (M3.out.offM R3.out) _).min,below_row B3.out (by omega) _,fun G hG=>M3.out.off3 hG⟩
theorem step_go (st ou:List Int) (own:Blks) (w:World) (hM:MIn w st ou own sA sn sc oA on oc bA bn bc) (hs:sn≤1000) (ho:on≤1000) (hbn:bn≤1000) (hf:1≤fuel∧fuel≤1000) (code:List Ins) (hcode:Inss w ca cc code) (hnc:code.length=nc) (i:Nat) (hi:i < nc) (hpc:pc=i) (hnc2:nc≤1000)
  (pc' fuel':Int) (st' ou':List Int) (q0 q1 q2 q3:Int) (ov':Bool) (e':Int) (own':Blks)
  (hbh:∀ (W:World) (sA':Option Addr) (sc':Nat) (oA':Option Addr) (oc':Nat) (bA':Option Addr) (bc':Nat),Below w.heap.size w W→MRow w.heap.size W st ou own sA' sn sc' oA' on oc' bA' bn bc' →
   Calls Tryz.prog 81 #[.agg #[.int .i64 (insAt code i).op,.int .i64 (insAt code i).a,.int .i64 (insAt code i).b],.slice aa na ac,.agg (mC ((i:Int) + 1) (fuel - 1) (.slice sA' sn sc') r0 r1 r2 r3 (.slice oA' on oc') false e0),.slice bA' bn bc'] W
    (StepPost w.heap.size (.slice sA' sn sc') (.slice oA' on oc') (.slice bA' bn bc') pc' fuel' st' q0 q1 q2 q3 ou' ov' e' own' W)) :
  Calls Tryz.prog 44 #[cmV ra nr rc wa nw wc aa na ac cf ca nc cc,.agg (mC pc fuel (.slice sA sn sc) r0 r1 r2 r3 (.slice oA on oc) false e0),.slice bA bn bc] w (SPost pc' fuel' st' q0 q1 q2 q3 ou' ov' e' own' w):=by
 subst hpc
 subst hnc
 have hat:=hid (fun (W:World) (hW:Below w.heap.size w W)=>atIns_in code ca cc i W (hcode.below hW) hi)
 have HB:=hid hbh
 generalize insAt code i=x at *
 generalize code.length=nc at *
 clear hcode hbh
 have cl1:=hid (fun (W:World) (hW:Below w.heap.size w W)=>rowV_call (B:=w.heap.size) hW.size (clone_ints sA sn sc _ W (hM.st.below hW) hs (ints_oneC st)))
 have cl2:=hid (fun (W:World) (hW:Below w.heap.size w W)=>rowV_call (B:=w.heap.size) hW.size (clone_ints oA on oc _ W (hM.ou.below hW) ho (ints_oneC ou)))
 have cl3:=hid (fun (W:World) (hW:Below w.heap.size w W)=>rowV_call (B:=w.heap.size) hW.size (clone_blks bA bn bc _ W (hM.bk.below hW) hbn (blksW_one own)))
 obtain ⟨wr,hW⟩:∃ W,W=((w.alloc (.cells #[.slice ra nr rc,.slice wa nw wc,.slice aa na ac,.int .i64 cf,.slice ca nc cc] 56)).alloc (.cells (mC (i:Int) fuel (.slice sA sn sc) r0 r1 r2 r3 (.slice oA on oc) false e0) 64)).alloc (.cells mZ 64):=⟨_,rfl⟩
 have B0:Hid (Below w.heap.size w wr):=hid (by rw [hW];exact sB_below _ _ _)
 have C0:Hid (Bk wr w.heap.size 56 #[.slice ra nr rc,.slice wa nw wc,.slice aa na ac,.int .i64 cf,.slice ca nc cc]):=hid (by rw [hW];exact sB_cmd _ _ _)
 have X0:Hid (Bk wr (w.heap.size + 1) 64 (mC (i:Int) fuel (.slice sA sn sc) r0 r1 r2 r3 (.slice oA on oc) false e0)):=hid (by rw [hW];exact sB_box _ _ _)
 have R0:Hid (Bk wr (w.heap.size + 1 + 1) 64 mZ):=hid (by rw [hW];exact sB_res _ _ _)
 have la:Hid (∀ X,Below wr.heap.size wr X→X.cell? ⟨w.heap.size + 1,2,none⟩=some (.slice sA sn sc)∧X.cell? ⟨w.heap.size + 1,7,none⟩=some (.slice oA on oc)):=hid (fun X hX=>⟨(X0.out.below hX).cell 2,(X0.out.below hX).cell 7⟩)
 clear hM
 go_enter Tryz.func44,Tryz.ntmps44
 go_wp2
 rw [← hW]
 clear hW
 try simp only [List.append_eq,List.cons_append,List.nil_append]
 refine wp_region_saysA 9 (fun x y=>Below x.heap.size x y) (fun _ _ _ h k=>bnext h k) (fun i=>i == 2 || i == 5 || i == 7) wr (below_drew1 wr) (by kernel_rfl) (by kernel_rfl) (by kernel_rfl) (by kernel_rfl) (by rfl) ?_
 simp only [List.take_succ_cons,List.take_zero,List.drop_succ_cons,List.drop_zero]
 refine walkA_is ?_ rfl (fun _=>Below.refl _ _) (fun u X hX hd=>?_) ?_
 rotate_left
 ·obtain ⟨e1,e2⟩:=la.out X hX
  try simp at hd
  go_simp
  try rfl
 apply walkA_norm
 ·first | (simp only [List.nil_append];rfl) | simp only [List.nil_append]
 refine walkA_is ?_ rfl (fun _=>Below.refl _ _) (fun u X hX hd=>?_) ?_
 rotate_left
 ·obtain ⟨e1,e2⟩:=la.out X hX
  try simp at hd
  go_simp
  try rfl
 apply walkA_norm
 ·first | (simp only [List.nil_append,List.cons_append];rfl) | simp only [List.nil_append,List.cons_append]
 refine walkA_row (rowV w.heap.size 3 1 sn (st.map (.int .i64))) 77 ?_ (fun v x y hb h=>rowV_keep v x y hb h) (fun v x h=>rowV_lies v x h) (fun u X hX hd=>?_) (fun X hX=>?_) ?_
 rotate_left
 ·obtain ⟨e1,e2⟩:=la.out X hX
  try simp at hd
  go_simp
  try rfl
 ·exact cl1.out X (bnext B0.out hX)
 iterate 2
  apply walkA_norm
  ·first | (simp only [List.nil_append,List.cons_append];rfl) | simp only [List.nil_append,List.cons_append]
  refine walkA_is ?_ rfl (fun _=>Below.refl _ _) (fun u X hX hd=>?_) ?_
  rotate_left
  ·obtain ⟨e1,e2⟩:=la.out X hX
   try simp at hd
   go_simp
   try rfl
 apply walkA_norm
 ·first | (simp only [List.nil_append,List.cons_append];rfl) | simp only [List.nil_append,List.cons_append]
 refine walkA_row (rowV w.heap.size 3 1 on (ou.map (.int .i64))) 77 ?_ (fun v x y hb h=>rowV_keep v x y hb h) (fun v x h=>rowV_lies v x h) (fun u X hX hd=>?_) (fun X hX=>?_) ?_
 rotate_left
 ·obtain ⟨e1,e2⟩:=la.out X hX
  try simp at hd
  go_simp
  try rfl
 ·exact cl2.out X (bnext B0.out hX)
 apply walkA_norm
 ·first | (simp only [List.nil_append,List.cons_append];rfl) | simp only [List.nil_append,List.cons_append]
 refine walkA_is ?_ rfl (fun _=>Below.refl _ _) (fun u X hX hd=>?_) ?_
 rotate_left
 ·obtain ⟨e1,e2⟩:=la.out X hX
  try simp at hd
  go_simp
  try rfl
 apply walkA_norm
 ·first | (simp only [List.nil_append,List.cons_append];rfl) | simp only [List.nil_append,List.cons_append]
 refine walkA_row (rowV w.heap.size 74 8 bn (blksW own)) 78 ?_ (fun v x y hb h=>rowV_keep v x y hb h) (fun v x h=>rowV_lies v x h) (fun u X hX hd=>?_) (fun X hX=>?_) ?_
 rotate_left
 ·obtain ⟨e1,e2⟩:=la.out X hX
  try simp at hd
  go_simp
  try rfl
 ·exact cl3.out X (bnext B0.out hX)
 apply walkA_norm
 ·first | (simp only [List.nil_append,List.cons_append];rfl) | simp only [List.nil_append,List.cons_append]
 refine walkA_is ?_ rfl (fun _=>Below.refl _ _) (fun u X hX hd=>?_) ?_
 rotate_left
 ·obtain ⟨e1,e2⟩:=la.out X hX
  try simp at hd
  go_simp
  try rfl
 apply walkA_norm
 ·first | (simp only [List.nil_append,List.cons_append];rfl) | simp only [List.nil_append,List.cons_append]
 intro u X hX hsay htw
 simp only [sayAll,isV] at hsay
 obtain ⟨v0,v1,⟨sA',sc',v2,hs2⟩,v3,v4,⟨oA',oc',v5,ho2⟩,v6,⟨bA',bc',v7,hb2⟩,v8,-⟩:=hsay
 have htw2:=htw 2 5 (by decide) (by decide) (by decide) rfl rfl
 rw [v2,v5] at htw2
 have M1:Hid (MRow w.heap.size X st ou own sA' sn sc' oA' on oc' bA' bn bc'):=hid ⟨hs2,ho2,hb2,htw2⟩
 have X1:=hid (X0.out.below hX)
 have hof:=hid (M1.out.offM X1.out)
 have X2:Hid (Bk ((X.setCell ⟨w.heap.size + 1,2,none⟩ (.slice sA' sn sc')).setCell ⟨w.heap.size + 1,7,none⟩ (.slice oA' on oc')) (w.heap.size + 1) 64 (mC (i:Int) fuel (.slice sA' sn sc') r0 r1 r2 r3 (.slice oA' on oc') false e0)):=hid (by simpa using (X1.out.set 2 (.slice sA' sn sc')).set 7 (.slice oA' on oc'))
 have R2:=hid (((R0.out.below hX).far (p:=⟨w.heap.size + 1,2,none⟩) (by simp) (.slice sA' sn sc')).far (p:=⟨w.heap.size + 1,7,none⟩) (by simp) (.slice oA' on oc'))
 have C2:=hid (((C0.out.below hX).far (p:=⟨w.heap.size + 1,2,none⟩) (by simp) (.slice sA' sn sc')).far (p:=⟨w.heap.size + 1,7,none⟩) (by simp) (.slice oA' on oc'))
 have M2:=hid ((M1.out.set hof.out 2 (.slice sA' sn sc')).set hof.out 7 (.slice oA' on oc'))
 have B2:=hid (((bnext B0.out hX).setCell (p:=⟨w.heap.size + 1,2,none⟩) (by simp) (.slice sA' sn sc')).setCell (p:=⟨w.heap.size + 1,7,none⟩) (by simp) (.slice oA' on oc'))
 have z0:=X1.out.cell 2
 have z1:=X1.out.cell 7
 have z2:=X1.out.cell 8
 have z3:=X1.out.cell 0
 have z4:=X1.out.cell 1
 have zf:=X1.out.frozen
 have zl:=X1.out.lt
 simp only [List.getElem?_toArray,List.getElem?_cons_zero,List.getElem?_cons_succ] at z0 z1 z2 z3 z4
 simp only [putAll,Act.put,v0,v1,v2,v3,v4,v5,v6,v7,v8,List.setIfInBounds_toArray,List.set_cons_succ,List.set_cons_zero]
 clear hs2 ho2 hb2 htw htw2 v0 v1 v2 v3 v4 v5 v6 v7 v8 cl1 cl2 cl3 la
 obtain ⟨y0,y1,y2,y3,y4,yf⟩:=C2.out.cmd
 have yl:=C2.out.lt
 have H2:=hid (hat.out _ B2.out)
 clear hat
 go_wp2_with (first
  | (go_at_call 80;go_must ((with_reducible refine H2.out.mono ?_);rintro e w1 ⟨rfl,hb1⟩;have XX:=X2.out.below hb1;have RR:=R2.out.below hb1;have MM:=M2.out.below hb1;have hof3:=MM.offM XX;have X4:Hid (Bk (((w1.setCell ⟨w.heap.size + 1,1,none⟩ (.int .i64 (fuel - 1))).setCell ⟨w.heap.size + 1,0,none⟩ (.int .i64 ((i:Int) + 1))).alloc (IObj x)) (w.heap.size + 1) 64 (mC ((i:Int) + 1) (fuel - 1) (.slice sA' sn sc') r0 r1 r2 r3 (.slice oA' on oc') false e0)):=hid (by simpa using (((XX.set 1 (.int .i64 (fuel - 1))).set 0 (.int .i64 ((i:Int) + 1))).alloc (IObj x)));have R4:Hid (Bk (((w1.setCell ⟨w.heap.size + 1,1,none⟩ (.int .i64 (fuel - 1))).setCell ⟨w.heap.size + 1,0,none⟩ (.int .i64 ((i:Int) + 1))).alloc (IObj x)) (w.heap.size + 1 + 1) 64 mZ):=hid (((RR.far (p:=⟨w.heap.size + 1,1,none⟩) (by simp) _).far (p:=⟨w.heap.size + 1,0,none⟩) (by simp) _).alloc _);have M4:Hid (MRow w.heap.size (((w1.setCell ⟨w.heap.size + 1,1,none⟩ (.int .i64 (fuel - 1))).setCell ⟨w.heap.size + 1,0,none⟩ (.int .i64 ((i:Int) + 1))).alloc (IObj x)) st ou own sA' sn sc' oA' on oc' bA' bn bc'):=hid (((MM.set hof3 1 _).set hof3 0 _).below (below_alloc1 _ _));have B4:Hid (Below w.heap.size w (((w1.setCell ⟨w.heap.size + 1,1,none⟩ (.int .i64 (fuel - 1))).setCell ⟨w.heap.size + 1,0,none⟩ (.int .i64 ((i:Int) + 1))).alloc (IObj x))):=hid (bnext (((bnext B2.out hb1).setCell (p:=⟨w.heap.size + 1,1,none⟩) (by simp) _).setCell (p:=⟨w.heap.size + 1,0,none⟩) (by simp) _) (below_alloc1 _ _));have HC:=hid (HB.out _ sA' sc' oA' oc' bA' bc' B4.out M4.out);have hof4:=hid (M4.out.offM R4.out);have l0:=XX.cell 0;have l1:=XX.cell 1;have lf:=XX.frozen;have ll:=XX.lt;simp only [List.getElem?_toArray,List.getElem?_cons_zero,List.getElem?_cons_succ] at l0 l1;obtain ⟨u0,u1,u2,u3,u4,uf⟩:=(C2.out.below hb1).cmd;have ul:=(C2.out.below hb1).lt;clear XX RR MM hof3 hb1 z0 z1 z2 z3 z4 zf zl y0 y1 y2 y3 y4 yf yl))
  | (with_reducible refine ld_mach (w.heap.size + 1) X4.out _ rfl rfl rfl ?_)
  | (go_at_call 81;go_must ((with_reducible refine HC.out.mono ?_);rintro e w5 ⟨sA5,sn5,sc5,oA5,on5,oc5,bA5,bn5,bc5,rfl,M5,B5⟩;have R5:=hid (B5.bk R4.out hof4.out.1 hof4.out.2.1 hof4.out.2.2);have M6:=hid M5;have B6:=hid (B4.out.trans B5.below);clear M5 B5))
  | (with_reducible refine st_mach (w.heap.size + 1 + 1) R5.out rfl rfl _ _ rfl rfl rfl rfl ?_))
 exact bodyPost_ret (v:=.tuple #[.agg (mC pc' fuel' (.slice sA5 sn5 sc5) q0 q1 q2 q3 (.slice oA5 on5 oc5) ov' e'),.slice bA5 bn5 bc5]) (res2_mach rfl _ _ (w.heap.size + 1 + 1) _ rfl rfl (Bk.setRow R5.out _)) rfl
  ⟨_,_,_,_,_,_,_,_,_,rfl,(M6.out.setRow (M6.out.offM R5.out) _).min,below_row B6.out (by omega) _,fun G hG=>M6.out.off3 hG⟩
end
end
section
open Go.RowKit
def MacPost (r:Mac × Blks) (w:World):Ending→World→Prop:=
 SPost r.1.pc r.1.fuel r.1.stack (rg r.1.regs 0) (rg r.1.regs 1) (rg r.1.regs 2) (rg r.1.regs 3) r.1.out r.1.over r.1.told r.2 w
abbrev mM (m:Mac) (sA:Option Addr) (sn sc:Nat) (oA:Option Addr) (on oc:Nat):Value:=
 .agg (mC m.pc m.fuel (.slice sA sn sc) (rg m.regs 0) (rg m.regs 1) (rg m.regs 2) (rg m.regs 3) (.slice oA on oc) m.over m.told)
theorem MIn.lens {w:World} {st ou:List Int} {own:Blks} {sA:Option Addr} {sn sc:Nat} {oA:Option Addr} {on oc:Nat} {bA:Option Addr} {bn bc:Nat} (h:MIn w st ou own sA sn sc oA on oc bA bn bc) (h8:∀ b∈own,b.length=8):sn=st.length∧on=ou.length∧bn=own.length:=by
 have h1:=h.st.1
 have h2:=h.ou.1
 have h3:=h.bk.1
 rw [blksW_length own h8] at h3
 simp at h1 h2
 omega
section
variable (ra:Option Addr) (nr rc:Nat) (wa:Option Addr) (nw wc:Nat) (aa:Option Addr) (na ac:Nat) (ca:Option Addr) (nc cc:Nat)
variable (sA:Option Addr) (sn sc:Nat) (oA:Option Addr) (on oc:Nat) (bA:Option Addr) (bn bc:Nat)
theorem behind_any (c:Cmd) (x:Ins) (pc fuel:Int) (st ou:List Int) (r0 r1 r2 r3:Int) (e0:Nat) (own:Blks) (w:World) (hx:FitI c x ⟨pc,fuel,st,[r0,r1,r2,r3],ou,false,e0⟩ own) (hp:0≤pc∧pc≤2000) (hs8:st.length≤1000) (ho8:ou.length≤1000) (h8:∀ b∈own,b.length=8) (hm:own.length≤1000)
  (hA:Ints w aa ac c.args) (hna:c.args.length=na) (B:Nat) (hB:B≤w.heap.size) (hR:MRow B w st ou own sA sn sc oA on oc bA bn bc) :
  Calls Tryz.prog 81 #[.agg #[.int .i64 x.op,.int .i64 x.a,.int .i64 x.b],.slice aa na ac,.agg (mC pc fuel (.slice sA sn sc) r0 r1 r2 r3 (.slice oA on oc) false e0),.slice bA bn bc] w
   (StepPost B (.slice sA sn sc) (.slice oA on oc) (.slice bA bn bc) (doM c x ⟨pc,fuel,st,[r0,r1,r2,r3],ou,false,e0⟩ own).1.pc (doM c x ⟨pc,fuel,st,[r0,r1,r2,r3],ou,false,e0⟩ own).1.fuel (doM c x ⟨pc,fuel,st,[r0,r1,r2,r3],ou,false,e0⟩ own).1.stack
    (rg (doM c x ⟨pc,fuel,st,[r0,r1,r2,r3],ou,false,e0⟩ own).1.regs 0) (rg (doM c x ⟨pc,fuel,st,[r0,r1,r2,r3],ou,false,e0⟩ own).1.regs 1) (rg (doM c x ⟨pc,fuel,st,[r0,r1,r2,r3],ou,false,e0⟩ own).1.regs 2) (rg (doM c x ⟨pc,fuel,st,[r0,r1,r2,r3],ou,false,e0⟩ own).1.regs 3)
    (doM c x ⟨pc,fuel,st,[r0,r1,r2,r3],ou,false,e0⟩ own).1.out (doM c x ⟨pc,fuel,st,[r0,r1,r2,r3],ou,false,e0⟩ own).1.over (doM c x ⟨pc,fuel,st,[r0,r1,r2,r3],ou,false,e0⟩ own).1.told (doM c x ⟨pc,fuel,st,[r0,r1,r2,r3],ou,false,e0⟩ own).2 w):=by
 obtain ⟨op,a,b⟩:=x
 obtain ⟨⟨o1,o2⟩,hreg,hblk,harg,hway,hoff⟩:=hx
 simp only at o1 o2 hreg hblk harg hway hoff
 have hsl:=hR.slen
 have hol:=hR.olen
 have hbl:=hR.blen h8
 rcases (show op=1∨op=2∨op=3∨op=4∨op=5∨op=6∨op=13∨op=14∨op=15∨op=16∨op=17∨op=7∨op=8∨op=9∨op=10∨op=11∨op=12 by omega) with rfl | rfl | rfl | rfl | rfl | rfl | rfl | rfl | rfl | rfl | rfl | rfl | rfl | rfl | rfl | rfl | rfl
 ·exact behind_puts1 pc fuel sA sn sc r0 r1 r2 r3 oA on oc false e0 aa na ac bA bn bc a a b B st ou own w hB hR (by omega) (fun W _=>named_push pc fuel sA sn sc r0 r1 r2 r3 oA on oc false e0 aa na ac bA bn bc a b W)
 ·obtain ⟨h1,h2⟩:=hreg (.inl rfl)
  obtain ⟨k,rfl⟩:=Int.eq_ofNat_of_zero_le h1
  have hk:k < 4:=by omega
  refine behind_puts2 pc fuel sA sn sc r0 r1 r2 r3 oA on oc false e0 aa na ac bA bn bc (rg [r0,r1,r2,r3] k) k b B st ou own w hB hR (by omega) (fun W _=>named_load pc fuel sA sn sc r0 r1 r2 r3 oA on oc false e0 aa na ac bA bn bc k b _ hk ?_ W)
  rcases (show k=0∨k=1∨k=2∨k=3 by omega) with rfl | rfl | rfl | rfl <;> rfl
 ·obtain ⟨h1,h2⟩:=hreg (.inr rfl)
  obtain ⟨k,hk⟩:∃ k,st.length=k + 1:=⟨st.length - 1,by simp [offN] at hoff;omega⟩
  obtain rfl:sn=k + 1:=by omega
  have e1:popN st 1=st.take k:=by rw [popN,hk];rfl
  have e2:topN st=st[k]?.getD 0:=by rw [topN,hk];rfl
  rcases (show a=0∨a=1∨a=2∨a=3 by omega) with rfl | rfl | rfl | rfl
  ·have hd:doM c ⟨3,0,b⟩ ⟨pc,fuel,st,[r0,r1,r2,r3],ou,false,e0⟩ own=(⟨pc,fuel,st.take k,[st[k]?.getD 0,r1,r2,r3],ou,false,e0⟩,own):=by rw [← e1,← e2];rfl
   rw [hd]
   exact behind_takes3 pc fuel sA (k + 1) sc r0 r1 r2 r3 oA on oc false e0 aa na ac bA bn bc _ _ _ _ _ _ _ _ 0 b B st ou own w hB hR (fun W hW=>takes_keep0 pc fuel sA sc r0 r1 r2 r3 oA on oc false e0 bA bn bc k b B st ou own W (Nat.le_trans hB hW.size) (hR.below hW) (by omega))
  ·have hd:doM c ⟨3,1,b⟩ ⟨pc,fuel,st,[r0,r1,r2,r3],ou,false,e0⟩ own=(⟨pc,fuel,st.take k,[r0,st[k]?.getD 0,r2,r3],ou,false,e0⟩,own):=by rw [← e1,← e2];rfl
   rw [hd]
   exact behind_takes3 pc fuel sA (k + 1) sc r0 r1 r2 r3 oA on oc false e0 aa na ac bA bn bc _ _ _ _ _ _ _ _ 1 b B st ou own w hB hR (fun W hW=>takes_keep1 pc fuel sA sc r0 r1 r2 r3 oA on oc false e0 bA bn bc k b B st ou own W (Nat.le_trans hB hW.size) (hR.below hW) (by omega))
  ·have hd:doM c ⟨3,2,b⟩ ⟨pc,fuel,st,[r0,r1,r2,r3],ou,false,e0⟩ own=(⟨pc,fuel,st.take k,[r0,r1,st[k]?.getD 0,r3],ou,false,e0⟩,own):=by rw [← e1,← e2];rfl
   rw [hd]
   exact behind_takes3 pc fuel sA (k + 1) sc r0 r1 r2 r3 oA on oc false e0 aa na ac bA bn bc _ _ _ _ _ _ _ _ 2 b B st ou own w hB hR (fun W hW=>takes_keep2 pc fuel sA sc r0 r1 r2 r3 oA on oc false e0 bA bn bc k b B st ou own W (Nat.le_trans hB hW.size) (hR.below hW) (by omega))
  ·have hd:doM c ⟨3,3,b⟩ ⟨pc,fuel,st,[r0,r1,r2,r3],ou,false,e0⟩ own=(⟨pc,fuel,st.take k,[r0,r1,r2,st[k]?.getD 0],ou,false,e0⟩,own):=by rw [← e1,← e2];rfl
   rw [hd]
   exact behind_takes3 pc fuel sA (k + 1) sc r0 r1 r2 r3 oA on oc false e0 aa na ac bA bn bc _ _ _ _ _ _ _ _ 3 b B st ou own w hB hR (fun W hW=>takes_keep3 pc fuel sA sc r0 r1 r2 r3 oA on oc false e0 bA bn bc k b B st ou own W (Nat.le_trans hB hW.size) (hR.below hW) (by omega))
 ·obtain ⟨h1,h2⟩:=hblk (.inl rfl)
  obtain ⟨k,rfl⟩:=Int.eq_ofNat_of_zero_le h1
  exact behind_puts4 pc fuel sA sn sc r0 r1 r2 r3 oA on oc false e0 aa na ac bA bn bc (getC (own[k]?.getD []) b) k b B st ou own w hB hR (by omega) (fun W hW=>named_get pc fuel sA sn sc r0 r1 r2 r3 oA on oc false e0 aa na ac bA bn bc own W ((hR.blocks h8).below hW) h8 hbl.symm k b (by omega))
 ·obtain ⟨h1,h2⟩:=hblk (.inr rfl)
  obtain ⟨j,rfl⟩:=Int.eq_ofNat_of_zero_le h1
  obtain ⟨k,hk⟩:∃ k,st.length=k + 1:=⟨st.length - 1,by simp [offN] at hoff;omega⟩
  obtain rfl:sn=k + 1:=by omega
  have e1:popN st 1=st.take k:=by rw [popN,hk];rfl
  have e2:topN st=st[k]?.getD 0:=by rw [topN,hk];rfl
  have hd:doM c ⟨5,j,b⟩ ⟨pc,fuel,st,[r0,r1,r2,r3],ou,false,e0⟩ own=(⟨pc,fuel,st.take k,[r0,r1,r2,r3],ou,false,e0⟩,own.set j (putC (own[j]?.getD []) b (st[k]?.getD 0))):=by rw [← e1,← e2];rfl
  rw [hd]
  exact behind_takes5 pc fuel sA (k + 1) sc r0 r1 r2 r3 oA on oc false e0 aa na ac bA bn bc _ _ _ _ _ _ _ _ j b B st ou own w hB hR (fun W hW=>takes_put pc fuel sA sc r0 r1 r2 r3 oA on oc false e0 bA bn bc k j b B st ou own W (Nat.le_trans hB hW.size) (hR.below hW) (by omega) h8 (by omega) hm)
 ·obtain ⟨h1,h2⟩:=harg rfl
  obtain ⟨k,rfl⟩:=Int.eq_ofNat_of_zero_le h1
  exact behind_puts6 pc fuel sA sn sc r0 r1 r2 r3 oA on oc false e0 aa na ac bA bn bc (c.args[k]?.getD 0) k b B st ou own w hB hR (by omega) (fun W hW=>named_arg pc fuel sA sn sc r0 r1 r2 r3 oA on oc false e0 aa na ac bA bn bc c.args W (hA.below hW) hna k b (by omega))
 ·have ha:=hway (.inl rfl)
  obtain ⟨k,hk⟩:∃ k,st.length=k + 1:=⟨st.length - 1,by simp [offN] at hoff;omega⟩
  obtain rfl:sn=k + 1:=by omega
  have e1:popN st 1=st.take k:=by rw [popN,hk];rfl
  have e2:topN st=st[k]?.getD 0:=by rw [topN,hk];rfl
  have hd:doM c ⟨13,a,b⟩ ⟨pc,fuel,st,[r0,r1,r2,r3],ou,false,e0⟩ own=(⟨if (st[k]?.getD 0 == 0)=true then pc + a else pc,fuel,st.take k,[r0,r1,r2,r3],ou,false,e0⟩,own):=by
   rw [← e1,← e2]
   simp [doM]
  rw [hd]
  exact behind_takes13 pc fuel sA (k + 1) sc r0 r1 r2 r3 oA on oc false e0 aa na ac bA bn bc _ _ _ _ _ _ _ _ a b B st ou own w hB hR (fun W hW=>takes_skip pc fuel sA sc r0 r1 r2 r3 oA on oc false e0 bA bn bc k a b B st ou own W (Nat.le_trans hB hW.size) (hR.below hW) (by omega) ha hp _ rfl)
 ·exact behind_go pc fuel sA sn sc r0 r1 r2 r3 oA on oc false e0 aa na ac bA bn bc a b B st ou own w hB hR (hway (.inr rfl)) hp
 ·obtain ⟨k,hk⟩:∃ k,st.length=k + 1:=⟨st.length - 1,by simp [offN] at hoff;omega⟩
  obtain rfl:sn=k + 1:=by omega
  have e1:popN st 1=st.take k:=by rw [popN,hk];rfl
  have e2:topN st=st[k]?.getD 0:=by rw [topN,hk];rfl
  have hd:doM c ⟨15,a,b⟩ ⟨pc,fuel,st,[r0,r1,r2,r3],ou,false,e0⟩ own=(⟨pc,fuel,st.take k,[r0,r1,r2,r3],ou ++ [st[k]?.getD 0],false,e0⟩,own):=by rw [← e1,← e2];rfl
  rw [hd]
  exact behind_takes15 pc fuel sA (k + 1) sc r0 r1 r2 r3 oA on oc false e0 aa na ac bA bn bc _ _ _ _ _ _ _ _ a b B st ou own w hB hR (fun W hW=>takes_emit pc fuel sA sc r0 r1 r2 r3 oA on oc false e0 bA bn bc k a b B st ou own W (Nat.le_trans hB hW.size) (hR.below hW) (by omega) (by omega))
 ·exact behind_stop pc fuel sA sn sc r0 r1 r2 r3 oA on oc false e0 aa na ac bA bn bc a b B st ou own w hB hR
 ·exact behind_end pc fuel sA sn sc r0 r1 r2 r3 oA on oc false e0 aa na ac bA bn bc a b B st ou own w hB hR
 ·obtain ⟨k,hk⟩:∃ k,st.length=k + 2:=⟨st.length - 2,by simp [offN] at hoff;omega⟩
  obtain rfl:sn=k + 2:=by omega
  have e1:popN st 2=st.take k:=by rw [popN,hk];rfl
  have e2:topN st=st[k + 1]?.getD 0:=by rw [topN,hk];rfl
  have e3:nextTop st=st[k]?.getD 0:=by rw [nextTop,hk];rfl
  have e0':doM c ⟨7,a,b⟩ ⟨pc,fuel,st,[r0,r1,r2,r3],ou,false,e0⟩ own=(match twoN 7 (nextTop st) (topN st) with
   | none=>(overM ⟨pc,fuel,st,[r0,r1,r2,r3],ou,false,e0⟩ 12,own)
   | some n=>(⟨pc,fuel,popN st 2 ++ [n],[r0,r1,r2,r3],ou,false,e0⟩,own)):=rfl
  cases ht:twoN 7 (st[k]?.getD 0) (st[k + 1]?.getD 0) with
  | none=>
   have hd:doM c ⟨7,a,b⟩ ⟨pc,fuel,st,[r0,r1,r2,r3],ou,false,e0⟩ own=(⟨pc,fuel,st,[r0,r1,r2,r3],[],true,12⟩,own):=by
    rw [e0',e2,e3,ht]
    rfl
   rw [hd]
   exact behind_reckons7 pc fuel sA (k + 2) sc r0 r1 r2 r3 oA on oc false e0 aa na ac bA bn bc _ _ _ _ a b B st ou own w hB hR (fun W hW=>reckons_zero pc fuel sA sc r0 r1 r2 r3 oA on oc false e0 bA bn bc 7 (by decide) k B st ou own W (Nat.le_trans hB hW.size) (hR.below hW) (by omega) ht)
  | some n=>
   have hd:doM c ⟨7,a,b⟩ ⟨pc,fuel,st,[r0,r1,r2,r3],ou,false,e0⟩ own=(⟨pc,fuel,st.take k ++ [n],[r0,r1,r2,r3],ou,false,e0⟩,own):=by
    rw [e0',e2,e3,ht,← e1]
   rw [hd]
   exact behind_reckons7 pc fuel sA (k + 2) sc r0 r1 r2 r3 oA on oc false e0 aa na ac bA bn bc _ _ _ _ a b B st ou own w hB hR (fun W hW=>reckons_some pc fuel sA sc r0 r1 r2 r3 oA on oc false e0 bA bn bc 7 n (by decide) k B st ou own W (Nat.le_trans hB hW.size) (hR.below hW) (by omega) ht)
 ·obtain ⟨k,hk⟩:∃ k,st.length=k + 2:=⟨st.length - 2,by simp [offN] at hoff;omega⟩
  obtain rfl:sn=k + 2:=by omega
  have e1:popN st 2=st.take k:=by rw [popN,hk];rfl
  have e2:topN st=st[k + 1]?.getD 0:=by rw [topN,hk];rfl
  have e3:nextTop st=st[k]?.getD 0:=by rw [nextTop,hk];rfl
  have e0':doM c ⟨8,a,b⟩ ⟨pc,fuel,st,[r0,r1,r2,r3],ou,false,e0⟩ own=(match twoN 8 (nextTop st) (topN st) with
   | none=>(overM ⟨pc,fuel,st,[r0,r1,r2,r3],ou,false,e0⟩ 12,own)
   | some n=>(⟨pc,fuel,popN st 2 ++ [n],[r0,r1,r2,r3],ou,false,e0⟩,own)):=rfl
  cases ht:twoN 8 (st[k]?.getD 0) (st[k + 1]?.getD 0) with
  | none=>
   have hd:doM c ⟨8,a,b⟩ ⟨pc,fuel,st,[r0,r1,r2,r3],ou,false,e0⟩ own=(⟨pc,fuel,st,[r0,r1,r2,r3],[],true,12⟩,own):=by
    rw [e0',e2,e3,ht]
    rfl
   rw [hd]
   exact behind_reckons8 pc fuel sA (k + 2) sc r0 r1 r2 r3 oA on oc false e0 aa na ac bA bn bc _ _ _ _ a b B st ou own w hB hR (fun W hW=>reckons_zero pc fuel sA sc r0 r1 r2 r3 oA on oc false e0 bA bn bc 8 (by decide) k B st ou own W (Nat.le_trans hB hW.size) (hR.below hW) (by omega) ht)
  | some n=>
   have hd:doM c ⟨8,a,b⟩ ⟨pc,fuel,st,[r0,r1,r2,r3],ou,false,e0⟩ own=(⟨pc,fuel,st.take k ++ [n],[r0,r1,r2,r3],ou,false,e0⟩,own):=by
    rw [e0',e2,e3,ht,← e1]
   rw [hd]
   exact behind_reckons8 pc fuel sA (k + 2) sc r0 r1 r2 r3 oA on oc false e0 aa na ac bA bn bc _ _ _ _ a b B st ou own w hB hR (fun W hW=>reckons_some pc fuel sA sc r0 r1 r2 r3 oA on oc false e0 bA bn bc 8 n (by decide) k B st ou own W (Nat.le_trans hB hW.size) (hR.below hW) (by omega) ht)
 ·obtain ⟨k,hk⟩:∃ k,st.length=k + 2:=⟨st.length - 2,by simp [offN] at hoff;omega⟩
  obtain rfl:sn=k + 2:=by omega
  have e1:popN st 2=st.take k:=by rw [popN,hk];rfl
  have e2:topN st=st[k + 1]?.getD 0:=by rw [topN,hk];rfl
  have e3:nextTop st=st[k]?.getD 0:=by rw [nextTop,hk];rfl
  have e0':doM c ⟨9,a,b⟩ ⟨pc,fuel,st,[r0,r1,r2,r3],ou,false,e0⟩ own=(match twoN 9 (nextTop st) (topN st) with
   | none=>(overM ⟨pc,fuel,st,[r0,r1,r2,r3],ou,false,e0⟩ 12,own)
   | some n=>(⟨pc,fuel,popN st 2 ++ [n],[r0,r1,r2,r3],ou,false,e0⟩,own)):=rfl
  cases ht:twoN 9 (st[k]?.getD 0) (st[k + 1]?.getD 0) with
  | none=>
   have hd:doM c ⟨9,a,b⟩ ⟨pc,fuel,st,[r0,r1,r2,r3],ou,false,e0⟩ own=(⟨pc,fuel,st,[r0,r1,r2,r3],[],true,12⟩,own):=by
    rw [e0',e2,e3,ht]
    rfl
   rw [hd]
   exact behind_reckons9 pc fuel sA (k + 2) sc r0 r1 r2 r3 oA on oc false e0 aa na ac bA bn bc _ _ _ _ a b B st ou own w hB hR (fun W hW=>reckons_zero pc fuel sA sc r0 r1 r2 r3 oA on oc false e0 bA bn bc 9 (by decide) k B st ou own W (Nat.le_trans hB hW.size) (hR.below hW) (by omega) ht)
  | some n=>
   have hd:doM c ⟨9,a,b⟩ ⟨pc,fuel,st,[r0,r1,r2,r3],ou,false,e0⟩ own=(⟨pc,fuel,st.take k ++ [n],[r0,r1,r2,r3],ou,false,e0⟩,own):=by
    rw [e0',e2,e3,ht,← e1]
   rw [hd]
   exact behind_reckons9 pc fuel sA (k + 2) sc r0 r1 r2 r3 oA on oc false e0 aa na ac bA bn bc _ _ _ _ a b B st ou own w hB hR (fun W hW=>reckons_some pc fuel sA sc r0 r1 r2 r3 oA on oc false e0 bA bn bc 9 n (by decide) k B st ou own W (Nat.le_trans hB hW.size) (hR.below hW) (by omega) ht)
 ·obtain ⟨k,hk⟩:∃ k,st.length=k + 2:=⟨st.length - 2,by simp [offN] at hoff;omega⟩
  obtain rfl:sn=k + 2:=by omega
  have e1:popN st 2=st.take k:=by rw [popN,hk];rfl
  have e2:topN st=st[k + 1]?.getD 0:=by rw [topN,hk];rfl
  have e3:nextTop st=st[k]?.getD 0:=by rw [nextTop,hk];rfl
  have e0':doM c ⟨10,a,b⟩ ⟨pc,fuel,st,[r0,r1,r2,r3],ou,false,e0⟩ own=(match twoN 10 (nextTop st) (topN st) with
   | none=>(overM ⟨pc,fuel,st,[r0,r1,r2,r3],ou,false,e0⟩ 12,own)
   | some n=>(⟨pc,fuel,popN st 2 ++ [n],[r0,r1,r2,r3],ou,false,e0⟩,own)):=rfl
  cases ht:twoN 10 (st[k]?.getD 0) (st[k + 1]?.getD 0) with
  | none=>
   have hd:doM c ⟨10,a,b⟩ ⟨pc,fuel,st,[r0,r1,r2,r3],ou,false,e0⟩ own=(⟨pc,fuel,st,[r0,r1,r2,r3],[],true,12⟩,own):=by
    rw [e0',e2,e3,ht]
    rfl
   rw [hd]
   exact behind_reckons10 pc fuel sA (k + 2) sc r0 r1 r2 r3 oA on oc false e0 aa na ac bA bn bc _ _ _ _ a b B st ou own w hB hR (fun W hW=>reckons_zero pc fuel sA sc r0 r1 r2 r3 oA on oc false e0 bA bn bc 10 (by decide) k B st ou own W (Nat.le_trans hB hW.size) (hR.below hW) (by omega) ht)
  | some n=>
   have hd:doM c ⟨10,a,b⟩ ⟨pc,fuel,st,[r0,r1,r2,r3],ou,false,e0⟩ own=(⟨pc,fuel,st.take k ++ [n],[r0,r1,r2,r3],ou,false,e0⟩,own):=by
    rw [e0',e2,e3,ht,← e1]
   rw [hd]
   exact behind_reckons10 pc fuel sA (k + 2) sc r0 r1 r2 r3 oA on oc false e0 aa na ac bA bn bc _ _ _ _ a b B st ou own w hB hR (fun W hW=>reckons_some pc fuel sA sc r0 r1 r2 r3 oA on oc false e0 bA bn bc 10 n (by decide) k B st ou own W (Nat.le_trans hB hW.size) (hR.below hW) (by omega) ht)
 ·obtain ⟨k,hk⟩:∃ k,st.length=k + 2:=⟨st.length - 2,by simp [offN] at hoff;omega⟩
  obtain rfl:sn=k + 2:=by omega
  have e1:popN st 2=st.take k:=by rw [popN,hk];rfl
  have e2:topN st=st[k + 1]?.getD 0:=by rw [topN,hk];rfl
  have e3:nextTop st=st[k]?.getD 0:=by rw [nextTop,hk];rfl
  have e0':doM c ⟨11,a,b⟩ ⟨pc,fuel,st,[r0,r1,r2,r3],ou,false,e0⟩ own=(match twoN 11 (nextTop st) (topN st) with
   | none=>(overM ⟨pc,fuel,st,[r0,r1,r2,r3],ou,false,e0⟩ 12,own)
   | some n=>(⟨pc,fuel,popN st 2 ++ [n],[r0,r1,r2,r3],ou,false,e0⟩,own)):=rfl
  cases ht:twoN 11 (st[k]?.getD 0) (st[k + 1]?.getD 0) with
  | none=>
   have hd:doM c ⟨11,a,b⟩ ⟨pc,fuel,st,[r0,r1,r2,r3],ou,false,e0⟩ own=(⟨pc,fuel,st,[r0,r1,r2,r3],[],true,12⟩,own):=by
    rw [e0',e2,e3,ht]
    rfl
   rw [hd]
   exact behind_reckons11 pc fuel sA (k + 2) sc r0 r1 r2 r3 oA on oc false e0 aa na ac bA bn bc _ _ _ _ a b B st ou own w hB hR (fun W hW=>reckons_zero pc fuel sA sc r0 r1 r2 r3 oA on oc false e0 bA bn bc 11 (by decide) k B st ou own W (Nat.le_trans hB hW.size) (hR.below hW) (by omega) ht)
  | some n=>
   have hd:doM c ⟨11,a,b⟩ ⟨pc,fuel,st,[r0,r1,r2,r3],ou,false,e0⟩ own=(⟨pc,fuel,st.take k ++ [n],[r0,r1,r2,r3],ou,false,e0⟩,own):=by
    rw [e0',e2,e3,ht,← e1]
   rw [hd]
   exact behind_reckons11 pc fuel sA (k + 2) sc r0 r1 r2 r3 oA on oc false e0 aa na ac bA bn bc _ _ _ _ a b B st ou own w hB hR (fun W hW=>reckons_some pc fuel sA sc r0 r1 r2 r3 oA on oc false e0 bA bn bc 11 n (by decide) k B st ou own W (Nat.le_trans hB hW.size) (hR.below hW) (by omega) ht)
 ·obtain ⟨k,hk⟩:∃ k,st.length=k + 2:=⟨st.length - 2,by simp [offN] at hoff;omega⟩
  obtain rfl:sn=k + 2:=by omega
  have e1:popN st 2=st.take k:=by rw [popN,hk];rfl
  have e2:topN st=st[k + 1]?.getD 0:=by rw [topN,hk];rfl
  have e3:nextTop st=st[k]?.getD 0:=by rw [nextTop,hk];rfl
  have e0':doM c ⟨12,a,b⟩ ⟨pc,fuel,st,[r0,r1,r2,r3],ou,false,e0⟩ own=(match twoN 12 (nextTop st) (topN st) with
   | none=>(overM ⟨pc,fuel,st,[r0,r1,r2,r3],ou,false,e0⟩ 12,own)
   | some n=>(⟨pc,fuel,popN st 2 ++ [n],[r0,r1,r2,r3],ou,false,e0⟩,own)):=rfl
  cases ht:twoN 12 (st[k]?.getD 0) (st[k + 1]?.getD 0) with
  | none=>
   have hd:doM c ⟨12,a,b⟩ ⟨pc,fuel,st,[r0,r1,r2,r3],ou,false,e0⟩ own=(⟨pc,fuel,st,[r0,r1,r2,r3],[],true,12⟩,own):=by
    rw [e0',e2,e3,ht]
    rfl
   rw [hd]
   exact behind_reckons12 pc fuel sA (k + 2) sc r0 r1 r2 r3 oA on oc false e0 aa na ac bA bn bc _ _ _ _ a b B st ou own w hB hR (fun W hW=>reckons_zero pc fuel sA sc r0 r1 r2 r3 oA on oc false e0 bA bn bc 12 (by decide) k B st ou own W (Nat.le_trans hB hW.size) (hR.below hW) (by omega) ht)
  | some n=>
   have hd:doM c ⟨12,a,b⟩ ⟨pc,fuel,st,[r0,r1,r2,r3],ou,false,e0⟩ own=(⟨pc,fuel,st.take k ++ [n],[r0,r1,r2,r3],ou,false,e0⟩,own):=by
    rw [e0',e2,e3,ht,← e1]
   rw [hd]
   exact behind_reckons12 pc fuel sA (k + 2) sc r0 r1 r2 r3 oA on oc false e0 aa na ac bA bn bc _ _ _ _ a b B st ou own w hB hR (fun W hW=>reckons_some pc fuel sA sc r0 r1 r2 r3 oA on oc false e0 bA bn bc 12 n (by decide) k B st ou own W (Nat.le_trans hB hW.size) (hR.below hW) (by omega) ht)
theorem step_any (c:Cmd) (m:Mac) (own:Blks) (w:World) (hf:Fit c m own) (hC:CmIn w c ra nr rc wa nw wc aa na ac ca nc cc) (hM:MIn w m.stack m.out own sA sn sc oA on oc bA bn bc) :
  Calls Tryz.prog 44 #[cmV ra nr rc wa nw wc aa na ac c.fuel ca nc cc,mM m sA sn sc oA on oc,.slice bA bn bc] w (MacPost (stepM c m own) w):=by
 obtain ⟨l1,l2,l3⟩:=hM.lens hf.cells
 obtain ⟨pc,fuel,st,regs,ou,ov,e0⟩:=m
 have h4:=four_of hf.regs
 simp only at h4 l1 l2
 generalize rg regs 0=r0 at *
 generalize rg regs 1=r1 at *
 generalize rg regs 2=r2 at *
 generalize rg regs 3=r3 at *
 subst h4
 have d1:=hf.deep
 have d2:=hf.outs
 have d3:=hf.many
 have d4:=hf.fuel
 have d5:=hC.bc
 have d6:=hC.lc
 simp only at d1 d2 d3 d4
 cases ov with
 | true=>
  rw [step_over rfl]
  exact step_ov ra nr rc wa nw wc aa na ac c.fuel ca nc cc pc fuel sA sn sc r0 r1 r2 r3 oA on oc e0 bA bn bc st ou own w hM (by omega) (by omega) (by omega)
 | false=>
  by_cases h0:fuel=0
  ·rw [step_empty rfl h0]
   exact step_nofuel ra nr rc wa nw wc aa na ac c.fuel ca nc cc pc fuel sA sn sc r0 r1 r2 r3 oA on oc e0 bA bn bc st ou own w hM (by omega) (by omega) (by omega) (by omega)
  ·rw [step_goes rfl h0]
   obtain ⟨g1,g2,g3,g4⟩:=hf.goes rfl h0
   simp only at g1 g2 g4
   obtain ⟨i,rfl⟩:=Int.eq_ofNat_of_zero_le g1
   rw [Int.toNat_natCast] at g4
   refine step_go ra nr rc wa nw wc aa na ac c.fuel ca nc cc i fuel sA sn sc r0 r1 r2 r3 oA on oc e0 bA bn bc st ou own w hM (by omega) (by omega) (by omega) ⟨by omega,d4.2⟩ c.code hC.code d6 i (by omega) rfl (by omega)
    _ _ _ _ _ _ _ _ _ _ _ (fun W sA' sc' oA' oc' bA' bc' hW hR=>?_)
   exact behind_any aa na ac sA' sn sc' oA' on oc' bA' bn bc' c (insAt c.code i) ((i:Int) + 1) (fuel - 1) st ou r0 r1 r2 r3 e0 own W ⟨g4.op,g4.reg,g4.blk,g4.arg,g4.way,g4.off⟩ (by omega) (by omega) (by omega) hf.cells (by omega) (hC.args.below hW) hC.la w.heap.size hW.size hR
end
end
section
open Go.RowKit
attribute [local go_sem] look findAt
attribute [local simp] depsOf isV Region.binds
theorem exec_sing (ρ:Operand→Value) (w:World) (o:Oper) (x:Operand) (ho:o.op=.buildSlice 49 1 #[(0,x)]) {n:Int} (hx:ρ x=.int .i64 n):(execOp ρ o).run Tryz.prog w=.ok (.value (.slice (some ⟨w.heap.size,0,none⟩) 1 1)) (w.alloc (.cells #[.int .i64 n] 3)):=by
 unfold execOp
 simp only [ho]
 go_simp
def PopPost (B n k:Nat) (st:List Int) (e:Ending) (w':World):Prop:=
 ∃ A c A' c',e=.returned (.tuple #[.slice A n c,.slice A' k c'])∧w'.ownsRow B 3 1 (.slice A n c) n ((st.drop k).map (.int .i64))∧w'.ownsRow B 3 1 (.slice A' k c') k ((st.take k).map (.int .i64))
theorem rpop1 (pc fuel:Int) (st:List Int) (r0 r1 r2 r3:Int) (ov:Bool) (e0:Int) (sA:Option Addr) (sc:Nat) (oA:Option Addr) (on oc:Nat) (k:Nat) (w:World) (hs:Sl w 1 sA (k + 1) sc (st.map (.int .i64))) (hk:k≤1000) :
  Calls Tryz.prog 89 #[.agg (mC pc fuel (.slice sA (k + 1:Nat) sc) r0 r1 r2 r3 (.slice oA on oc) ov e0),.int .i64 1] w fun e w'=>PopPost w.heap.size 1 k st e w'∧Below w.heap.size w w':=by
 obtain ⟨i0,hi0,hz0,hz1,hz2⟩:=infoInt
 obtain ⟨b,off,rfl,-,-⟩:=hs.2.2.2 (by omega)
 obtain ⟨wr,hW⟩:∃ W,W=w.alloc (.cells (mC pc fuel (.slice (some ⟨b,off,none⟩) (k + 1:Nat) sc) r0 r1 r2 r3 (.slice oA on oc) ov e0) 64):=⟨_,rfl⟩
 have B0:Hid (Below w.heap.size w wr):=hid (by rw [hW];exact below_alloc1 _ _)
 have X0:Hid (Bk wr w.heap.size 64 (mC pc fuel (.slice (some ⟨b,off,none⟩) (k + 1:Nat) sc) r0 r1 r2 r3 (.slice oA on oc) ov e0)):=hid (by rw [hW];exact Bk.new _ _ _)
 have la:Hid (∀ X,Below wr.heap.size wr X→X.cell? ⟨w.heap.size,2,none⟩=some (.slice (some ⟨b,off,none⟩) (k + 1:Nat) sc)):=hid (fun X hX=>(X0.out.below hX).cell 2)
 have hBX:Hid (∀ X,Below wr.heap.size wr X→w.heap.size≤X.heap.size):=hid (fun X hX=>Nat.le_trans B0.out.size hX.size)
 have d0:=hs.2.1
 have HL:Hid (Sl w 1 (some ⟨b,off + k,none⟩) 1 (sc - k) ((st.drop k).map (.int .i64))):=hid (by have:=hs.last (by omega);rwa [← List.map_drop] at this)
 have HF:Hid (Sl w 1 (some ⟨b,off,none⟩) k sc ((st.take k).map (.int .i64))):=hid (by have:=hs.front (by omega);rwa [← List.map_take] at this)
 have d1:(k:Int)≤(k:Int) + 1:=by omega
 have d2:¬ sc=k:=by omega
 have d3:k≤sc:=by omega
 clear hs
 go_enter Tryz.func89,Tryz.ntmps89
 go_wp2
 rw [← hW]
 clear hW
 try simp only [List.append_eq,List.cons_append,List.nil_append]
 refine wp_region_saysK 12 (fun x y=>Below x.heap.size x y) (fun _ _ _ h k=>bnext h k) wr (below_drew1 wr) (by kernel_rfl) (by kernel_rfl) (by kernel_rfl) (by kernel_rfl) (by rfl) ?_
 simp only [List.take_succ_cons,List.take_zero,List.drop_succ_cons,List.drop_zero]
 refine walkK_new (noneV w.heap.size 3) (by first | exact gs0 rfl | exact gs1 rfl rfl rfl) (fun v x y hb h=>noneV_below v x y hb h) (fun u X hX hd=>⟨_,_,exec_none _ _ _ rfl,below_alloc1 _ _,_,rfl,World.ownsRow_lit X #[] 0 (hBX.out X hX) (by decide) rfl⟩) ?_
 refine wkN ?_
 iterate 4
  refine wkI ?_ (fun u X hX hd=>?_) ?_
  rotate_left
  ·have e2:=la.out X hX
   try simp at hd
   go_simp
   try rfl
 refine walkK_new (listV w.heap.size 3 1 ((st.drop k).map (.int .i64))) (by first | exact gs0 rfl | exact gs1 rfl rfl rfl) (fun v x y hb h=>listV_below v x y hb h) (fun u X hX hd=>?_) ?_
 ·simp at hd
  obtain ⟨⟨g,hg,ho⟩,h4⟩:=hd
  obtain ⟨v,w',hr,hb,hl⟩:=run_append_none (P:=Tryz.prog) X 49 49 w.heap.size 3 i0 _ 8 Tryz.underlying49 hi0 hz0 hz1 hz2 rfl (hBX.out X hX) g ho _ _ _ _ (HL.out.below (bnext B0.out hX)) (ints_oneC _) (by unfold maxLen;omega) (by omega)
  exact ⟨v,w',exec_append _ _ _ _ _ _ rfl (by go_simp) (by go_simp) hr,hb,hl⟩
 refine wkN ?_
 refine walkK_new (noneV w.heap.size 3) (by first | exact gs0 rfl | exact gs1 rfl rfl rfl) (fun v x y hb h=>noneV_below v x y hb h) (fun u X hX hd=>⟨_,_,exec_none _ _ _ rfl,below_alloc1 _ _,_,rfl,World.ownsRow_lit X #[] 0 (hBX.out X hX) (by decide) rfl⟩) ?_
 refine wkN ?_
 iterate 4
  refine wkI ?_ (fun u X hX hd=>?_) ?_
  rotate_left
  ·have e2:=la.out X hX
   try simp at hd
   go_simp
   try rfl
 refine walkK_new (listV w.heap.size 3 k ((st.take k).map (.int .i64))) (by first | exact gs0 rfl | exact gs1 rfl rfl rfl) (fun v x y hb h=>listV_below v x y hb h) (fun u X hX hd=>?_) ?_
 ·simp at hd
  obtain ⟨⟨g,hg,ho⟩,h4⟩:=hd
  obtain ⟨v,w',hr,hb,hl⟩:=run_append_none (P:=Tryz.prog) X 49 49 w.heap.size 3 i0 _ 8 Tryz.underlying49 hi0 hz0 hz1 hz2 rfl (hBX.out X hX) g ho _ _ _ _ (HF.out.below (bnext B0.out hX)) (ints_oneC _) (by unfold maxLen;omega) (by omega)
  exact ⟨v,w',exec_append _ _ _ _ _ _ rfl (by go_simp) (by go_simp) hr,hb,hl⟩
 refine wkN ?_
 intro u X hX hsay
 simp only [sayAll,isV] at hsay
 obtain ⟨-,-,-,-,-,⟨A,c,v5,ho5,-⟩,-,-,-,-,-,⟨A',c',v11,ho11,-⟩,-⟩:=hsay
 simp only [putAll,Act.put,v5,v11]
 go_wp2
 go_ret2
 exact ⟨⟨A,c,A',c',rfl,ho5,ho11⟩,bnext B0.out hX⟩
theorem rpop2 (pc fuel:Int) (st:List Int) (r0 r1 r2 r3:Int) (ov:Bool) (e0:Int) (sA:Option Addr) (sc:Nat) (oA:Option Addr) (on oc:Nat) (k:Nat) (w:World) (hs:Sl w 1 sA (k + 2) sc (st.map (.int .i64))) (hk:k≤1000) :
  Calls Tryz.prog 89 #[.agg (mC pc fuel (.slice sA (k + 2:Nat) sc) r0 r1 r2 r3 (.slice oA on oc) ov e0),.int .i64 2] w fun e w'=>PopPost w.heap.size 2 k st e w'∧Below w.heap.size w w':=by
 obtain ⟨i0,hi0,hz0,hz1,hz2⟩:=infoInt
 obtain ⟨b,off,rfl,-,-⟩:=hs.2.2.2 (by omega)
 obtain ⟨wr,hW⟩:∃ W,W=w.alloc (.cells (mC pc fuel (.slice (some ⟨b,off,none⟩) (k + 2:Nat) sc) r0 r1 r2 r3 (.slice oA on oc) ov e0) 64):=⟨_,rfl⟩
 have B0:Hid (Below w.heap.size w wr):=hid (by rw [hW];exact below_alloc1 _ _)
 have X0:Hid (Bk wr w.heap.size 64 (mC pc fuel (.slice (some ⟨b,off,none⟩) (k + 2:Nat) sc) r0 r1 r2 r3 (.slice oA on oc) ov e0)):=hid (by rw [hW];exact Bk.new _ _ _)
 have la:Hid (∀ X,Below wr.heap.size wr X→X.cell? ⟨w.heap.size,2,none⟩=some (.slice (some ⟨b,off,none⟩) (k + 2:Nat) sc)):=hid (fun X hX=>(X0.out.below hX).cell 2)
 have hBX:Hid (∀ X,Below wr.heap.size wr X→w.heap.size≤X.heap.size):=hid (fun X hX=>Nat.le_trans B0.out.size hX.size)
 have d0:=hs.2.1
 have HL:Hid (Sl w 1 (some ⟨b,off + k,none⟩) 2 (sc - k) ((st.drop k).map (.int .i64))):=hid (by have:=hs.last (by omega);rwa [← List.map_drop] at this)
 have HF:Hid (Sl w 1 (some ⟨b,off,none⟩) k sc ((st.take k).map (.int .i64))):=hid (by have:=hs.front (by omega);rwa [← List.map_take] at this)
 have d1:(k:Int)≤(k:Int) + 2:=by omega
 have d2:¬ sc=k:=by omega
 have d3:k≤sc:=by omega
 clear hs
 go_enter Tryz.func89,Tryz.ntmps89
 go_wp2
 rw [← hW]
 clear hW
 try simp only [List.append_eq,List.cons_append,List.nil_append]
 refine wp_region_saysK 12 (fun x y=>Below x.heap.size x y) (fun _ _ _ h k=>bnext h k) wr (below_drew1 wr) (by kernel_rfl) (by kernel_rfl) (by kernel_rfl) (by kernel_rfl) (by rfl) ?_
 simp only [List.take_succ_cons,List.take_zero,List.drop_succ_cons,List.drop_zero]
 refine walkK_new (noneV w.heap.size 3) (by first | exact gs0 rfl | exact gs1 rfl rfl rfl) (fun v x y hb h=>noneV_below v x y hb h) (fun u X hX hd=>⟨_,_,exec_none _ _ _ rfl,below_alloc1 _ _,_,rfl,World.ownsRow_lit X #[] 0 (hBX.out X hX) (by decide) rfl⟩) ?_
 refine wkN ?_
 iterate 4
  refine wkI ?_ (fun u X hX hd=>?_) ?_
  rotate_left
  ·have e2:=la.out X hX
   try simp at hd
   go_simp
   try rfl
 refine walkK_new (listV w.heap.size 3 2 ((st.drop k).map (.int .i64))) (by first | exact gs0 rfl | exact gs1 rfl rfl rfl) (fun v x y hb h=>listV_below v x y hb h) (fun u X hX hd=>?_) ?_
 ·simp at hd
  obtain ⟨⟨g,hg,ho⟩,h4⟩:=hd
  obtain ⟨v,w',hr,hb,hl⟩:=run_append_none (P:=Tryz.prog) X 49 49 w.heap.size 3 i0 _ 8 Tryz.underlying49 hi0 hz0 hz1 hz2 rfl (hBX.out X hX) g ho _ _ _ _ (HL.out.below (bnext B0.out hX)) (ints_oneC _) (by unfold maxLen;omega) (by omega)
  exact ⟨v,w',exec_append _ _ _ _ _ _ rfl (by go_simp) (by go_simp) hr,hb,hl⟩
 refine wkN ?_
 refine walkK_new (noneV w.heap.size 3) (by first | exact gs0 rfl | exact gs1 rfl rfl rfl) (fun v x y hb h=>noneV_below v x y hb h) (fun u X hX hd=>⟨_,_,exec_none _ _ _ rfl,below_alloc1 _ _,_,rfl,World.ownsRow_lit X #[] 0 (hBX.out X hX) (by decide) rfl⟩) ?_
 refine wkN ?_
 iterate 4
  refine wkI ?_ (fun u X hX hd=>?_) ?_
  rotate_left
  ·have e2:=la.out X hX
   try simp at hd
   go_simp
   try rfl
 refine walkK_new (listV w.heap.size 3 k ((st.take k).map (.int .i64))) (by first | exact gs0 rfl | exact gs1 rfl rfl rfl) (fun v x y hb h=>listV_below v x y hb h) (fun u X hX hd=>?_) ?_
 ·simp at hd
  obtain ⟨⟨g,hg,ho⟩,h4⟩:=hd
  obtain ⟨v,w',hr,hb,hl⟩:=run_append_none (P:=Tryz.prog) X 49 49 w.heap.size 3 i0 _ 8 Tryz.underlying49 hi0 hz0 hz1 hz2 rfl (hBX.out X hX) g ho _ _ _ _ (HF.out.below (bnext B0.out hX)) (ints_oneC _) (by unfold maxLen;omega) (by omega)
  exact ⟨v,w',exec_append _ _ _ _ _ _ rfl (by go_simp) (by go_simp) hr,hb,hl⟩
 refine wkN ?_
 intro u X hX hsay
 simp only [sayAll,isV] at hsay
 obtain ⟨-,-,-,-,-,⟨A,c,v5,ho5,-⟩,-,-,-,-,-,⟨A',c',v11,ho11,-⟩,-⟩:=hsay
 simp only [putAll,Act.put,v5,v11]
 go_wp2
 go_ret2
 exact ⟨⟨A,c,A',c',rfl,ho5,ho11⟩,bnext B0.out hX⟩
end
section
open Go.RowKit
attribute [local go_sem] look findAt
attribute [local simp] depsOf isV Region.binds
def RSPost (pc fuel:Int) (st:List Int) (r0 r1 r2 r3:Int) (ou:List Int) (ov:Bool) (e0:Int) (own:Blks) (sA:Option Addr) (sn:Nat) (oA:Option Addr) (on:Nat) (bA:Option Addr) (bn:Nat) (w:World) (e:Ending) (w':World):Prop:=
 ∃ sA' sn' sc' oA' on' oc' bA' bn' bc',e=.returned (.tuple #[.agg (mC pc fuel (.slice sA' sn' sc') r0 r1 r2 r3 (.slice oA' on' oc') ov e0),.slice bA' bn' bc'])∧MIn w' st ou own sA' sn' sc' oA' on' oc' bA' bn' bc'∧Below w.heap.size w w' ∧
  ∀ G,G < w.heap.size→off3 G sA sn oA on bA bn→off3 G sA' sn' oA' on' bA' bn'
theorem rW_ins (cm cs:Array Value) (is:Array Value) (w:World):Bk ((sB cm cs w).alloc (.cells is 72)) (w.heap.size + 1 + 1 + 1) 72 is:=by
 have:=Bk.new (sB cm cs w) 72 is
 rwa [World.size_alloc,World.size_alloc,World.size_alloc] at this
theorem Sl.offNew {w:World} {size n c G:Nat} {A:Option Addr} {xs:List Value} (h:Sl w size A n c xs) (hG:w.heap.size≤G):offA G A n:=fun hn b off he=>by
 obtain ⟨b',off',e,hb,_⟩:=h.2.2.2 hn
 rw [he] at e
 injection e with e
 injection e with e
 omega
theorem MIn.offNew {w:World} {st ou:List Int} {own:Blks} {sA:Option Addr} {sn sc:Nat} {oA:Option Addr} {on oc:Nat} {bA:Option Addr} {bn bc:Nat} {G:Nat} (h:MIn w st ou own sA sn sc oA on oc bA bn bc) (hG:w.heap.size≤G):off3 G sA sn oA on bA bn:=⟨h.st.offNew hG,h.ou.offNew hG,h.bk.offNew hG⟩
theorem MIn.setCell {w:World} {st ou:List Int} {own:Blks} {sA:Option Addr} {sn sc:Nat} {oA:Option Addr} {on oc:Nat} {bA:Option Addr} {bn bc:Nat} {G:Nat} (h:MIn w st ou own sA sn sc oA on oc bA bn bc) (ho:off3 G sA sn oA on bA bn) (k:Nat) (u:Value):MIn (w.setCell ⟨G,k,none⟩ u) st ou own sA sn sc oA on oc bA bn bc:=
 h.offSet ho (by simp [World.setCell]) (fun b hb _=>Below.heap_setCell w ⟨G,k,none⟩ u b hb)
theorem exec_load_at (ρ:Operand→Value) (w:World) (o:Oper) (x:Operand) (t:TypeId) (ho:o.op=.load t x) {g off:Nat} {cs:Array Value} (hx:ρ x=.pointer (some ⟨g,off,none⟩)) (hl:(loadVar t ⟨g,off,none⟩).run Tryz.prog w=.ok (.agg cs) w):(execOp ρ o).run Tryz.prog w=.ok (.value (.agg cs)) w:=by
 unfold execOp
 simp only [ho,hx,Instr.loadAt,Instr.sureAddr,Sem.run_bind,Sem.run_pure,Result.andThen_ok,hl]
section
variable (ra:Option Addr) (nr rc:Nat) (wa:Option Addr) (nw wc:Nat) (aa:Option Addr) (na ac:Nat) (cf:Int) (ca:Option Addr) (nc cc:Nat)
variable (fuel:Int) (sA:Option Addr) (sn sc:Nat) (r0 r1 r2 r3:Int) (oA:Option Addr) (on oc:Nat) (e0:Int) (bA:Option Addr) (bn bc:Nat)
theorem rstep1 (l:List Ins) (i:Nat) (a b:Int) (st ou:List Int) (own:Blks) (w:World) (hC:Inss w ca cc l) (hl:l.length=nc) (hi:i < nc) (hic:nc≤1000) (hx:insAt l i=⟨1,a,b⟩) (hM:MIn w st ou own sA sn sc oA on oc bA bn bc) (hf:fuel≠0) (hf2:0≤fuel∧fuel≤1000) (hs:sn≤1000) :
  Calls Tryz.prog 46 #[cmV ra nr rc wa nw wc aa na ac cf ca nc cc,.agg (mC (i:Int) fuel (.slice sA sn sc) r0 r1 r2 r3 (.slice oA on oc) false e0),.slice bA bn bc] w (RSPost ((i:Int) + 1) (fuel - 1) (st ++ [a]) r0 r1 r2 r3 ou false e0 own sA sn oA on bA bn w):=by
 obtain ⟨i0,hi0,hz0,hz1,hz2⟩:=infoInt
 obtain ⟨cb,co,rfl,hcb,x0,x1,x2⟩:=hC.cellAt (j:=i) (by omega)
 rw [hx] at x0 x1 x2
 simp only at x0 x1 x2
 have hcc:=hC.2.1
 rw [hl] at hcc
 have d1:(i:Int) < (nc:Int):=by omega
 have d2:(i:Int) < (cc:Int):=by omega
 have f0:(fuel == 0)=false:=by simpa using hf
 have bb:=sB_below #[.slice ra nr rc,.slice wa nw wc,.slice aa na ac,.int .i64 cf,.slice (some ⟨cb,co,none⟩) nc cc] (mC (i:Int) (fuel - 1) (.slice sA sn sc) r0 r1 r2 r3 (.slice oA on oc) false e0) w
 have y0:=(bb.cell (p:=⟨cb,co + i * 3,none⟩) hcb).trans x0
 have y1:=(bb.cell (p:=⟨cb,co + i * 3 + 1,none⟩) hcb).trans x1
 have y2:=(bb.cell (p:=⟨cb,co + i * 3 + 2,none⟩) hcb).trans x2
 obtain ⟨wr,hW⟩:∃ W,W=(sB #[.slice ra nr rc,.slice wa nw wc,.slice aa na ac,.int .i64 cf,.slice (some ⟨cb,co,none⟩) nc cc] (mC ((i:Int) + 1) (fuel - 1) (.slice sA sn sc) r0 r1 r2 r3 (.slice oA on oc) false e0) w).alloc (.cells #[.int .i64 1,.int .i64 a,.int .i64 b] 72):=⟨_,rfl⟩
 have B0:Hid (Below w.heap.size w wr):=hid (by rw [hW];exact bnext (sB_below _ _ _) (below_alloc1 _ _))
 have C0:Hid (Bk wr w.heap.size 56 #[.slice ra nr rc,.slice wa nw wc,.slice aa na ac,.int .i64 cf,.slice (some ⟨cb,co,none⟩) nc cc]):=hid (by rw [hW];exact (sB_cmd _ _ _).alloc _)
 have X0:Hid (Bk wr (w.heap.size + 1) 64 (mC ((i:Int) + 1) (fuel - 1) (.slice sA sn sc) r0 r1 r2 r3 (.slice oA on oc) false e0)):=hid (by rw [hW];exact (sB_box _ _ _).alloc _)
 have R0:Hid (Bk wr (w.heap.size + 1 + 1) 64 mZ):=hid (by rw [hW];exact (sB_res _ _ _).alloc _)
 have I0:Hid (Bk wr (w.heap.size + 1 + 1 + 1) 72 #[.int .i64 1,.int .i64 a,.int .i64 b]):=hid (by rw [hW];exact rW_ins _ _ _ _)
 have hBX:Hid (∀ {n:Nat} {u:Value} (X:World),TurnR wr.heap.size 3 n u wr X→wr.heap.size≤X.heap.size):=hid (fun X hX=>hX.1.size)
 have hWs:w.heap.size + 1 + 1 + 1 < wr.heap.size:=I0.out.lt
 have HM:=hid hM
 clear hC hx hl bb hM
 go_enter Tryz.func46,Tryz.ntmps46
 go_wp2
 rw [← hW]
 clear hW y0 y1 y2 x0 x1 x2 f0
 try simp only [List.append_eq,List.cons_append,List.nil_append]
 refine wp_region_saysK 9 (TurnR wr.heap.size 3 sn (.int .i64 a)) (TurnR.trans) wr (TurnR.of (Nat.le_refl _) (below_drew1 wr)) (by kernel_rfl) (by kernel_rfl) (by kernel_rfl) (by kernel_rfl) (by rfl) ?_
 simp only [List.take_succ_cons,List.take_zero,List.drop_succ_cons,List.drop_zero]
 refine walkK_new (noneV wr.heap.size 3) (by first | exact gs0 rfl | exact gs1 rfl rfl rfl) (fun v x y hb h=>noneV_turn v x y hb h) (fun u X hX hd=>⟨_,_,exec_none _ _ _ rfl,TurnR.of (hBX.out X hX) (below_alloc1 _ _),_,rfl,World.ownsRow_lit X #[] 0 (hBX.out X hX) (by decide) rfl⟩) ?_
 iterate 2
  refine wkN ?_
  refine walkK_is ?_ (by first | exact gs0 rfl | exact gs1 rfl rfl rfl) (fun _=>TurnR.refl _) (fun u X hX hd=>?_) ?_
  rotate_left
  ·have e2:=(X0.out.below hX.1).cell 2
   have q1:=(I0.out.below hX.1).cell 1
   simp only [List.getElem?_toArray,List.getElem?_cons_zero,List.getElem?_cons_succ] at e2 q1
   try simp at hd
   go_simp
   try rfl
 refine wkN ?_
 refine walkK_new (listV wr.heap.size 3 sn (st.map (.int .i64))) (by first | exact gs0 rfl | exact gs1 rfl rfl rfl) (fun v x y hb h=>listV_turn v x y hb h) (fun u X hX hd=>?_) ?_
 ·simp at hd
  obtain ⟨⟨g,hg,ho⟩,h4⟩:=hd
  obtain ⟨v,w',hr,hb,hl⟩:=run_append_none (P:=Tryz.prog) X 49 49 wr.heap.size 3 i0 _ 8 Tryz.underlying49 hi0 hz0 hz1 hz2 rfl (hBX.out X hX) g ho _ _ _ _ (HM.out.st.below (bnext B0.out hX.1)) (ints_oneC _) (by unfold maxLen;omega) (by omega)
  exact ⟨v,w',exec_append _ _ _ _ _ _ rfl (by go_simp) (by go_simp) hr,TurnR.of (hBX.out X hX) hb,hl⟩
 iterate 2
  refine wkN ?_
  refine walkK_is ?_ (by first | exact gs0 rfl | exact gs1 rfl rfl rfl) (fun _=>TurnR.refl _) (fun u X hX hd=>?_) ?_
  rotate_left
  ·have e2:=(X0.out.below hX.1).cell 2
   have q1:=(I0.out.below hX.1).cell 1
   simp only [List.getElem?_toArray,List.getElem?_cons_zero,List.getElem?_cons_succ] at e2 q1
   try simp at hd
   go_simp
   try rfl
 refine wkN ?_
 refine walkK_new (singV wr.heap.size 3 (.int .i64 a)) (by first | exact gs0 rfl | exact gs1 rfl rfl rfl) (fun v x y hb h=>singV_turn v x y hb h) (fun u X hX hd=>⟨_,_,exec_sing _ _ _ _ rfl (by (try simp at hd);go_simp;try exact hd),TurnR.of (hBX.out X hX) (below_alloc1 _ _),_,rfl,World.ownsRow_lit X #[.int .i64 a] 1 (hBX.out X hX) (by decide) rfl⟩) ?_
 refine wkN ?_
 refine walkK_new (moreV wr.heap.size 3 sn (st.map (.int .i64)) (.int .i64 a)) (by first | exact gs0 rfl | exact gs1 rfl rfl rfl) (fun v x y hb h=>moreV_turn v x y hb h) (fun u X hX hd=>?_) ?_
 ·simp at hd
  obtain ⟨⟨A,c,hA,ho,hc⟩,⟨g,hg,hs⟩,-⟩:=hd
  obtain ⟨v,w',hr,hb,hl⟩:=run_append_sing (P:=Tryz.prog) X 49 49 wr.heap.size 3 i0 _ 8 Tryz.underlying49 hi0 hz0 hz1 hz2 rfl (hBX.out X hX) A _ c _ ho hc _ g hs rfl (by unfold maxLen;omega) (by omega)
  exact ⟨v,w',exec_append _ _ _ _ _ _ rfl (by go_simp) (by go_simp) hr,hb,hl⟩
 refine wkN ?_
 refine walkK_is ?_ (by first | exact gs0 rfl | exact gs1 rfl rfl rfl) (fun _=>TurnR.refl _) (fun u X hX hd=>?_) ?_
 rotate_left
 ·have e2:=(X0.out.below hX.1).cell 2
  have q1:=(I0.out.below hX.1).cell 1
  simp only [List.getElem?_toArray,List.getElem?_cons_zero,List.getElem?_cons_succ] at e2 q1
  try simp at hd
  go_simp
  try rfl
 refine wkN ?_
 intro u X hX hsay
 simp only [sayAll,isV] at hsay
 obtain ⟨⟨g0,v0,-⟩,v1,v2,⟨A3,c3,v3,-⟩,v4,v5,⟨g1,v6,-⟩,⟨g2,c2,v7,ho2⟩,v8,-⟩:=hsay
 have XB:=hid (X0.out.below hX.1)
 have RB:=hid (R0.out.below hX.1)
 have z2:=XB.out.cell 2
 have zf:=XB.out.frozen
 have zl:=XB.out.lt
 simp only [List.getElem?_toArray,List.getElem?_cons_zero,List.getElem?_cons_succ] at z2
 have X2:Hid (Bk (X.setCell ⟨w.heap.size + 1,2,none⟩ (.slice (some ⟨g2,0,none⟩) (sn + 1) c2)) (w.heap.size + 1) 64 (mC ((i:Int) + 1) (fuel - 1) (.slice (some ⟨g2,0,none⟩) (sn + 1) c2) r0 r1 r2 r3 (.slice oA on oc) false e0)):=hid (by simpa using XB.out.set 2 (.slice (some ⟨g2,0,none⟩) (sn + 1) c2))
 have R2:=hid (RB.out.far (p:=⟨w.heap.size + 1,2,none⟩) (by simp) (.slice (some ⟨g2,0,none⟩) (sn + 1) c2))
 have MX:Hid (MIn X (st ++ [a]) ou own (some ⟨g2,0,none⟩) (sn + 1) c2 oA on oc bA bn bc):=hid (by
  have hm:=HM.out.below (bnext B0.out hX.1)
  refine ⟨?_,hm.ou,hm.bk⟩
  have:=Sl.own' ho2
  simpa using this)
 have OX:Hid (∀ G,G < wr.heap.size→off3 G sA sn oA on bA bn→off3 G (some ⟨g2,0,none⟩) (sn + 1) oA on bA bn):=hid (fun G hG h=>⟨own_offA ho2 hG,h.2⟩)
 have BX:=hid (bnext B0.out hX.1)
 simp only [putAll,Act.put,v0,v1,v2,v3,v4,v5,v6,v7,v8,List.setIfInBounds_toArray,List.set_cons_succ,List.set_cons_zero]
 clear ho2 hX v0 v1 v2 v3 v4 v5 v6 v7 v8
 go_wp2_with (first
  | (with_reducible refine ld_mach (w.heap.size + 1) X2.out _ rfl rfl rfl ?_)
  | (with_reducible refine st_mach (w.heap.size + 1 + 1) R2.out rfl rfl _ _ rfl rfl rfl rfl ?_))
 exact bodyPost_ret (v:=.tuple #[.agg (mC ((i:Int) + 1) (fuel - 1) (.slice (some ⟨g2,0,none⟩) (sn + 1) c2) r0 r1 r2 r3 (.slice oA on oc) false e0),.slice bA bn bc]) (res2_mach rfl _ _ (w.heap.size + 1 + 1) _ rfl rfl (Bk.setRow R2.out _)) rfl
  ⟨_,_,_,_,_,_,_,_,_,rfl,(MX.out.setCell (OX.out _ (by omega) (HM.out.offNew (by omega))) _ _).setRow (OX.out _ (by omega) (HM.out.offNew (by omega))) _,below_row (BX.out.setCell (p:=⟨w.heap.size + 1,2,none⟩) (by simp) _) (by omega) _,fun G hG h=>OX.out G (by omega) h⟩
theorem rstep2 (l:List Ins) (i:Nat) (k:Nat) (b v:Int) (st ou:List Int) (own:Blks) (w:World) (hC:Inss w ca cc l) (hl:l.length=nc) (hi:i < nc) (hic:nc≤1000) (hx:insAt l i=⟨2,k,b⟩) (hM:MIn w st ou own sA sn sc oA on oc bA bn bc) (hf:fuel≠0) (hf2:0≤fuel∧fuel≤1000) (hk:k < 4) (hv:[r0,r1,r2,r3][k]? = some v) (hs:sn≤1000) :
  Calls Tryz.prog 46 #[cmV ra nr rc wa nw wc aa na ac cf ca nc cc,.agg (mC (i:Int) fuel (.slice sA sn sc) r0 r1 r2 r3 (.slice oA on oc) false e0),.slice bA bn bc] w (RSPost ((i:Int) + 1) (fuel - 1) (st ++ [v]) r0 r1 r2 r3 ou false e0 own sA sn oA on bA bn w):=by
 have d3:(k:Int) < 4:=by omega
 have hreg:Hid (∀ (X:World) (cs:Array Value),Bk X (w.heap.size + 1) 64 cs→cs=(mC ((i:Int) + 1) (fuel - 1) (.slice sA sn sc) r0 r1 r2 r3 (.slice oA on oc) false e0)→X.cell? ⟨w.heap.size + 1,3 + k,none⟩=some (.int .i64 v)):=hid (fun X cs hb he=>by
  rw [hb.cell,he]
  rcases (show k=0∨k=1∨k=2∨k=3 by omega) with rfl | rfl | rfl | rfl <;> (simp at hv;simp [hv]))
 clear hk hv
 obtain ⟨i0,hi0,hz0,hz1,hz2⟩:=infoInt
 obtain ⟨cb,co,rfl,hcb,x0,x1,x2⟩:=hC.cellAt (j:=i) (by omega)
 rw [hx] at x0 x1 x2
 simp only at x0 x1 x2
 have hcc:=hC.2.1
 rw [hl] at hcc
 have d1:(i:Int) < (nc:Int):=by omega
 have d2:(i:Int) < (cc:Int):=by omega
 have f0:(fuel == 0)=false:=by simpa using hf
 have bb:=sB_below #[.slice ra nr rc,.slice wa nw wc,.slice aa na ac,.int .i64 cf,.slice (some ⟨cb,co,none⟩) nc cc] (mC (i:Int) (fuel - 1) (.slice sA sn sc) r0 r1 r2 r3 (.slice oA on oc) false e0) w
 have y0:=(bb.cell (p:=⟨cb,co + i * 3,none⟩) hcb).trans x0
 have y1:=(bb.cell (p:=⟨cb,co + i * 3 + 1,none⟩) hcb).trans x1
 have y2:=(bb.cell (p:=⟨cb,co + i * 3 + 2,none⟩) hcb).trans x2
 obtain ⟨wr,hW⟩:∃ W,W=(sB #[.slice ra nr rc,.slice wa nw wc,.slice aa na ac,.int .i64 cf,.slice (some ⟨cb,co,none⟩) nc cc] (mC ((i:Int) + 1) (fuel - 1) (.slice sA sn sc) r0 r1 r2 r3 (.slice oA on oc) false e0) w).alloc (.cells #[.int .i64 2,.int .i64 k,.int .i64 b] 72):=⟨_,rfl⟩
 have B0:Hid (Below w.heap.size w wr):=hid (by rw [hW];exact bnext (sB_below _ _ _) (below_alloc1 _ _))
 have C0:Hid (Bk wr w.heap.size 56 #[.slice ra nr rc,.slice wa nw wc,.slice aa na ac,.int .i64 cf,.slice (some ⟨cb,co,none⟩) nc cc]):=hid (by rw [hW];exact (sB_cmd _ _ _).alloc _)
 have X0:Hid (Bk wr (w.heap.size + 1) 64 (mC ((i:Int) + 1) (fuel - 1) (.slice sA sn sc) r0 r1 r2 r3 (.slice oA on oc) false e0)):=hid (by rw [hW];exact (sB_box _ _ _).alloc _)
 have R0:Hid (Bk wr (w.heap.size + 1 + 1) 64 mZ):=hid (by rw [hW];exact (sB_res _ _ _).alloc _)
 have I0:Hid (Bk wr (w.heap.size + 1 + 1 + 1) 72 #[.int .i64 2,.int .i64 k,.int .i64 b]):=hid (by rw [hW];exact rW_ins _ _ _ _)
 have hBX:Hid (∀ {n:Nat} {u:Value} (X:World),TurnR wr.heap.size 3 n u wr X→wr.heap.size≤X.heap.size):=hid (fun X hX=>hX.1.size)
 have hWs:w.heap.size + 1 + 1 + 1 < wr.heap.size:=I0.out.lt
 have HM:=hid hM
 clear hC hx hl bb hM
 go_enter Tryz.func46,Tryz.ntmps46
 go_wp2
 rw [← hW]
 clear hW y0 y1 y2 x0 x1 x2 f0
 try simp only [List.append_eq,List.cons_append,List.nil_append]
 refine wp_region_saysK 12 (TurnR wr.heap.size 3 sn (.int .i64 v)) (TurnR.trans) wr (TurnR.of (Nat.le_refl _) (below_drew1 wr)) (by kernel_rfl) (by kernel_rfl) (by kernel_rfl) (by kernel_rfl) (by rfl) ?_
 simp only [List.take_succ_cons,List.take_zero,List.drop_succ_cons,List.drop_zero]
 refine walkK_new (noneV wr.heap.size 3) (by first | exact gs0 rfl | exact gs1 rfl rfl rfl) (fun v x y hb h=>noneV_turn v x y hb h) (fun u X hX hd=>⟨_,_,exec_none _ _ _ rfl,TurnR.of (hBX.out X hX) (below_alloc1 _ _),_,rfl,World.ownsRow_lit X #[] 0 (hBX.out X hX) (by decide) rfl⟩) ?_
 iterate 2
  refine wkN ?_
  refine walkK_is ?_ (by first | exact gs0 rfl | exact gs1 rfl rfl rfl) (fun _=>TurnR.refl _) (fun u X hX hd=>?_) ?_
  rotate_left
  ·have e2:=(X0.out.below hX.1).cell 2
   have q1:=(I0.out.below hX.1).cell 1
   simp only [List.getElem?_toArray,List.getElem?_cons_zero,List.getElem?_cons_succ] at e2 q1
   have q3:=hreg.out X _ (X0.out.below hX.1) rfl
   try simp at hd
   go_simp
   try rfl
 refine wkN ?_
 refine walkK_new (listV wr.heap.size 3 sn (st.map (.int .i64))) (by first | exact gs0 rfl | exact gs1 rfl rfl rfl) (fun v x y hb h=>listV_turn v x y hb h) (fun u X hX hd=>?_) ?_
 ·simp at hd
  obtain ⟨⟨g,hg,ho⟩,h4⟩:=hd
  obtain ⟨v,w',hr,hb,hl⟩:=run_append_none (P:=Tryz.prog) X 49 49 wr.heap.size 3 i0 _ 8 Tryz.underlying49 hi0 hz0 hz1 hz2 rfl (hBX.out X hX) g ho _ _ _ _ (HM.out.st.below (bnext B0.out hX.1)) (ints_oneC _) (by unfold maxLen;omega) (by omega)
  exact ⟨v,w',exec_append _ _ _ _ _ _ rfl (by go_simp) (by go_simp) hr,TurnR.of (hBX.out X hX) hb,hl⟩
 iterate 5
  refine wkN ?_
  refine walkK_is ?_ (by first | exact gs0 rfl | exact gs1 rfl rfl rfl) (fun _=>TurnR.refl _) (fun u X hX hd=>?_) ?_
  rotate_left
  ·have e2:=(X0.out.below hX.1).cell 2
   have q1:=(I0.out.below hX.1).cell 1
   simp only [List.getElem?_toArray,List.getElem?_cons_zero,List.getElem?_cons_succ] at e2 q1
   have q3:=hreg.out X _ (X0.out.below hX.1) rfl
   try simp at hd
   go_simp
   try rfl
 refine wkN ?_
 refine walkK_new (singV wr.heap.size 3 (.int .i64 v)) (by first | exact gs0 rfl | exact gs1 rfl rfl rfl) (fun v x y hb h=>singV_turn v x y hb h) (fun u X hX hd=>⟨_,_,exec_sing _ _ _ _ rfl (by (try simp at hd);go_simp;try exact hd),TurnR.of (hBX.out X hX) (below_alloc1 _ _),_,rfl,World.ownsRow_lit X #[.int .i64 v] 1 (hBX.out X hX) (by decide) rfl⟩) ?_
 refine wkN ?_
 refine walkK_new (moreV wr.heap.size 3 sn (st.map (.int .i64)) (.int .i64 v)) (by first | exact gs0 rfl | exact gs1 rfl rfl rfl) (fun v x y hb h=>moreV_turn v x y hb h) (fun u X hX hd=>?_) ?_
 ·simp at hd
  obtain ⟨⟨A,c,hA,ho,hc⟩,⟨g,hg,hs⟩,-⟩:=hd
  obtain ⟨v,w',hr,hb,hl⟩:=run_append_sing (P:=Tryz.prog) X 49 49 wr.heap.size 3 i0 _ 8 Tryz.underlying49 hi0 hz0 hz1 hz2 rfl (hBX.out X hX) A _ c _ ho hc _ g hs rfl (by unfold maxLen;omega) (by omega)
  exact ⟨v,w',exec_append _ _ _ _ _ _ rfl (by go_simp) (by go_simp) hr,hb,hl⟩
 refine wkN ?_
 refine walkK_is ?_ (by first | exact gs0 rfl | exact gs1 rfl rfl rfl) (fun _=>TurnR.refl _) (fun u X hX hd=>?_) ?_
 rotate_left
 ·have e2:=(X0.out.below hX.1).cell 2
  have q1:=(I0.out.below hX.1).cell 1
  simp only [List.getElem?_toArray,List.getElem?_cons_zero,List.getElem?_cons_succ] at e2 q1
  have q3:=hreg.out X _ (X0.out.below hX.1) rfl
  try simp at hd
  go_simp
  try rfl
 refine wkN ?_
 intro u X hX hsay
 simp only [sayAll,isV] at hsay
 obtain ⟨⟨g0,v0,-⟩,v1,v2,⟨A3,c3,v3,-⟩,v4,v5,v6,v7,v8,⟨g1,v9,-⟩,⟨g2,c2,v10,ho2⟩,v11,-⟩:=hsay
 have XB:=hid (X0.out.below hX.1)
 have RB:=hid (R0.out.below hX.1)
 have z2:=XB.out.cell 2
 have zf:=XB.out.frozen
 have zl:=XB.out.lt
 simp only [List.getElem?_toArray,List.getElem?_cons_zero,List.getElem?_cons_succ] at z2
 have X2:Hid (Bk (X.setCell ⟨w.heap.size + 1,2,none⟩ (.slice (some ⟨g2,0,none⟩) (sn + 1) c2)) (w.heap.size + 1) 64 (mC ((i:Int) + 1) (fuel - 1) (.slice (some ⟨g2,0,none⟩) (sn + 1) c2) r0 r1 r2 r3 (.slice oA on oc) false e0)):=hid (by simpa using XB.out.set 2 (.slice (some ⟨g2,0,none⟩) (sn + 1) c2))
 have R2:=hid (RB.out.far (p:=⟨w.heap.size + 1,2,none⟩) (by simp) (.slice (some ⟨g2,0,none⟩) (sn + 1) c2))
 have MX:Hid (MIn X (st ++ [v]) ou own (some ⟨g2,0,none⟩) (sn + 1) c2 oA on oc bA bn bc):=hid (by
  have hm:=HM.out.below (bnext B0.out hX.1)
  refine ⟨?_,hm.ou,hm.bk⟩
  have:=Sl.own' ho2
  simpa using this)
 have OX:Hid (∀ G,G < wr.heap.size→off3 G sA sn oA on bA bn→off3 G (some ⟨g2,0,none⟩) (sn + 1) oA on bA bn):=hid (fun G hG h=>⟨own_offA ho2 hG,h.2⟩)
 have BX:=hid (bnext B0.out hX.1)
 simp only [putAll,Act.put,v0,v1,v2,v3,v4,v5,v6,v7,v8,v9,v10,v11,List.setIfInBounds_toArray,List.set_cons_succ,List.set_cons_zero]
 clear ho2 hX v0 v1 v2 v3 v4 v5 v6 v7 v8 v9 v10 v11
 go_wp2_with (first
  | (with_reducible refine ld_mach (w.heap.size + 1) X2.out _ rfl rfl rfl ?_)
  | (with_reducible refine st_mach (w.heap.size + 1 + 1) R2.out rfl rfl _ _ rfl rfl rfl rfl ?_))
 exact bodyPost_ret (v:=.tuple #[.agg (mC ((i:Int) + 1) (fuel - 1) (.slice (some ⟨g2,0,none⟩) (sn + 1) c2) r0 r1 r2 r3 (.slice oA on oc) false e0),.slice bA bn bc]) (res2_mach rfl _ _ (w.heap.size + 1 + 1) _ rfl rfl (Bk.setRow R2.out _)) rfl
  ⟨_,_,_,_,_,_,_,_,_,rfl,(MX.out.setCell (OX.out _ (by omega) (HM.out.offNew (by omega))) _ _).setRow (OX.out _ (by omega) (HM.out.offNew (by omega))) _,below_row (BX.out.setCell (p:=⟨w.heap.size + 1,2,none⟩) (by simp) _) (by omega) _,fun G hG h=>OX.out G (by omega) h⟩
theorem rstep4 (l:List Ins) (i:Nat) (k:Nat) (b:Int) (st ou:List Int) (own:Blks) (w:World) (hC:Inss w ca cc l) (hl:l.length=nc) (hi:i < nc) (hic:nc≤1000) (hx:insAt l i=⟨4,k,b⟩) (hM:MIn w st ou own sA sn sc oA on oc bA bn bc) (hf:fuel≠0) (hf2:0≤fuel∧fuel≤1000) (h8:∀ b∈own,b.length=8) (hk:k < own.length) (hbn:own.length=bn) (v:Int) (hv:v=getC (own[k]?.getD []) b) (hBs:Blocks w bA bc own) (hs:sn≤1000) :
  Calls Tryz.prog 46 #[cmV ra nr rc wa nw wc aa na ac cf ca nc cc,.agg (mC (i:Int) fuel (.slice sA sn sc) r0 r1 r2 r3 (.slice oA on oc) false e0),.slice bA bn bc] w (RSPost ((i:Int) + 1) (fuel - 1) (st ++ [v]) r0 r1 r2 r3 ou false e0 own sA sn oA on bA bn w):=by
 have h8':(own[k]?.getD []).length=8:=by
  rw [List.getElem?_eq_getElem hk]
  exact h8 _ (List.getElem_mem _)
 obtain ⟨gb,ob,rfl,hlo⟩:=Blocks.load (w:=w) (A:=bA) (c:=bc) (own:=own) hBs h8 hk
 have d3:(k:Int) < (bn:Int):=by omega
 have d4:(k:Int) < (bc:Int):=by
  have:=hBs.2.1
  omega
 have hget:=hid (fun X=>rget_any (own[k]?.getD []) h8' b X)
 have HL:=hid hlo
 have hQ2:Hid (∀ (X:World) (cs:Array Value),Bk X (w.heap.size + 1 + 1 + 1) 72 cs→cs = #[.int .i64 4,.int .i64 (k:Int),.int .i64 b]→X.cell? ⟨w.heap.size + 1 + 1 + 1,2,none⟩=some (.int .i64 b)):=hid (fun X cs hb he=>by rw [hb.cell,he];rfl)
 subst hv
 generalize getC (own[k]?.getD []) b=v at *
 generalize bkC (own[k]?.getD [])=cs at *
 clear hk h8' hlo hbn hBs
 obtain ⟨i0,hi0,hz0,hz1,hz2⟩:=infoInt
 obtain ⟨cb,co,rfl,hcb,x0,x1,x2⟩:=hC.cellAt (j:=i) (by omega)
 rw [hx] at x0 x1 x2
 simp only at x0 x1 x2
 have hcc:=hC.2.1
 rw [hl] at hcc
 have d1:(i:Int) < (nc:Int):=by omega
 have d2:(i:Int) < (cc:Int):=by omega
 have f0:(fuel == 0)=false:=by simpa using hf
 have bb:=sB_below #[.slice ra nr rc,.slice wa nw wc,.slice aa na ac,.int .i64 cf,.slice (some ⟨cb,co,none⟩) nc cc] (mC (i:Int) (fuel - 1) (.slice sA sn sc) r0 r1 r2 r3 (.slice oA on oc) false e0) w
 have y0:=(bb.cell (p:=⟨cb,co + i * 3,none⟩) hcb).trans x0
 have y1:=(bb.cell (p:=⟨cb,co + i * 3 + 1,none⟩) hcb).trans x1
 have y2:=(bb.cell (p:=⟨cb,co + i * 3 + 2,none⟩) hcb).trans x2
 obtain ⟨wr,hW⟩:∃ W,W=(sB #[.slice ra nr rc,.slice wa nw wc,.slice aa na ac,.int .i64 cf,.slice (some ⟨cb,co,none⟩) nc cc] (mC ((i:Int) + 1) (fuel - 1) (.slice sA sn sc) r0 r1 r2 r3 (.slice oA on oc) false e0) w).alloc (.cells #[.int .i64 4,.int .i64 k,.int .i64 b] 72):=⟨_,rfl⟩
 have B0:Hid (Below w.heap.size w wr):=hid (by rw [hW];exact bnext (sB_below _ _ _) (below_alloc1 _ _))
 have C0:Hid (Bk wr w.heap.size 56 #[.slice ra nr rc,.slice wa nw wc,.slice aa na ac,.int .i64 cf,.slice (some ⟨cb,co,none⟩) nc cc]):=hid (by rw [hW];exact (sB_cmd _ _ _).alloc _)
 have X0:Hid (Bk wr (w.heap.size + 1) 64 (mC ((i:Int) + 1) (fuel - 1) (.slice sA sn sc) r0 r1 r2 r3 (.slice oA on oc) false e0)):=hid (by rw [hW];exact (sB_box _ _ _).alloc _)
 have R0:Hid (Bk wr (w.heap.size + 1 + 1) 64 mZ):=hid (by rw [hW];exact (sB_res _ _ _).alloc _)
 have I0:Hid (Bk wr (w.heap.size + 1 + 1 + 1) 72 #[.int .i64 4,.int .i64 k,.int .i64 b]):=hid (by rw [hW];exact rW_ins _ _ _ _)
 have hBX:Hid (∀ {n:Nat} {u:Value} (X:World),TurnR wr.heap.size 3 n u wr X→wr.heap.size≤X.heap.size):=hid (fun X hX=>hX.1.size)
 have hWs:w.heap.size + 1 + 1 + 1 < wr.heap.size:=I0.out.lt
 have HM:=hid hM
 clear hC hx hl bb hM
 go_enter Tryz.func46,Tryz.ntmps46
 go_wp2
 rw [← hW]
 clear hW y0 y1 y2 x0 x1 x2 f0
 try simp only [List.append_eq,List.cons_append,List.nil_append]
 refine wp_region_saysK 15 (TurnR wr.heap.size 3 sn (.int .i64 v)) (TurnR.trans) wr (TurnR.of (Nat.le_refl _) (below_drew1 wr)) (by kernel_rfl) (by kernel_rfl) (by kernel_rfl) (by kernel_rfl) (by rfl) ?_
 simp only [List.take_succ_cons,List.take_zero,List.drop_succ_cons,List.drop_zero]
 refine walkK_new (noneV wr.heap.size 3) (by first | exact gs0 rfl | exact gs1 rfl rfl rfl) (fun v x y hb h=>noneV_turn v x y hb h) (fun u X hX hd=>⟨_,_,exec_none _ _ _ rfl,TurnR.of (hBX.out X hX) (below_alloc1 _ _),_,rfl,World.ownsRow_lit X #[] 0 (hBX.out X hX) (by decide) rfl⟩) ?_
 iterate 2
  refine wkN ?_
  refine walkK_is ?_ (by first | exact gs0 rfl | exact gs1 rfl rfl rfl) (fun _=>TurnR.refl _) (fun u X hX hd=>?_) ?_
  rotate_left
  ·have e2:=(X0.out.below hX.1).cell 2
   have q1:=(I0.out.below hX.1).cell 1
   simp only [List.getElem?_toArray,List.getElem?_cons_zero,List.getElem?_cons_succ] at e2 q1
   have q2:=hQ2.out X _ (I0.out.below hX.1) rfl
   try simp at hd
   go_simp
   try rfl
 refine wkN ?_
 refine walkK_new (listV wr.heap.size 3 sn (st.map (.int .i64))) (by first | exact gs0 rfl | exact gs1 rfl rfl rfl) (fun v x y hb h=>listV_turn v x y hb h) (fun u X hX hd=>?_) ?_
 ·simp at hd
  obtain ⟨⟨g,hg,ho⟩,h4⟩:=hd
  obtain ⟨v,w',hr,hb,hl⟩:=run_append_none (P:=Tryz.prog) X 49 49 wr.heap.size 3 i0 _ 8 Tryz.underlying49 hi0 hz0 hz1 hz2 rfl (hBX.out X hX) g ho _ _ _ _ (HM.out.st.below (bnext B0.out hX.1)) (ints_oneC _) (by unfold maxLen;omega) (by omega)
  exact ⟨v,w',exec_append _ _ _ _ _ _ rfl (by go_simp) (by go_simp) hr,TurnR.of (hBX.out X hX) hb,hl⟩
 iterate 4
  refine wkN ?_
  refine walkK_is ?_ (by first | exact gs0 rfl | exact gs1 rfl rfl rfl) (fun _=>TurnR.refl _) (fun u X hX hd=>?_) ?_
  rotate_left
  ·have e2:=(X0.out.below hX.1).cell 2
   have q1:=(I0.out.below hX.1).cell 1
   simp only [List.getElem?_toArray,List.getElem?_cons_zero,List.getElem?_cons_succ] at e2 q1
   have q2:=hQ2.out X _ (I0.out.below hX.1) rfl
   try simp at hd
   go_simp
   try rfl
 refine wkN ?_
 refine walkK_is (.agg cs) (by exact gs0 rfl) (fun _=>TurnR.refl _) (fun u X hX hd=>?_) ?_
 ·have hlx:=HL.out X (bnext B0.out hX.1)
  try simp at hd
  exact exec_load_at _ _ _ _ _ rfl (by go_simp) hlx
 iterate 2
  refine wkN ?_
  refine walkK_is ?_ (by first | exact gs0 rfl | exact gs1 rfl rfl rfl) (fun _=>TurnR.refl _) (fun u X hX hd=>?_) ?_
  rotate_left
  ·have e2:=(X0.out.below hX.1).cell 2
   have q1:=(I0.out.below hX.1).cell 1
   simp only [List.getElem?_toArray,List.getElem?_cons_zero,List.getElem?_cons_succ] at e2 q1
   have q2:=hQ2.out X _ (I0.out.below hX.1) rfl
   try simp at hd
   go_simp
   try rfl
 refine wkN ?_
 refine walkK_call (isV (.int .i64 v)) 88 ?_ (by first | exact gs0 rfl | exact gs1 rfl rfl rfl) (fun _ _ _ _ h=>h) (fun u X hX hd=>?_) (fun X hX=>?_) ?_
 rotate_left
 ·have e2:=(X0.out.below hX.1).cell 2
  have q1:=(I0.out.below hX.1).cell 1
  simp only [List.getElem?_toArray,List.getElem?_cons_zero,List.getElem?_cons_succ] at e2 q1
  have q2:=hQ2.out X _ (I0.out.below hX.1) rfl
  try simp at hd
  go_simp
  try rfl
 ·exact (hget.out X).mono fun e X' ⟨he,hb⟩=>⟨_,he,TurnR.of (hBX.out X hX) hb,rfl⟩
 refine wkN ?_
 refine walkK_new (singV wr.heap.size 3 (.int .i64 v)) (by first | exact gs0 rfl | exact gs1 rfl rfl rfl) (fun v x y hb h=>singV_turn v x y hb h) (fun u X hX hd=>⟨_,_,exec_sing _ _ _ _ rfl (by (try simp at hd);go_simp;try exact hd),TurnR.of (hBX.out X hX) (below_alloc1 _ _),_,rfl,World.ownsRow_lit X #[.int .i64 v] 1 (hBX.out X hX) (by decide) rfl⟩) ?_
 refine wkN ?_
 refine walkK_new (moreV wr.heap.size 3 sn (st.map (.int .i64)) (.int .i64 v)) (by first | exact gs0 rfl | exact gs1 rfl rfl rfl) (fun v x y hb h=>moreV_turn v x y hb h) (fun u X hX hd=>?_) ?_
 ·simp at hd
  obtain ⟨⟨A,c,hA,ho,hc⟩,⟨g,hg,hs⟩,-⟩:=hd
  obtain ⟨v,w',hr,hb,hl⟩:=run_append_sing (P:=Tryz.prog) X 49 49 wr.heap.size 3 i0 _ 8 Tryz.underlying49 hi0 hz0 hz1 hz2 rfl (hBX.out X hX) A _ c _ ho hc _ g hs rfl (by unfold maxLen;omega) (by omega)
  exact ⟨v,w',exec_append _ _ _ _ _ _ rfl (by go_simp) (by go_simp) hr,hb,hl⟩
 refine wkN ?_
 refine walkK_is ?_ (by first | exact gs0 rfl | exact gs1 rfl rfl rfl) (fun _=>TurnR.refl _) (fun u X hX hd=>?_) ?_
 rotate_left
 ·have e2:=(X0.out.below hX.1).cell 2
  have q1:=(I0.out.below hX.1).cell 1
  simp only [List.getElem?_toArray,List.getElem?_cons_zero,List.getElem?_cons_succ] at e2 q1
  have q2:=hQ2.out X _ (I0.out.below hX.1) rfl
  try simp at hd
  go_simp
  try rfl
 refine wkN ?_
 intro u X hX hsay
 simp only [sayAll,isV] at hsay
 obtain ⟨⟨g0,v0,-⟩,v1,v2,⟨A3,c3,v3,-⟩,v4,v5,v6,v7,v8,v9,v10,v11,⟨g1,v12,-⟩,⟨g2,c2,v13,ho2⟩,v14,-⟩:=hsay
 have XB:=hid (X0.out.below hX.1)
 have RB:=hid (R0.out.below hX.1)
 have z2:=XB.out.cell 2
 have zf:=XB.out.frozen
 have zl:=XB.out.lt
 simp only [List.getElem?_toArray,List.getElem?_cons_zero,List.getElem?_cons_succ] at z2
 have X2:Hid (Bk (X.setCell ⟨w.heap.size + 1,2,none⟩ (.slice (some ⟨g2,0,none⟩) (sn + 1) c2)) (w.heap.size + 1) 64 (mC ((i:Int) + 1) (fuel - 1) (.slice (some ⟨g2,0,none⟩) (sn + 1) c2) r0 r1 r2 r3 (.slice oA on oc) false e0)):=hid (by simpa using XB.out.set 2 (.slice (some ⟨g2,0,none⟩) (sn + 1) c2))
 have R2:=hid (RB.out.far (p:=⟨w.heap.size + 1,2,none⟩) (by simp) (.slice (some ⟨g2,0,none⟩) (sn + 1) c2))
 have MX:Hid (MIn X (st ++ [v]) ou own (some ⟨g2,0,none⟩) (sn + 1) c2 oA on oc (some ⟨gb,ob,none⟩) bn bc):=hid (by
  have hm:=HM.out.below (bnext B0.out hX.1)
  refine ⟨?_,hm.ou,hm.bk⟩
  have:=Sl.own' ho2
  simpa using this)
 have OX:Hid (∀ G,G < wr.heap.size→off3 G sA sn oA on (some ⟨gb,ob,none⟩) bn→off3 G (some ⟨g2,0,none⟩) (sn + 1) oA on (some ⟨gb,ob,none⟩) bn):=hid (fun G hG h=>⟨own_offA ho2 hG,h.2⟩)
 have BX:=hid (bnext B0.out hX.1)
 simp only [putAll,Act.put,v0,v1,v2,v3,v4,v5,v6,v7,v8,v9,v10,v11,v12,v13,v14,List.setIfInBounds_toArray,List.set_cons_succ,List.set_cons_zero]
 clear ho2 hX v0 v1 v2 v3 v4 v5 v6 v7 v8 v9 v10 v11 v12 v13 v14
 go_wp2_with (first
  | (with_reducible refine ld_mach (w.heap.size + 1) X2.out _ rfl rfl rfl ?_)
  | (with_reducible refine st_mach (w.heap.size + 1 + 1) R2.out rfl rfl _ _ rfl rfl rfl rfl ?_))
 exact bodyPost_ret (v:=.tuple #[.agg (mC ((i:Int) + 1) (fuel - 1) (.slice (some ⟨g2,0,none⟩) (sn + 1) c2) r0 r1 r2 r3 (.slice oA on oc) false e0),.slice (some ⟨gb,ob,none⟩) bn bc]) (res2_mach rfl _ _ (w.heap.size + 1 + 1) _ rfl rfl (Bk.setRow R2.out _)) rfl
  ⟨_,_,_,_,_,_,_,_,_,rfl,(MX.out.setCell (OX.out _ (by omega) (HM.out.offNew (by omega))) _ _).setRow (OX.out _ (by omega) (HM.out.offNew (by omega))) _,below_row (BX.out.setCell (p:=⟨w.heap.size + 1,2,none⟩) (by simp) _) (by omega) _,fun G hG h=>OX.out G (by omega) h⟩
theorem rstep6 (l:List Ins) (i:Nat) (k:Nat) (b:Int) (st ou:List Int) (own:Blks) (w:World) (hC:Inss w ca cc l) (hl:l.length=nc) (hi:i < nc) (hic:nc≤1000) (hx:insAt l i=⟨6,k,b⟩) (hM:MIn w st ou own sA sn sc oA on oc bA bn bc) (hf:fuel≠0) (hf2:0≤fuel∧fuel≤1000) (args:List Int) (hk:k < args.length) (hna:args.length=na) (v:Int) (hv:v=args[k]?.getD 0) (hA:Ints w aa ac args) (hs:sn≤1000) :
  Calls Tryz.prog 46 #[cmV ra nr rc wa nw wc aa na ac cf ca nc cc,.agg (mC (i:Int) fuel (.slice sA sn sc) r0 r1 r2 r3 (.slice oA on oc) false e0),.slice bA bn bc] w (RSPost ((i:Int) + 1) (fuel - 1) (st ++ [v]) r0 r1 r2 r3 ou false e0 own sA sn oA on bA bn w):=by
 obtain ⟨ga,oa,rfl,hga,ha0⟩:=hA.cellAt (j:=k) (by omega)
 have hac:=hA.2.1
 have d3:(k:Int) < (na:Int):=by omega
 have d4:(k:Int) < (ac:Int):=by omega
 have harg:=hid (fun X (hX:Below w.heap.size w X)=>(hX.cell (p:=⟨ga,oa + k,none⟩) hga).trans ha0)
 have hC2:Hid (∀ (X:World) (cs:Array Value) (q:Value),Bk X w.heap.size 56 cs→cs[2]? = some q→X.cell? ⟨w.heap.size,2,none⟩=some q):=hid (fun X cs q hb he=>by rw [hb.cell,he])
 subst hv
 generalize args[k]?.getD 0=v at *
 clear hk hna hA hga ha0
 obtain ⟨i0,hi0,hz0,hz1,hz2⟩:=infoInt
 obtain ⟨cb,co,rfl,hcb,x0,x1,x2⟩:=hC.cellAt (j:=i) (by omega)
 rw [hx] at x0 x1 x2
 simp only at x0 x1 x2
 have hcc:=hC.2.1
 rw [hl] at hcc
 have d1:(i:Int) < (nc:Int):=by omega
 have d2:(i:Int) < (cc:Int):=by omega
 have f0:(fuel == 0)=false:=by simpa using hf
 have bb:=sB_below #[.slice ra nr rc,.slice wa nw wc,.slice (some ⟨ga,oa,none⟩) na ac,.int .i64 cf,.slice (some ⟨cb,co,none⟩) nc cc] (mC (i:Int) (fuel - 1) (.slice sA sn sc) r0 r1 r2 r3 (.slice oA on oc) false e0) w
 have y0:=(bb.cell (p:=⟨cb,co + i * 3,none⟩) hcb).trans x0
 have y1:=(bb.cell (p:=⟨cb,co + i * 3 + 1,none⟩) hcb).trans x1
 have y2:=(bb.cell (p:=⟨cb,co + i * 3 + 2,none⟩) hcb).trans x2
 obtain ⟨wr,hW⟩:∃ W,W=(sB #[.slice ra nr rc,.slice wa nw wc,.slice (some ⟨ga,oa,none⟩) na ac,.int .i64 cf,.slice (some ⟨cb,co,none⟩) nc cc] (mC ((i:Int) + 1) (fuel - 1) (.slice sA sn sc) r0 r1 r2 r3 (.slice oA on oc) false e0) w).alloc (.cells #[.int .i64 6,.int .i64 k,.int .i64 b] 72):=⟨_,rfl⟩
 have B0:Hid (Below w.heap.size w wr):=hid (by rw [hW];exact bnext (sB_below _ _ _) (below_alloc1 _ _))
 have C0:Hid (Bk wr w.heap.size 56 #[.slice ra nr rc,.slice wa nw wc,.slice (some ⟨ga,oa,none⟩) na ac,.int .i64 cf,.slice (some ⟨cb,co,none⟩) nc cc]):=hid (by rw [hW];exact (sB_cmd _ _ _).alloc _)
 have X0:Hid (Bk wr (w.heap.size + 1) 64 (mC ((i:Int) + 1) (fuel - 1) (.slice sA sn sc) r0 r1 r2 r3 (.slice oA on oc) false e0)):=hid (by rw [hW];exact (sB_box _ _ _).alloc _)
 have R0:Hid (Bk wr (w.heap.size + 1 + 1) 64 mZ):=hid (by rw [hW];exact (sB_res _ _ _).alloc _)
 have I0:Hid (Bk wr (w.heap.size + 1 + 1 + 1) 72 #[.int .i64 6,.int .i64 k,.int .i64 b]):=hid (by rw [hW];exact rW_ins _ _ _ _)
 have hBX:Hid (∀ {n:Nat} {u:Value} (X:World),TurnR wr.heap.size 3 n u wr X→wr.heap.size≤X.heap.size):=hid (fun X hX=>hX.1.size)
 have hWs:w.heap.size + 1 + 1 + 1 < wr.heap.size:=I0.out.lt
 have HM:=hid hM
 clear hC hx hl bb hM
 go_enter Tryz.func46,Tryz.ntmps46
 go_wp2
 rw [← hW]
 clear hW y0 y1 y2 x0 x1 x2 f0
 try simp only [List.append_eq,List.cons_append,List.nil_append]
 refine wp_region_saysK 13 (TurnR wr.heap.size 3 sn (.int .i64 v)) (TurnR.trans) wr (TurnR.of (Nat.le_refl _) (below_drew1 wr)) (by kernel_rfl) (by kernel_rfl) (by kernel_rfl) (by kernel_rfl) (by rfl) ?_
 simp only [List.take_succ_cons,List.take_zero,List.drop_succ_cons,List.drop_zero]
 refine walkK_new (noneV wr.heap.size 3) (by first | exact gs0 rfl | exact gs1 rfl rfl rfl) (fun v x y hb h=>noneV_turn v x y hb h) (fun u X hX hd=>⟨_,_,exec_none _ _ _ rfl,TurnR.of (hBX.out X hX) (below_alloc1 _ _),_,rfl,World.ownsRow_lit X #[] 0 (hBX.out X hX) (by decide) rfl⟩) ?_
 iterate 2
  refine wkN ?_
  refine walkK_is ?_ (by first | exact gs0 rfl | exact gs1 rfl rfl rfl) (fun _=>TurnR.refl _) (fun u X hX hd=>?_) ?_
  rotate_left
  ·have e2:=(X0.out.below hX.1).cell 2
   have q1:=(I0.out.below hX.1).cell 1
   simp only [List.getElem?_toArray,List.getElem?_cons_zero,List.getElem?_cons_succ] at e2 q1
   have q3:=hC2.out X _ _ (C0.out.below hX.1) rfl
   have q4:=harg.out X (bnext B0.out hX.1)
   try simp at hd
   go_simp
   try rfl
 refine wkN ?_
 refine walkK_new (listV wr.heap.size 3 sn (st.map (.int .i64))) (by first | exact gs0 rfl | exact gs1 rfl rfl rfl) (fun v x y hb h=>listV_turn v x y hb h) (fun u X hX hd=>?_) ?_
 ·simp at hd
  obtain ⟨⟨g,hg,ho⟩,h4⟩:=hd
  obtain ⟨v,w',hr,hb,hl⟩:=run_append_none (P:=Tryz.prog) X 49 49 wr.heap.size 3 i0 _ 8 Tryz.underlying49 hi0 hz0 hz1 hz2 rfl (hBX.out X hX) g ho _ _ _ _ (HM.out.st.below (bnext B0.out hX.1)) (ints_oneC _) (by unfold maxLen;omega) (by omega)
  exact ⟨v,w',exec_append _ _ _ _ _ _ rfl (by go_simp) (by go_simp) hr,TurnR.of (hBX.out X hX) hb,hl⟩
 iterate 6
  refine wkN ?_
  refine walkK_is ?_ (by first | exact gs0 rfl | exact gs1 rfl rfl rfl) (fun _=>TurnR.refl _) (fun u X hX hd=>?_) ?_
  rotate_left
  ·have e2:=(X0.out.below hX.1).cell 2
   have q1:=(I0.out.below hX.1).cell 1
   simp only [List.getElem?_toArray,List.getElem?_cons_zero,List.getElem?_cons_succ] at e2 q1
   have q3:=hC2.out X _ _ (C0.out.below hX.1) rfl
   have q4:=harg.out X (bnext B0.out hX.1)
   try simp at hd
   go_simp
   try rfl
 refine wkN ?_
 refine walkK_new (singV wr.heap.size 3 (.int .i64 v)) (by first | exact gs0 rfl | exact gs1 rfl rfl rfl) (fun v x y hb h=>singV_turn v x y hb h) (fun u X hX hd=>⟨_,_,exec_sing _ _ _ _ rfl (by (try simp at hd);go_simp;try exact hd),TurnR.of (hBX.out X hX) (below_alloc1 _ _),_,rfl,World.ownsRow_lit X #[.int .i64 v] 1 (hBX.out X hX) (by decide) rfl⟩) ?_
 refine wkN ?_
 refine walkK_new (moreV wr.heap.size 3 sn (st.map (.int .i64)) (.int .i64 v)) (by first | exact gs0 rfl | exact gs1 rfl rfl rfl) (fun v x y hb h=>moreV_turn v x y hb h) (fun u X hX hd=>?_) ?_
 ·simp at hd
  obtain ⟨⟨A,c,hA,ho,hc⟩,⟨g,hg,hs⟩,-⟩:=hd
  obtain ⟨v,w',hr,hb,hl⟩:=run_append_sing (P:=Tryz.prog) X 49 49 wr.heap.size 3 i0 _ 8 Tryz.underlying49 hi0 hz0 hz1 hz2 rfl (hBX.out X hX) A _ c _ ho hc _ g hs rfl (by unfold maxLen;omega) (by omega)
  exact ⟨v,w',exec_append _ _ _ _ _ _ rfl (by go_simp) (by go_simp) hr,hb,hl⟩
 refine wkN ?_
 refine walkK_is ?_ (by first | exact gs0 rfl | exact gs1 rfl rfl rfl) (fun _=>TurnR.refl _) (fun u X hX hd=>?_) ?_
 rotate_left
 ·have e2:=(X0.out.below hX.1).cell 2
  have q1:=(I0.out.below hX.1).cell 1
  simp only [List.getElem?_toArray,List.getElem?_cons_zero,List.getElem?_cons_succ] at e2 q1
  have q3:=hC2.out X _ _ (C0.out.below hX.1) rfl
  have q4:=harg.out X (bnext B0.out hX.1)
  try simp at hd
  go_simp
  try rfl
 refine wkN ?_
 intro u X hX hsay
 simp only [sayAll,isV] at hsay
 obtain ⟨⟨g0,v0,-⟩,v1,v2,⟨A3,c3,v3,-⟩,v4,v5,v6,v7,v8,v9,⟨g1,v10,-⟩,⟨g2,c2,v11,ho2⟩,v12,-⟩:=hsay
 have XB:=hid (X0.out.below hX.1)
 have RB:=hid (R0.out.below hX.1)
 have z2:=XB.out.cell 2
 have zf:=XB.out.frozen
 have zl:=XB.out.lt
 simp only [List.getElem?_toArray,List.getElem?_cons_zero,List.getElem?_cons_succ] at z2
 have X2:Hid (Bk (X.setCell ⟨w.heap.size + 1,2,none⟩ (.slice (some ⟨g2,0,none⟩) (sn + 1) c2)) (w.heap.size + 1) 64 (mC ((i:Int) + 1) (fuel - 1) (.slice (some ⟨g2,0,none⟩) (sn + 1) c2) r0 r1 r2 r3 (.slice oA on oc) false e0)):=hid (by simpa using XB.out.set 2 (.slice (some ⟨g2,0,none⟩) (sn + 1) c2))
 have R2:=hid (RB.out.far (p:=⟨w.heap.size + 1,2,none⟩) (by simp) (.slice (some ⟨g2,0,none⟩) (sn + 1) c2))
 have MX:Hid (MIn X (st ++ [v]) ou own (some ⟨g2,0,none⟩) (sn + 1) c2 oA on oc bA bn bc):=hid (by
  have hm:=HM.out.below (bnext B0.out hX.1)
  refine ⟨?_,hm.ou,hm.bk⟩
  have:=Sl.own' ho2
  simpa using this)
 have OX:Hid (∀ G,G < wr.heap.size→off3 G sA sn oA on bA bn→off3 G (some ⟨g2,0,none⟩) (sn + 1) oA on bA bn):=hid (fun G hG h=>⟨own_offA ho2 hG,h.2⟩)
 have BX:=hid (bnext B0.out hX.1)
 simp only [putAll,Act.put,v0,v1,v2,v3,v4,v5,v6,v7,v8,v9,v10,v11,v12,List.setIfInBounds_toArray,List.set_cons_succ,List.set_cons_zero]
 clear ho2 hX v0 v1 v2 v3 v4 v5 v6 v7 v8 v9 v10 v11 v12
 go_wp2_with (first
  | (with_reducible refine ld_mach (w.heap.size + 1) X2.out _ rfl rfl rfl ?_)
  | (with_reducible refine st_mach (w.heap.size + 1 + 1) R2.out rfl rfl _ _ rfl rfl rfl rfl ?_))
 exact bodyPost_ret (v:=.tuple #[.agg (mC ((i:Int) + 1) (fuel - 1) (.slice (some ⟨g2,0,none⟩) (sn + 1) c2) r0 r1 r2 r3 (.slice oA on oc) false e0),.slice bA bn bc]) (res2_mach rfl _ _ (w.heap.size + 1 + 1) _ rfl rfl (Bk.setRow R2.out _)) rfl
  ⟨_,_,_,_,_,_,_,_,_,rfl,(MX.out.setCell (OX.out _ (by omega) (HM.out.offNew (by omega))) _ _).setRow (OX.out _ (by omega) (HM.out.offNew (by omega))) _,below_row (BX.out.setCell (p:=⟨w.heap.size + 1,2,none⟩) (by simp) _) (by omega) _,fun G hG h=>OX.out G (by omega) h⟩
end
end
section
open Go.RowKit
attribute [local go_sem] look findAt
attribute [local simp] depsOf isV Region.binds
section
variable (ra:Option Addr) (nr rc:Nat) (wa:Option Addr) (nw wc:Nat) (aa:Option Addr) (na ac:Nat) (cf:Int) (ca:Option Addr) (nc cc:Nat)
variable (fuel:Int) (sA:Option Addr) (sn sc:Nat) (r0 r1 r2 r3:Int) (oA:Option Addr) (on oc:Nat) (e0:Int) (bA:Option Addr) (bn bc:Nat)
variable (pc:Int)
theorem rstep_over (st ou:List Int) (own:Blks) (w:World) (hM:MIn w st ou own sA sn sc oA on oc bA bn bc) :
  Calls Tryz.prog 46 #[cmV ra nr rc wa nw wc aa na ac cf ca nc cc,.agg (mC pc fuel (.slice sA sn sc) r0 r1 r2 r3 (.slice oA on oc) true e0),.slice bA bn bc] w (RSPost pc fuel st r0 r1 r2 r3 ou true e0 own sA sn oA on bA bn w):=by
 have B0:Hid (Below w.heap.size w (sB #[.slice ra nr rc,.slice wa nw wc,.slice aa na ac,.int .i64 cf,.slice ca nc cc] (mC pc fuel (.slice sA sn sc) r0 r1 r2 r3 (.slice oA on oc) true e0) w)):=hid (sB_below _ _ _)
 have X0:Hid (Bk (sB #[.slice ra nr rc,.slice wa nw wc,.slice aa na ac,.int .i64 cf,.slice ca nc cc] (mC pc fuel (.slice sA sn sc) r0 r1 r2 r3 (.slice oA on oc) true e0) w) (w.heap.size + 1) 64 (mC pc fuel (.slice sA sn sc) r0 r1 r2 r3 (.slice oA on oc) true e0)):=hid ((sB_box _ _ _))
 have R0:Hid (Bk (sB #[.slice ra nr rc,.slice wa nw wc,.slice aa na ac,.int .i64 cf,.slice ca nc cc] (mC pc fuel (.slice sA sn sc) r0 r1 r2 r3 (.slice oA on oc) true e0) w) (w.heap.size + 1 + 1) 64 mZ):=hid ((sB_res _ _ _))
 have HM:=hid hM
 clear hM
 go_enter Tryz.func46,Tryz.ntmps46
 go_wp2_with (first
  | (with_reducible refine ld_mach (w.heap.size + 1) X0.out _ rfl rfl rfl ?_)
  | (with_reducible refine st_mach (w.heap.size + 1 + 1) R0.out rfl rfl _ _ rfl rfl rfl rfl ?_))
 exact bodyPost_ret (v:=.tuple #[.agg (mC pc fuel (.slice sA sn sc) r0 r1 r2 r3 (.slice oA on oc) true e0),.slice bA bn bc]) (res2_mach rfl _ _ (w.heap.size + 1 + 1) _ rfl rfl (Bk.setRow R0.out _)) rfl
  ⟨_,_,_,_,_,_,_,_,_,rfl,(MIn.setRow (HM.out.below B0.out) (HM.out.offNew (by omega)) _),below_row B0.out (by omega) _,fun G hG h=>h⟩
theorem rstep_nofuel (st ou:List Int) (own:Blks) (w:World) (hM:MIn w st ou own sA sn sc oA on oc bA bn bc) :
  Calls Tryz.prog 46 #[cmV ra nr rc wa nw wc aa na ac cf ca nc cc,.agg (mC pc 0 (.slice sA sn sc) r0 r1 r2 r3 (.slice oA on oc) false e0),.slice bA bn bc] w (RSPost pc 0 st r0 r1 r2 r3 [] true 11 own sA sn oA on bA bn w):=by
 have hov:=hid (fun W=>rover_bad pc 0 sA sn sc r0 r1 r2 r3 oA on oc false e0 11 (by decide) W)
 have B0:Hid (Below w.heap.size w (sB #[.slice ra nr rc,.slice wa nw wc,.slice aa na ac,.int .i64 cf,.slice ca nc cc] (mC pc 0 (.slice sA sn sc) r0 r1 r2 r3 (.slice oA on oc) false e0) w)):=hid (sB_below _ _ _)
 have X0:Hid (Bk (sB #[.slice ra nr rc,.slice wa nw wc,.slice aa na ac,.int .i64 cf,.slice ca nc cc] (mC pc 0 (.slice sA sn sc) r0 r1 r2 r3 (.slice oA on oc) false e0) w) (w.heap.size + 1) 64 (mC pc 0 (.slice sA sn sc) r0 r1 r2 r3 (.slice oA on oc) false e0)):=hid ((sB_box _ _ _))
 have R0:Hid (Bk (sB #[.slice ra nr rc,.slice wa nw wc,.slice aa na ac,.int .i64 cf,.slice ca nc cc] (mC pc 0 (.slice sA sn sc) r0 r1 r2 r3 (.slice oA on oc) false e0) w) (w.heap.size + 1 + 1) 64 mZ):=hid ((sB_res _ _ _))
 have HM:=hid hM
 clear hM
 go_enter Tryz.func46,Tryz.ntmps46
 go_wp2_with (first
  | (with_reducible refine ld_mach (w.heap.size + 1) X0.out _ rfl rfl rfl ?_)
  | (go_at_call 87;go_must ((with_reducible refine (hov.out _).mono ?_);rintro e w1 ⟨rfl,hb1⟩;have R1:=hid (R0.out.below hb1);have B1:=hid (bnext B0.out hb1);have M1:=hid ((HM.out.below B0.out).below hb1);clear hb1))
  | (with_reducible refine st_mach (w.heap.size + 1 + 1) R1.out rfl rfl _ _ rfl rfl rfl rfl ?_))
 exact bodyPost_ret (v:=.tuple #[.agg (mC pc 0 (.slice sA sn sc) r0 r1 r2 r3 (.slice none 0 0) true 11),.slice bA bn bc]) (res2_mach rfl _ _ (w.heap.size + 1 + 1) _ rfl rfl (Bk.setRow R1.out _)) rfl
  ⟨_,_,_,_,_,_,_,_,_,rfl,(MIn.setRow (⟨M1.out.st,⟨rfl,Nat.le_refl _,fun _=>⟨rfl,rfl⟩,fun h=>absurd h (by omega)⟩,M1.out.bk⟩) (⟨(HM.out.offNew (by omega)).1,fun h=>absurd h (by omega),(HM.out.offNew (by omega)).2.2⟩) _),below_row B1.out (by omega) _,fun G hG h=>⟨h.1,fun h=>absurd h (by omega),h.2.2⟩⟩
theorem rstep14 (l:List Ins) (i:Nat) (a b:Int) (st ou:List Int) (own:Blks) (w:World) (hC:Inss w ca cc l) (hl:l.length=nc) (hi:i < nc) (hic:nc≤1000) (hx:insAt l i=⟨14,a,b⟩) (hM:MIn w st ou own sA sn sc oA on oc bA bn bc) (hf:fuel≠0) (hf2:0≤fuel∧fuel≤1000) (ha:0≤a∧a≤1000) :
  Calls Tryz.prog 46 #[cmV ra nr rc wa nw wc aa na ac cf ca nc cc,.agg (mC (i:Int) fuel (.slice sA sn sc) r0 r1 r2 r3 (.slice oA on oc) false e0),.slice bA bn bc] w (RSPost ((i:Int) + 1 + a) (fuel - 1) st r0 r1 r2 r3 ou false e0 own sA sn oA on bA bn w):=by
 obtain ⟨cb,co,rfl,hcb,x0,x1,x2⟩:=hC.cellAt (j:=i) (by omega)
 rw [hx] at x0 x1 x2
 simp only at x0 x1 x2
 have hcc:=hC.2.1
 rw [hl] at hcc
 have d1:(i:Int) < (nc:Int):=by omega
 have d2:(i:Int) < (cc:Int):=by omega
 have f0:(fuel == 0)=false:=by simpa using hf
 have bb:=sB_below #[.slice ra nr rc,.slice wa nw wc,.slice aa na ac,.int .i64 cf,.slice (some ⟨cb,co,none⟩) nc cc] (mC (i:Int) (fuel - 1) (.slice sA sn sc) r0 r1 r2 r3 (.slice oA on oc) false e0) w
 have y0:=(bb.cell (p:=⟨cb,co + i * 3,none⟩) hcb).trans x0
 have y1:=(bb.cell (p:=⟨cb,co + i * 3 + 1,none⟩) hcb).trans x1
 have y2:=(bb.cell (p:=⟨cb,co + i * 3 + 2,none⟩) hcb).trans x2
 have HM:=hid hM
 clear hC hx hl bb hM
 have B0:Hid (Below w.heap.size w ((sB #[.slice ra nr rc,.slice wa nw wc,.slice aa na ac,.int .i64 cf,.slice (some ⟨cb,co,none⟩) nc cc] (mC ((i:Int) + 1 + a) (fuel - 1) (.slice sA sn sc) r0 r1 r2 r3 (.slice oA on oc) false e0) w).alloc (.cells #[.int .i64 14,.int .i64 a,.int .i64 b] 72))):=hid (bnext (sB_below _ _ _) (below_alloc1 _ _))
 have X0:Hid (Bk ((sB #[.slice ra nr rc,.slice wa nw wc,.slice aa na ac,.int .i64 cf,.slice (some ⟨cb,co,none⟩) nc cc] (mC ((i:Int) + 1 + a) (fuel - 1) (.slice sA sn sc) r0 r1 r2 r3 (.slice oA on oc) false e0) w).alloc (.cells #[.int .i64 14,.int .i64 a,.int .i64 b] 72)) (w.heap.size + 1) 64 (mC ((i:Int) + 1 + a) (fuel - 1) (.slice sA sn sc) r0 r1 r2 r3 (.slice oA on oc) false e0)):=hid ((sB_box _ _ _).alloc _)
 have R0:Hid (Bk ((sB #[.slice ra nr rc,.slice wa nw wc,.slice aa na ac,.int .i64 cf,.slice (some ⟨cb,co,none⟩) nc cc] (mC ((i:Int) + 1 + a) (fuel - 1) (.slice sA sn sc) r0 r1 r2 r3 (.slice oA on oc) false e0) w).alloc (.cells #[.int .i64 14,.int .i64 a,.int .i64 b] 72)) (w.heap.size + 1 + 1) 64 mZ):=hid ((sB_res _ _ _).alloc _)
 go_enter Tryz.func46,Tryz.ntmps46
 go_wp2_with (first
  | (with_reducible refine ld_mach (w.heap.size + 1) X0.out _ rfl rfl rfl ?_)
  | (with_reducible refine st_mach (w.heap.size + 1 + 1) R0.out rfl rfl _ _ rfl rfl rfl rfl ?_))
 exact bodyPost_ret (v:=.tuple #[.agg (mC ((i:Int) + 1 + a) (fuel - 1) (.slice sA sn sc) r0 r1 r2 r3 (.slice oA on oc) false e0),.slice bA bn bc]) (res2_mach rfl _ _ (w.heap.size + 1 + 1) _ rfl rfl (Bk.setRow R0.out _)) rfl
  ⟨_,_,_,_,_,_,_,_,_,rfl,(MIn.setRow (HM.out.below B0.out) (HM.out.offNew (by omega)) _),below_row B0.out (by omega) _,fun G hG h=>h⟩
theorem rstep16 (l:List Ins) (i:Nat) (a b:Int) (st ou:List Int) (own:Blks) (w:World) (hC:Inss w ca cc l) (hl:l.length=nc) (hi:i < nc) (hic:nc≤1000) (hx:insAt l i=⟨16,a,b⟩) (hM:MIn w st ou own sA sn sc oA on oc bA bn bc) (hf:fuel≠0) (hf2:0≤fuel∧fuel≤1000) :
  Calls Tryz.prog 46 #[cmV ra nr rc wa nw wc aa na ac cf ca nc cc,.agg (mC (i:Int) fuel (.slice sA sn sc) r0 r1 r2 r3 (.slice oA on oc) false e0),.slice bA bn bc] w (RSPost ((i:Int) + 1) (fuel - 1) st r0 r1 r2 r3 [] true 13 own sA sn oA on bA bn w):=by
 obtain ⟨cb,co,rfl,hcb,x0,x1,x2⟩:=hC.cellAt (j:=i) (by omega)
 rw [hx] at x0 x1 x2
 simp only at x0 x1 x2
 have hcc:=hC.2.1
 rw [hl] at hcc
 have d1:(i:Int) < (nc:Int):=by omega
 have d2:(i:Int) < (cc:Int):=by omega
 have f0:(fuel == 0)=false:=by simpa using hf
 have bb:=sB_below #[.slice ra nr rc,.slice wa nw wc,.slice aa na ac,.int .i64 cf,.slice (some ⟨cb,co,none⟩) nc cc] (mC (i:Int) (fuel - 1) (.slice sA sn sc) r0 r1 r2 r3 (.slice oA on oc) false e0) w
 have y0:=(bb.cell (p:=⟨cb,co + i * 3,none⟩) hcb).trans x0
 have y1:=(bb.cell (p:=⟨cb,co + i * 3 + 1,none⟩) hcb).trans x1
 have y2:=(bb.cell (p:=⟨cb,co + i * 3 + 2,none⟩) hcb).trans x2
 have HM:=hid hM
 clear hC hx hl bb hM
 have hov:=hid (fun W=>rover_bad ((i:Int) + 1) (fuel - 1) sA sn sc r0 r1 r2 r3 oA on oc false e0 13 (by decide) W)
 have B0:Hid (Below w.heap.size w ((sB #[.slice ra nr rc,.slice wa nw wc,.slice aa na ac,.int .i64 cf,.slice (some ⟨cb,co,none⟩) nc cc] (mC ((i:Int) + 1) (fuel - 1) (.slice sA sn sc) r0 r1 r2 r3 (.slice oA on oc) false e0) w).alloc (.cells #[.int .i64 16,.int .i64 a,.int .i64 b] 72))):=hid (bnext (sB_below _ _ _) (below_alloc1 _ _))
 have X0:Hid (Bk ((sB #[.slice ra nr rc,.slice wa nw wc,.slice aa na ac,.int .i64 cf,.slice (some ⟨cb,co,none⟩) nc cc] (mC ((i:Int) + 1) (fuel - 1) (.slice sA sn sc) r0 r1 r2 r3 (.slice oA on oc) false e0) w).alloc (.cells #[.int .i64 16,.int .i64 a,.int .i64 b] 72)) (w.heap.size + 1) 64 (mC ((i:Int) + 1) (fuel - 1) (.slice sA sn sc) r0 r1 r2 r3 (.slice oA on oc) false e0)):=hid ((sB_box _ _ _).alloc _)
 have R0:Hid (Bk ((sB #[.slice ra nr rc,.slice wa nw wc,.slice aa na ac,.int .i64 cf,.slice (some ⟨cb,co,none⟩) nc cc] (mC ((i:Int) + 1) (fuel - 1) (.slice sA sn sc) r0 r1 r2 r3 (.slice oA on oc) false e0) w).alloc (.cells #[.int .i64 16,.int .i64 a,.int .i64 b] 72)) (w.heap.size + 1 + 1) 64 mZ):=hid ((sB_res _ _ _).alloc _)
 go_enter Tryz.func46,Tryz.ntmps46
 go_wp2_with (first
  | (with_reducible refine ld_mach (w.heap.size + 1) X0.out _ rfl rfl rfl ?_)
  | (go_at_call 87;go_must ((with_reducible refine (hov.out _).mono ?_);rintro e w1 ⟨rfl,hb1⟩;have R1:=hid (R0.out.below hb1);have B1:=hid (bnext B0.out hb1);have M1:=hid ((HM.out.below B0.out).below hb1);clear hb1))
  | (with_reducible refine st_mach (w.heap.size + 1 + 1) R1.out rfl rfl _ _ rfl rfl rfl rfl ?_))
 exact bodyPost_ret (v:=.tuple #[.agg (mC ((i:Int) + 1) (fuel - 1) (.slice sA sn sc) r0 r1 r2 r3 (.slice none 0 0) true 13),.slice bA bn bc]) (res2_mach rfl _ _ (w.heap.size + 1 + 1) _ rfl rfl (Bk.setRow R1.out _)) rfl
  ⟨_,_,_,_,_,_,_,_,_,rfl,(MIn.setRow (⟨M1.out.st,⟨rfl,Nat.le_refl _,fun _=>⟨rfl,rfl⟩,fun h=>absurd h (by omega)⟩,M1.out.bk⟩) (⟨(HM.out.offNew (by omega)).1,fun h=>absurd h (by omega),(HM.out.offNew (by omega)).2.2⟩) _),below_row B1.out (by omega) _,fun G hG h=>⟨h.1,fun h=>absurd h (by omega),h.2.2⟩⟩
theorem rstep17 (l:List Ins) (i:Nat) (a b:Int) (st ou:List Int) (own:Blks) (w:World) (hC:Inss w ca cc l) (hl:l.length=nc) (hi:i < nc) (hic:nc≤1000) (hx:insAt l i=⟨17,a,b⟩) (hM:MIn w st ou own sA sn sc oA on oc bA bn bc) (hf:fuel≠0) (hf2:0≤fuel∧fuel≤1000) :
  Calls Tryz.prog 46 #[cmV ra nr rc wa nw wc aa na ac cf ca nc cc,.agg (mC (i:Int) fuel (.slice sA sn sc) r0 r1 r2 r3 (.slice oA on oc) false e0),.slice bA bn bc] w (RSPost ((i:Int) + 1) (fuel - 1) st r0 r1 r2 r3 ou true 0 own sA sn oA on bA bn w):=by
 obtain ⟨cb,co,rfl,hcb,x0,x1,x2⟩:=hC.cellAt (j:=i) (by omega)
 rw [hx] at x0 x1 x2
 simp only at x0 x1 x2
 have hcc:=hC.2.1
 rw [hl] at hcc
 have d1:(i:Int) < (nc:Int):=by omega
 have d2:(i:Int) < (cc:Int):=by omega
 have f0:(fuel == 0)=false:=by simpa using hf
 have bb:=sB_below #[.slice ra nr rc,.slice wa nw wc,.slice aa na ac,.int .i64 cf,.slice (some ⟨cb,co,none⟩) nc cc] (mC (i:Int) (fuel - 1) (.slice sA sn sc) r0 r1 r2 r3 (.slice oA on oc) false e0) w
 have y0:=(bb.cell (p:=⟨cb,co + i * 3,none⟩) hcb).trans x0
 have y1:=(bb.cell (p:=⟨cb,co + i * 3 + 1,none⟩) hcb).trans x1
 have y2:=(bb.cell (p:=⟨cb,co + i * 3 + 2,none⟩) hcb).trans x2
 have HM:=hid hM
 clear hC hx hl bb hM
 have hov:=hid (fun W=>rover_well ((i:Int) + 1) (fuel - 1) sA sn sc r0 r1 r2 r3 oA on oc false e0 W)
 have B0:Hid (Below w.heap.size w ((sB #[.slice ra nr rc,.slice wa nw wc,.slice aa na ac,.int .i64 cf,.slice (some ⟨cb,co,none⟩) nc cc] (mC ((i:Int) + 1) (fuel - 1) (.slice sA sn sc) r0 r1 r2 r3 (.slice oA on oc) false e0) w).alloc (.cells #[.int .i64 17,.int .i64 a,.int .i64 b] 72))):=hid (bnext (sB_below _ _ _) (below_alloc1 _ _))
 have X0:Hid (Bk ((sB #[.slice ra nr rc,.slice wa nw wc,.slice aa na ac,.int .i64 cf,.slice (some ⟨cb,co,none⟩) nc cc] (mC ((i:Int) + 1) (fuel - 1) (.slice sA sn sc) r0 r1 r2 r3 (.slice oA on oc) false e0) w).alloc (.cells #[.int .i64 17,.int .i64 a,.int .i64 b] 72)) (w.heap.size + 1) 64 (mC ((i:Int) + 1) (fuel - 1) (.slice sA sn sc) r0 r1 r2 r3 (.slice oA on oc) false e0)):=hid ((sB_box _ _ _).alloc _)
 have R0:Hid (Bk ((sB #[.slice ra nr rc,.slice wa nw wc,.slice aa na ac,.int .i64 cf,.slice (some ⟨cb,co,none⟩) nc cc] (mC ((i:Int) + 1) (fuel - 1) (.slice sA sn sc) r0 r1 r2 r3 (.slice oA on oc) false e0) w).alloc (.cells #[.int .i64 17,.int .i64 a,.int .i64 b] 72)) (w.heap.size + 1 + 1) 64 mZ):=hid ((sB_res _ _ _).alloc _)
 go_enter Tryz.func46,Tryz.ntmps46
 go_wp2_with (first
  | (with_reducible refine ld_mach (w.heap.size + 1) X0.out _ rfl rfl rfl ?_)
  | (go_at_call 87;go_must ((with_reducible refine (hov.out _).mono ?_);rintro e w1 ⟨rfl,hb1⟩;have R1:=hid (R0.out.below hb1);have B1:=hid (bnext B0.out hb1);have M1:=hid ((HM.out.below B0.out).below hb1);clear hb1))
  | (with_reducible refine st_mach (w.heap.size + 1 + 1) R1.out rfl rfl _ _ rfl rfl rfl rfl ?_))
 exact bodyPost_ret (v:=.tuple #[.agg (mC ((i:Int) + 1) (fuel - 1) (.slice sA sn sc) r0 r1 r2 r3 (.slice oA on oc) true 0),.slice bA bn bc]) (res2_mach rfl _ _ (w.heap.size + 1 + 1) _ rfl rfl (Bk.setRow R1.out _)) rfl
  ⟨_,_,_,_,_,_,_,_,_,rfl,(MIn.setRow (M1.out) (HM.out.offNew (by omega)) _),below_row B1.out (by omega) _,fun G hG h=>h⟩
end
end
section
open Go.RowKit
attribute [local go_sem] look findAt
attribute [local simp] depsOf isV Region.binds
theorem own_cellBelow {w:World} {B n c G:Nat} {e:TypeId} {size:Nat} {A:Option Addr} {xs:List Value} (h:w.ownsRow B e size (.slice A n c) n xs) (hG:G < B) (k:Nat) (u:Value):(w.setCell ⟨G,k,none⟩ u).ownsRow B e size (.slice A n c) n xs:=
 own_keep h (fun g _ hg=>Below.heap_setCell w ⟨G,k,none⟩ u g (by have:=own_ge h hg;simp only;omega))
section
variable (ra:Option Addr) (nr rc:Nat) (wa:Option Addr) (nw wc:Nat) (aa:Option Addr) (na ac:Nat) (cf:Int) (ca:Option Addr) (nc cc:Nat)
variable (fuel:Int) (sA:Option Addr) (sn sc:Nat) (r0 r1 r2 r3:Int) (oA:Option Addr) (on oc:Nat) (e0:Int) (bA:Option Addr) (bn bc:Nat)
theorem rstep3_0 (l:List Ins) (i:Nat) (k:Nat) (hk:k≤1000) (b:Int) (st ou:List Int) (own:Blks) (w:World) (hC:Inss w ca cc l) (hl:l.length=nc) (hi:i < nc) (hic:nc≤1000) (hx:insAt l i=⟨3,0,b⟩) (hM:MIn w st ou own sA (k + 1) sc oA on oc bA bn bc) (hf:fuel≠0) (hf2:0≤fuel∧fuel≤1000) :
  Calls Tryz.prog 46 #[cmV ra nr rc wa nw wc aa na ac cf ca nc cc,.agg (mC (i:Int) fuel (.slice sA (k + 1:Nat) sc) r0 r1 r2 r3 (.slice oA on oc) false e0),.slice bA bn bc] w (RSPost ((i:Int) + 1) (fuel - 1) (st.take k) (st[k]?.getD 0) r1 r2 r3 ou false e0 own sA (k + 1) oA on bA bn w):=by
 obtain ⟨top,htop⟩:∃ x,x=st[k]?.getD 0:=⟨_,rfl⟩
 try rw [← htop]
 have HT:=hid htop
 clear htop
 obtain ⟨cb,co,rfl,hcb,x0,x1,x2⟩:=hC.cellAt (j:=i) (by omega)
 rw [hx] at x0 x1 x2
 simp only at x0 x1 x2
 have hcc:=hC.2.1
 rw [hl] at hcc
 have d1:(i:Int) < (nc:Int):=by omega
 have d2:(i:Int) < (cc:Int):=by omega
 have f0:(fuel == 0)=false:=by simpa using hf
 have bb:=sB_below #[.slice ra nr rc,.slice wa nw wc,.slice aa na ac,.int .i64 cf,.slice (some ⟨cb,co,none⟩) nc cc] (mC (i:Int) (fuel - 1) (.slice sA (k + 1:Nat) sc) r0 r1 r2 r3 (.slice oA on oc) false e0) w
 have y0:=(bb.cell (p:=⟨cb,co + i * 3,none⟩) hcb).trans x0
 have y1:=(bb.cell (p:=⟨cb,co + i * 3 + 1,none⟩) hcb).trans x1
 have y2:=(bb.cell (p:=⟨cb,co + i * 3 + 2,none⟩) hcb).trans x2
 have HM:=hid hM
 clear hC hx hl bb hM
 obtain ⟨i0,hi0,hz0,hz1,hz2⟩:=infoInt
 obtain ⟨sb,so,rfl,-,-⟩:=HM.out.st.2.2.2 (by omega)
 have B0:Hid (Below w.heap.size w ((sB #[.slice ra nr rc,.slice wa nw wc,.slice aa na ac,.int .i64 cf,.slice (some ⟨cb,co,none⟩) nc cc] (mC ((i:Int) + 1) (fuel - 1) (.slice (some ⟨sb,so,none⟩) (k + 1:Nat) sc) r0 r1 r2 r3 (.slice oA on oc) false e0) w).alloc (.cells #[.int .i64 3,.int .i64 0,.int .i64 b] 72))):=hid (bnext (sB_below _ _ _) (below_alloc1 _ _))
 have X0:Hid (Bk ((sB #[.slice ra nr rc,.slice wa nw wc,.slice aa na ac,.int .i64 cf,.slice (some ⟨cb,co,none⟩) nc cc] (mC ((i:Int) + 1) (fuel - 1) (.slice (some ⟨sb,so,none⟩) (k + 1:Nat) sc) r0 r1 r2 r3 (.slice oA on oc) false e0) w).alloc (.cells #[.int .i64 3,.int .i64 0,.int .i64 b] 72)) (w.heap.size + 1) 64 (mC ((i:Int) + 1) (fuel - 1) (.slice (some ⟨sb,so,none⟩) (k + 1:Nat) sc) r0 r1 r2 r3 (.slice oA on oc) false e0)):=hid ((sB_box _ _ _).alloc _)
 have R0:Hid (Bk ((sB #[.slice ra nr rc,.slice wa nw wc,.slice aa na ac,.int .i64 cf,.slice (some ⟨cb,co,none⟩) nc cc] (mC ((i:Int) + 1) (fuel - 1) (.slice (some ⟨sb,so,none⟩) (k + 1:Nat) sc) r0 r1 r2 r3 (.slice oA on oc) false e0) w).alloc (.cells #[.int .i64 3,.int .i64 0,.int .i64 b] 72)) (w.heap.size + 1 + 1) 64 mZ):=hid ((sB_res _ _ _).alloc _)
 have I0:Hid (Bk ((sB #[.slice ra nr rc,.slice wa nw wc,.slice aa na ac,.int .i64 cf,.slice (some ⟨cb,co,none⟩) nc cc] (mC ((i:Int) + 1) (fuel - 1) (.slice (some ⟨sb,so,none⟩) (k + 1:Nat) sc) r0 r1 r2 r3 (.slice oA on oc) false e0) w).alloc (.cells #[.int .i64 3,.int .i64 0,.int .i64 b] 72)) (w.heap.size + 1 + 1 + 1) 72 #[.int .i64 3,.int .i64 0,.int .i64 b]):=hid (rW_ins _ _ _ _)
 have hpop:=hid (rpop1 ((i:Int) + 1) (fuel - 1) st r0 r1 r2 r3 false e0 (some ⟨sb,so,none⟩) sc oA on oc k ((sB #[.slice ra nr rc,.slice wa nw wc,.slice aa na ac,.int .i64 cf,.slice (some ⟨cb,co,none⟩) nc cc] (mC ((i:Int) + 1) (fuel - 1) (.slice (some ⟨sb,so,none⟩) (k + 1:Nat) sc) r0 r1 r2 r3 (.slice oA on oc) false e0) w).alloc (.cells #[.int .i64 3,.int .i64 0,.int .i64 b] 72)) (HM.out.st.below B0.out) hk)
 have hWs:Hid (w.heap.size + 1 + 1 + 1 < ((sB #[.slice ra nr rc,.slice wa nw wc,.slice aa na ac,.int .i64 cf,.slice (some ⟨cb,co,none⟩) nc cc] (mC ((i:Int) + 1) (fuel - 1) (.slice (some ⟨sb,so,none⟩) (k + 1:Nat) sc) r0 r1 r2 r3 (.slice oA on oc) false e0) w).alloc (.cells #[.int .i64 3,.int .i64 0,.int .i64 b] 72)).heap.size):=hid I0.out.lt
 go_enter Tryz.func46,Tryz.ntmps46
 go_wp2_with (first
  | (with_reducible refine ld_mach (w.heap.size + 1) X0.out _ rfl rfl rfl ?_)
  | (go_at_call 89;go_must ((with_reducible refine hpop.out.mono ?_);rintro e w1 ⟨⟨A,c,A',c',rfl,p1,p2⟩,hb1⟩;have BB:Hid (Below w.heap.size w (w1.setCell ⟨w.heap.size + 1,2,none⟩ (.slice A' k c'))):=hid ((bnext B0.out hb1).setCell (p:=⟨w.heap.size + 1,2,none⟩) (by simp) _);have P1:=hid (own_cellBelow p1 (G:=w.heap.size + 1) (by have:=hWs.out;omega) 2 (.slice A' k c'));have P2:=hid (own_cellBelow p2 (G:=w.heap.size + 1) (by have:=hWs.out;omega) 2 (.slice A' k c'));have X1:=hid (X0.out.below hb1);have X2:Hid (Bk (w1.setCell ⟨w.heap.size + 1,2,none⟩ (.slice A' k c')) (w.heap.size + 1) 64 (mC ((i:Int) + 1) (fuel - 1) (.slice A' k c') r0 r1 r2 r3 (.slice oA on oc) false e0)):=hid (by simpa using X1.out.set 2 (.slice A' k c'));have R2:=hid ((R0.out.below hb1).far (p:=⟨w.heap.size + 1,2,none⟩) (by simp only;omega) (.slice A' k c'));have I2:=hid ((I0.out.below hb1).far (p:=⟨w.heap.size + 1,2,none⟩) (by simp only;omega) (.slice A' k c'));have M2:=hid (((HM.out.below B0.out).below hb1).setCell (HM.out.offNew (G:=w.heap.size + 1) (by omega)) 2 (.slice A' k c'));have z2:=X1.out.cell 2;have zf:=X1.out.frozen;have zl:=X1.out.lt;have zi:=I2.out.cell 0;simp only [List.getElem?_toArray,List.getElem?_cons_zero,List.getElem?_cons_succ] at z2 zi;clear p1 p2 hb1)))
 have hb2:Hid (w.heap.size + 1 + 1 + 1 < (w1.setCell ⟨w.heap.size + 1,2,none⟩ (.slice A' k c')).heap.size):=hid I2.out.lt
 generalize w1.setCell ⟨w.heap.size + 1,2,none⟩ (.slice A' k c')=wr at *
 have hWr:=hb2.out
 have hWz:=hWs.out
 try simp only [List.append_eq,List.cons_append,List.nil_append]
 obtain ⟨g,cur,rfl,hgB,hgk,hgc,-,hgs,hgt⟩:=own_pos P1.out (by omega)
 have hg0:Hid (∀ X,Below wr.heap.size wr X→X.cell? ⟨g,0,none⟩=some (.int .i64 top)):=hid (fun X hX=>by
  rw [HT.out,(hgk.below hX).cell 0,← Array.getElem?_toList]
  have hl:=HM.out.st.1
  simp at hl
  have h1:(cur.toList.take (1 * 1))[0]? = (((st.drop k).map (Value.int .i64)))[0]?:=by rw [hgt]
  rw [List.getElem?_take,if_pos (by omega)] at h1
  rw [h1,List.getElem?_map,List.getElem?_drop]
  simp [show k < st.length by omega])
 have hgc1:(1:Int)≤(c:Int):=by omega
 have hgB2:w.heap.size + 1 + 1 + 1 < g:=by have:=hWs.out;omega
 clear hgk hgs hgt
 refine wp_region_saysK 7 (fun x y=>Below x.heap.size x y) (fun _ _ _ h k=>bnext h k) wr (below_drew1 wr) (by kernel_rfl) (by kernel_rfl) (by kernel_rfl) (by kernel_rfl) (by rfl) ?_
 simp only [List.take_succ_cons,List.take_zero,List.drop_succ_cons,List.drop_zero]
 iterate 7
  refine wkI ?_ (fun u X hX hd=>?_) ?_
  rotate_left
  ·have q1:=(I2.out.below hX).cell 1
   have q2:=hg0.out X hX
   simp only [List.getElem?_toArray,List.getElem?_cons_zero,List.getElem?_cons_succ] at q1
   try simp at hd
   go_simp
   try rfl
 intro u X hX hsay
 simp only [sayAll,isV] at hsay
 obtain ⟨v0,v1,v2,v3,v4,v5,v6,-⟩:=hsay
 have XB:=hid (X2.out.below hX)
 have z3:=XB.out.cell 3
 have zg:=XB.out.frozen
 have zm:=XB.out.lt
 simp only [List.getElem?_toArray,List.getElem?_cons_zero,List.getElem?_cons_succ] at z3
 have X3:Hid (Bk (X.setCell ⟨w.heap.size + 1,3,none⟩ (.int .i64 top)) (w.heap.size + 1) 64 (mC ((i:Int) + 1) (fuel - 1) (.slice A' k c') top r1 r2 r3 (.slice oA on oc) false e0)):=hid (by simpa using XB.out.set 3 (.int .i64 top))
 have R3:=hid ((R2.out.below hX).far (p:=⟨w.heap.size + 1,3,none⟩) (by simp) (.int .i64 top))
 have P3:=hid (own_cellBelow (own_below P2.out hX) (G:=w.heap.size + 1) (by omega) 3 (.int .i64 top))
 have M3:=hid ((M2.out.below hX).setCell (HM.out.offNew (G:=w.heap.size + 1) (by omega)) 3 (.int .i64 top))
 have B3:=hid ((bnext BB.out hX).setCell (p:=⟨w.heap.size + 1,3,none⟩) (by simp) (.int .i64 top))
 simp only [putAll,Act.put,v0,v1,v2,v3,v4,v5,v6,List.setIfInBounds_toArray,List.set_cons_succ,List.set_cons_zero]
 clear z2 zf zl zi v0 v1 v2 v3 v4 v5 v6
 go_wp2_with (first
  | (with_reducible refine ld_mach (w.heap.size + 1) X3.out _ rfl rfl rfl ?_)
  | (with_reducible refine st_mach (w.heap.size + 1 + 1) R3.out rfl rfl _ _ rfl rfl rfl rfl ?_))
 exact bodyPost_ret (v:=.tuple #[.agg (mC ((i:Int) + 1) (fuel - 1) (.slice A' k c') top r1 r2 r3 (.slice oA on oc) false e0),.slice bA bn bc]) (res2_mach rfl _ _ (w.heap.size + 1 + 1) _ rfl rfl (Bk.setRow R3.out _)) rfl
  ⟨_,_,_,_,_,_,_,_,_,rfl,MIn.setRow (⟨by have:=Sl.own' P3.out;simpa using this,M3.out.ou,M3.out.bk⟩) (⟨own_offA P3.out (by omega),(HM.out.offNew (by omega)).2⟩) _,below_row B3.out (by omega) _,fun G hG h=>⟨own_offA P3.out (by omega),h.2⟩⟩
theorem rstep3_1 (l:List Ins) (i:Nat) (k:Nat) (hk:k≤1000) (b:Int) (st ou:List Int) (own:Blks) (w:World) (hC:Inss w ca cc l) (hl:l.length=nc) (hi:i < nc) (hic:nc≤1000) (hx:insAt l i=⟨3,1,b⟩) (hM:MIn w st ou own sA (k + 1) sc oA on oc bA bn bc) (hf:fuel≠0) (hf2:0≤fuel∧fuel≤1000) :
  Calls Tryz.prog 46 #[cmV ra nr rc wa nw wc aa na ac cf ca nc cc,.agg (mC (i:Int) fuel (.slice sA (k + 1:Nat) sc) r0 r1 r2 r3 (.slice oA on oc) false e0),.slice bA bn bc] w (RSPost ((i:Int) + 1) (fuel - 1) (st.take k) r0 (st[k]?.getD 0) r2 r3 ou false e0 own sA (k + 1) oA on bA bn w):=by
 obtain ⟨top,htop⟩:∃ x,x=st[k]?.getD 0:=⟨_,rfl⟩
 try rw [← htop]
 have HT:=hid htop
 clear htop
 obtain ⟨cb,co,rfl,hcb,x0,x1,x2⟩:=hC.cellAt (j:=i) (by omega)
 rw [hx] at x0 x1 x2
 simp only at x0 x1 x2
 have hcc:=hC.2.1
 rw [hl] at hcc
 have d1:(i:Int) < (nc:Int):=by omega
 have d2:(i:Int) < (cc:Int):=by omega
 have f0:(fuel == 0)=false:=by simpa using hf
 have bb:=sB_below #[.slice ra nr rc,.slice wa nw wc,.slice aa na ac,.int .i64 cf,.slice (some ⟨cb,co,none⟩) nc cc] (mC (i:Int) (fuel - 1) (.slice sA (k + 1:Nat) sc) r0 r1 r2 r3 (.slice oA on oc) false e0) w
 have y0:=(bb.cell (p:=⟨cb,co + i * 3,none⟩) hcb).trans x0
 have y1:=(bb.cell (p:=⟨cb,co + i * 3 + 1,none⟩) hcb).trans x1
 have y2:=(bb.cell (p:=⟨cb,co + i * 3 + 2,none⟩) hcb).trans x2
 have HM:=hid hM
 clear hC hx hl bb hM
 obtain ⟨i0,hi0,hz0,hz1,hz2⟩:=infoInt
 obtain ⟨sb,so,rfl,-,-⟩:=HM.out.st.2.2.2 (by omega)
 have B0:Hid (Below w.heap.size w ((sB #[.slice ra nr rc,.slice wa nw wc,.slice aa na ac,.int .i64 cf,.slice (some ⟨cb,co,none⟩) nc cc] (mC ((i:Int) + 1) (fuel - 1) (.slice (some ⟨sb,so,none⟩) (k + 1:Nat) sc) r0 r1 r2 r3 (.slice oA on oc) false e0) w).alloc (.cells #[.int .i64 3,.int .i64 1,.int .i64 b] 72))):=hid (bnext (sB_below _ _ _) (below_alloc1 _ _))
 have X0:Hid (Bk ((sB #[.slice ra nr rc,.slice wa nw wc,.slice aa na ac,.int .i64 cf,.slice (some ⟨cb,co,none⟩) nc cc] (mC ((i:Int) + 1) (fuel - 1) (.slice (some ⟨sb,so,none⟩) (k + 1:Nat) sc) r0 r1 r2 r3 (.slice oA on oc) false e0) w).alloc (.cells #[.int .i64 3,.int .i64 1,.int .i64 b] 72)) (w.heap.size + 1) 64 (mC ((i:Int) + 1) (fuel - 1) (.slice (some ⟨sb,so,none⟩) (k + 1:Nat) sc) r0 r1 r2 r3 (.slice oA on oc) false e0)):=hid ((sB_box _ _ _).alloc _)
 have R0:Hid (Bk ((sB #[.slice ra nr rc,.slice wa nw wc,.slice aa na ac,.int .i64 cf,.slice (some ⟨cb,co,none⟩) nc cc] (mC ((i:Int) + 1) (fuel - 1) (.slice (some ⟨sb,so,none⟩) (k + 1:Nat) sc) r0 r1 r2 r3 (.slice oA on oc) false e0) w).alloc (.cells #[.int .i64 3,.int .i64 1,.int .i64 b] 72)) (w.heap.size + 1 + 1) 64 mZ):=hid ((sB_res _ _ _).alloc _)
 have I0:Hid (Bk ((sB #[.slice ra nr rc,.slice wa nw wc,.slice aa na ac,.int .i64 cf,.slice (some ⟨cb,co,none⟩) nc cc] (mC ((i:Int) + 1) (fuel - 1) (.slice (some ⟨sb,so,none⟩) (k + 1:Nat) sc) r0 r1 r2 r3 (.slice oA on oc) false e0) w).alloc (.cells #[.int .i64 3,.int .i64 1,.int .i64 b] 72)) (w.heap.size + 1 + 1 + 1) 72 #[.int .i64 3,.int .i64 1,.int .i64 b]):=hid (rW_ins _ _ _ _)
 have hpop:=hid (rpop1 ((i:Int) + 1) (fuel - 1) st r0 r1 r2 r3 false e0 (some ⟨sb,so,none⟩) sc oA on oc k ((sB #[.slice ra nr rc,.slice wa nw wc,.slice aa na ac,.int .i64 cf,.slice (some ⟨cb,co,none⟩) nc cc] (mC ((i:Int) + 1) (fuel - 1) (.slice (some ⟨sb,so,none⟩) (k + 1:Nat) sc) r0 r1 r2 r3 (.slice oA on oc) false e0) w).alloc (.cells #[.int .i64 3,.int .i64 1,.int .i64 b] 72)) (HM.out.st.below B0.out) hk)
 have hWs:Hid (w.heap.size + 1 + 1 + 1 < ((sB #[.slice ra nr rc,.slice wa nw wc,.slice aa na ac,.int .i64 cf,.slice (some ⟨cb,co,none⟩) nc cc] (mC ((i:Int) + 1) (fuel - 1) (.slice (some ⟨sb,so,none⟩) (k + 1:Nat) sc) r0 r1 r2 r3 (.slice oA on oc) false e0) w).alloc (.cells #[.int .i64 3,.int .i64 1,.int .i64 b] 72)).heap.size):=hid I0.out.lt
 go_enter Tryz.func46,Tryz.ntmps46
 go_wp2_with (first
  | (with_reducible refine ld_mach (w.heap.size + 1) X0.out _ rfl rfl rfl ?_)
  | (go_at_call 89;go_must ((with_reducible refine hpop.out.mono ?_);rintro e w1 ⟨⟨A,c,A',c',rfl,p1,p2⟩,hb1⟩;have BB:Hid (Below w.heap.size w (w1.setCell ⟨w.heap.size + 1,2,none⟩ (.slice A' k c'))):=hid ((bnext B0.out hb1).setCell (p:=⟨w.heap.size + 1,2,none⟩) (by simp) _);have P1:=hid (own_cellBelow p1 (G:=w.heap.size + 1) (by have:=hWs.out;omega) 2 (.slice A' k c'));have P2:=hid (own_cellBelow p2 (G:=w.heap.size + 1) (by have:=hWs.out;omega) 2 (.slice A' k c'));have X1:=hid (X0.out.below hb1);have X2:Hid (Bk (w1.setCell ⟨w.heap.size + 1,2,none⟩ (.slice A' k c')) (w.heap.size + 1) 64 (mC ((i:Int) + 1) (fuel - 1) (.slice A' k c') r0 r1 r2 r3 (.slice oA on oc) false e0)):=hid (by simpa using X1.out.set 2 (.slice A' k c'));have R2:=hid ((R0.out.below hb1).far (p:=⟨w.heap.size + 1,2,none⟩) (by simp only;omega) (.slice A' k c'));have I2:=hid ((I0.out.below hb1).far (p:=⟨w.heap.size + 1,2,none⟩) (by simp only;omega) (.slice A' k c'));have M2:=hid (((HM.out.below B0.out).below hb1).setCell (HM.out.offNew (G:=w.heap.size + 1) (by omega)) 2 (.slice A' k c'));have z2:=X1.out.cell 2;have zf:=X1.out.frozen;have zl:=X1.out.lt;have zi:=I2.out.cell 0;simp only [List.getElem?_toArray,List.getElem?_cons_zero,List.getElem?_cons_succ] at z2 zi;clear p1 p2 hb1)))
 have hb2:Hid (w.heap.size + 1 + 1 + 1 < (w1.setCell ⟨w.heap.size + 1,2,none⟩ (.slice A' k c')).heap.size):=hid I2.out.lt
 generalize w1.setCell ⟨w.heap.size + 1,2,none⟩ (.slice A' k c')=wr at *
 have hWr:=hb2.out
 have hWz:=hWs.out
 try simp only [List.append_eq,List.cons_append,List.nil_append]
 obtain ⟨g,cur,rfl,hgB,hgk,hgc,-,hgs,hgt⟩:=own_pos P1.out (by omega)
 have hg0:Hid (∀ X,Below wr.heap.size wr X→X.cell? ⟨g,0,none⟩=some (.int .i64 top)):=hid (fun X hX=>by
  rw [HT.out,(hgk.below hX).cell 0,← Array.getElem?_toList]
  have hl:=HM.out.st.1
  simp at hl
  have h1:(cur.toList.take (1 * 1))[0]? = (((st.drop k).map (Value.int .i64)))[0]?:=by rw [hgt]
  rw [List.getElem?_take,if_pos (by omega)] at h1
  rw [h1,List.getElem?_map,List.getElem?_drop]
  simp [show k < st.length by omega])
 have hgc1:(1:Int)≤(c:Int):=by omega
 have hgB2:w.heap.size + 1 + 1 + 1 < g:=by have:=hWs.out;omega
 clear hgk hgs hgt
 refine wp_region_saysK 7 (fun x y=>Below x.heap.size x y) (fun _ _ _ h k=>bnext h k) wr (below_drew1 wr) (by kernel_rfl) (by kernel_rfl) (by kernel_rfl) (by kernel_rfl) (by rfl) ?_
 simp only [List.take_succ_cons,List.take_zero,List.drop_succ_cons,List.drop_zero]
 iterate 7
  refine wkI ?_ (fun u X hX hd=>?_) ?_
  rotate_left
  ·have q1:=(I2.out.below hX).cell 1
   have q2:=hg0.out X hX
   simp only [List.getElem?_toArray,List.getElem?_cons_zero,List.getElem?_cons_succ] at q1
   try simp at hd
   go_simp
   try rfl
 intro u X hX hsay
 simp only [sayAll,isV] at hsay
 obtain ⟨v0,v1,v2,v3,v4,v5,v6,-⟩:=hsay
 have XB:=hid (X2.out.below hX)
 have z3:=XB.out.cell 4
 have zg:=XB.out.frozen
 have zm:=XB.out.lt
 simp only [List.getElem?_toArray,List.getElem?_cons_zero,List.getElem?_cons_succ] at z3
 have X3:Hid (Bk (X.setCell ⟨w.heap.size + 1,4,none⟩ (.int .i64 top)) (w.heap.size + 1) 64 (mC ((i:Int) + 1) (fuel - 1) (.slice A' k c') r0 top r2 r3 (.slice oA on oc) false e0)):=hid (by simpa using XB.out.set 4 (.int .i64 top))
 have R3:=hid ((R2.out.below hX).far (p:=⟨w.heap.size + 1,4,none⟩) (by simp) (.int .i64 top))
 have P3:=hid (own_cellBelow (own_below P2.out hX) (G:=w.heap.size + 1) (by omega) 4 (.int .i64 top))
 have M3:=hid ((M2.out.below hX).setCell (HM.out.offNew (G:=w.heap.size + 1) (by omega)) 4 (.int .i64 top))
 have B3:=hid ((bnext BB.out hX).setCell (p:=⟨w.heap.size + 1,4,none⟩) (by simp) (.int .i64 top))
 simp only [putAll,Act.put,v0,v1,v2,v3,v4,v5,v6,List.setIfInBounds_toArray,List.set_cons_succ,List.set_cons_zero]
 clear z2 zf zl zi v0 v1 v2 v3 v4 v5 v6
 go_wp2_with (first
  | (with_reducible refine ld_mach (w.heap.size + 1) X3.out _ rfl rfl rfl ?_)
  | (with_reducible refine st_mach (w.heap.size + 1 + 1) R3.out rfl rfl _ _ rfl rfl rfl rfl ?_))
 exact bodyPost_ret (v:=.tuple #[.agg (mC ((i:Int) + 1) (fuel - 1) (.slice A' k c') r0 top r2 r3 (.slice oA on oc) false e0),.slice bA bn bc]) (res2_mach rfl _ _ (w.heap.size + 1 + 1) _ rfl rfl (Bk.setRow R3.out _)) rfl
  ⟨_,_,_,_,_,_,_,_,_,rfl,MIn.setRow (⟨by have:=Sl.own' P3.out;simpa using this,M3.out.ou,M3.out.bk⟩) (⟨own_offA P3.out (by omega),(HM.out.offNew (by omega)).2⟩) _,below_row B3.out (by omega) _,fun G hG h=>⟨own_offA P3.out (by omega),h.2⟩⟩
theorem rstep3_2 (l:List Ins) (i:Nat) (k:Nat) (hk:k≤1000) (b:Int) (st ou:List Int) (own:Blks) (w:World) (hC:Inss w ca cc l) (hl:l.length=nc) (hi:i < nc) (hic:nc≤1000) (hx:insAt l i=⟨3,2,b⟩) (hM:MIn w st ou own sA (k + 1) sc oA on oc bA bn bc) (hf:fuel≠0) (hf2:0≤fuel∧fuel≤1000) :
  Calls Tryz.prog 46 #[cmV ra nr rc wa nw wc aa na ac cf ca nc cc,.agg (mC (i:Int) fuel (.slice sA (k + 1:Nat) sc) r0 r1 r2 r3 (.slice oA on oc) false e0),.slice bA bn bc] w (RSPost ((i:Int) + 1) (fuel - 1) (st.take k) r0 r1 (st[k]?.getD 0) r3 ou false e0 own sA (k + 1) oA on bA bn w):=by
 obtain ⟨top,htop⟩:∃ x,x=st[k]?.getD 0:=⟨_,rfl⟩
 try rw [← htop]
 have HT:=hid htop
 clear htop
 obtain ⟨cb,co,rfl,hcb,x0,x1,x2⟩:=hC.cellAt (j:=i) (by omega)
 rw [hx] at x0 x1 x2
 simp only at x0 x1 x2
 have hcc:=hC.2.1
 rw [hl] at hcc
 have d1:(i:Int) < (nc:Int):=by omega
 have d2:(i:Int) < (cc:Int):=by omega
 have f0:(fuel == 0)=false:=by simpa using hf
 have bb:=sB_below #[.slice ra nr rc,.slice wa nw wc,.slice aa na ac,.int .i64 cf,.slice (some ⟨cb,co,none⟩) nc cc] (mC (i:Int) (fuel - 1) (.slice sA (k + 1:Nat) sc) r0 r1 r2 r3 (.slice oA on oc) false e0) w
 have y0:=(bb.cell (p:=⟨cb,co + i * 3,none⟩) hcb).trans x0
 have y1:=(bb.cell (p:=⟨cb,co + i * 3 + 1,none⟩) hcb).trans x1
 have y2:=(bb.cell (p:=⟨cb,co + i * 3 + 2,none⟩) hcb).trans x2
 have HM:=hid hM
 clear hC hx hl bb hM
 obtain ⟨i0,hi0,hz0,hz1,hz2⟩:=infoInt
 obtain ⟨sb,so,rfl,-,-⟩:=HM.out.st.2.2.2 (by omega)
 have B0:Hid (Below w.heap.size w ((sB #[.slice ra nr rc,.slice wa nw wc,.slice aa na ac,.int .i64 cf,.slice (some ⟨cb,co,none⟩) nc cc] (mC ((i:Int) + 1) (fuel - 1) (.slice (some ⟨sb,so,none⟩) (k + 1:Nat) sc) r0 r1 r2 r3 (.slice oA on oc) false e0) w).alloc (.cells #[.int .i64 3,.int .i64 2,.int .i64 b] 72))):=hid (bnext (sB_below _ _ _) (below_alloc1 _ _))
 have X0:Hid (Bk ((sB #[.slice ra nr rc,.slice wa nw wc,.slice aa na ac,.int .i64 cf,.slice (some ⟨cb,co,none⟩) nc cc] (mC ((i:Int) + 1) (fuel - 1) (.slice (some ⟨sb,so,none⟩) (k + 1:Nat) sc) r0 r1 r2 r3 (.slice oA on oc) false e0) w).alloc (.cells #[.int .i64 3,.int .i64 2,.int .i64 b] 72)) (w.heap.size + 1) 64 (mC ((i:Int) + 1) (fuel - 1) (.slice (some ⟨sb,so,none⟩) (k + 1:Nat) sc) r0 r1 r2 r3 (.slice oA on oc) false e0)):=hid ((sB_box _ _ _).alloc _)
 have R0:Hid (Bk ((sB #[.slice ra nr rc,.slice wa nw wc,.slice aa na ac,.int .i64 cf,.slice (some ⟨cb,co,none⟩) nc cc] (mC ((i:Int) + 1) (fuel - 1) (.slice (some ⟨sb,so,none⟩) (k + 1:Nat) sc) r0 r1 r2 r3 (.slice oA on oc) false e0) w).alloc (.cells #[.int .i64 3,.int .i64 2,.int .i64 b] 72)) (w.heap.size + 1 + 1) 64 mZ):=hid ((sB_res _ _ _).alloc _)
 have I0:Hid (Bk ((sB #[.slice ra nr rc,.slice wa nw wc,.slice aa na ac,.int .i64 cf,.slice (some ⟨cb,co,none⟩) nc cc] (mC ((i:Int) + 1) (fuel - 1) (.slice (some ⟨sb,so,none⟩) (k + 1:Nat) sc) r0 r1 r2 r3 (.slice oA on oc) false e0) w).alloc (.cells #[.int .i64 3,.int .i64 2,.int .i64 b] 72)) (w.heap.size + 1 + 1 + 1) 72 #[.int .i64 3,.int .i64 2,.int .i64 b]):=hid (rW_ins _ _ _ _)
 have hpop:=hid (rpop1 ((i:Int) + 1) (fuel - 1) st r0 r1 r2 r3 false e0 (some ⟨sb,so,none⟩) sc oA on oc k ((sB #[.slice ra nr rc,.slice wa nw wc,.slice aa na ac,.int .i64 cf,.slice (some ⟨cb,co,none⟩) nc cc] (mC ((i:Int) + 1) (fuel - 1) (.slice (some ⟨sb,so,none⟩) (k + 1:Nat) sc) r0 r1 r2 r3 (.slice oA on oc) false e0) w).alloc (.cells #[.int .i64 3,.int .i64 2,.int .i64 b] 72)) (HM.out.st.below B0.out) hk)
 have hWs:Hid (w.heap.size + 1 + 1 + 1 < ((sB #[.slice ra nr rc,.slice wa nw wc,.slice aa na ac,.int .i64 cf,.slice (some ⟨cb,co,none⟩) nc cc] (mC ((i:Int) + 1) (fuel - 1) (.slice (some ⟨sb,so,none⟩) (k + 1:Nat) sc) r0 r1 r2 r3 (.slice oA on oc) false e0) w).alloc (.cells #[.int .i64 3,.int .i64 2,.int .i64 b] 72)).heap.size):=hid I0.out.lt
 go_enter Tryz.func46,Tryz.ntmps46
 go_wp2_with (first
  | (with_reducible refine ld_mach (w.heap.size + 1) X0.out _ rfl rfl rfl ?_)
  | (go_at_call 89;go_must ((with_reducible refine hpop.out.mono ?_);rintro e w1 ⟨⟨A,c,A',c',rfl,p1,p2⟩,hb1⟩;have BB:Hid (Below w.heap.size w (w1.setCell ⟨w.heap.size + 1,2,none⟩ (.slice A' k c'))):=hid ((bnext B0.out hb1).setCell (p:=⟨w.heap.size + 1,2,none⟩) (by simp) _);have P1:=hid (own_cellBelow p1 (G:=w.heap.size + 1) (by have:=hWs.out;omega) 2 (.slice A' k c'));have P2:=hid (own_cellBelow p2 (G:=w.heap.size + 1) (by have:=hWs.out;omega) 2 (.slice A' k c'));have X1:=hid (X0.out.below hb1);have X2:Hid (Bk (w1.setCell ⟨w.heap.size + 1,2,none⟩ (.slice A' k c')) (w.heap.size + 1) 64 (mC ((i:Int) + 1) (fuel - 1) (.slice A' k c') r0 r1 r2 r3 (.slice oA on oc) false e0)):=hid (by simpa using X1.out.set 2 (.slice A' k c'));have R2:=hid ((R0.out.below hb1).far (p:=⟨w.heap.size + 1,2,none⟩) (by simp only;omega) (.slice A' k c'));have I2:=hid ((I0.out.below hb1).far (p:=⟨w.heap.size + 1,2,none⟩) (by simp only;omega) (.slice A' k c'));have M2:=hid (((HM.out.below B0.out).below hb1).setCell (HM.out.offNew (G:=w.heap.size + 1) (by omega)) 2 (.slice A' k c'));have z2:=X1.out.cell 2;have zf:=X1.out.frozen;have zl:=X1.out.lt;have zi:=I2.out.cell 0;simp only [List.getElem?_toArray,List.getElem?_cons_zero,List.getElem?_cons_succ] at z2 zi;clear p1 p2 hb1)))
 have hb2:Hid (w.heap.size + 1 + 1 + 1 < (w1.setCell ⟨w.heap.size + 1,2,none⟩ (.slice A' k c')).heap.size):=hid I2.out.lt
 generalize w1.setCell ⟨w.heap.size + 1,2,none⟩ (.slice A' k c')=wr at *
 have hWr:=hb2.out
 have hWz:=hWs.out
 try simp only [List.append_eq,List.cons_append,List.nil_append]
 obtain ⟨g,cur,rfl,hgB,hgk,hgc,-,hgs,hgt⟩:=own_pos P1.out (by omega)
 have hg0:Hid (∀ X,Below wr.heap.size wr X→X.cell? ⟨g,0,none⟩=some (.int .i64 top)):=hid (fun X hX=>by
  rw [HT.out,(hgk.below hX).cell 0,← Array.getElem?_toList]
  have hl:=HM.out.st.1
  simp at hl
  have h1:(cur.toList.take (1 * 1))[0]? = (((st.drop k).map (Value.int .i64)))[0]?:=by rw [hgt]
  rw [List.getElem?_take,if_pos (by omega)] at h1
  rw [h1,List.getElem?_map,List.getElem?_drop]
  simp [show k < st.length by omega])
 have hgc1:(1:Int)≤(c:Int):=by omega
 have hgB2:w.heap.size + 1 + 1 + 1 < g:=by have:=hWs.out;omega
 clear hgk hgs hgt
 refine wp_region_saysK 7 (fun x y=>Below x.heap.size x y) (fun _ _ _ h k=>bnext h k) wr (below_drew1 wr) (by kernel_rfl) (by kernel_rfl) (by kernel_rfl) (by kernel_rfl) (by rfl) ?_
 simp only [List.take_succ_cons,List.take_zero,List.drop_succ_cons,List.drop_zero]
 iterate 7
  refine wkI ?_ (fun u X hX hd=>?_) ?_
  rotate_left
  ·have q1:=(I2.out.below hX).cell 1
   have q2:=hg0.out X hX
   simp only [List.getElem?_toArray,List.getElem?_cons_zero,List.getElem?_cons_succ] at q1
   try simp at hd
   go_simp
   try rfl
 intro u X hX hsay
 simp only [sayAll,isV] at hsay
 obtain ⟨v0,v1,v2,v3,v4,v5,v6,-⟩:=hsay
 have XB:=hid (X2.out.below hX)
 have z3:=XB.out.cell 5
 have zg:=XB.out.frozen
 have zm:=XB.out.lt
 simp only [List.getElem?_toArray,List.getElem?_cons_zero,List.getElem?_cons_succ] at z3
 have X3:Hid (Bk (X.setCell ⟨w.heap.size + 1,5,none⟩ (.int .i64 top)) (w.heap.size + 1) 64 (mC ((i:Int) + 1) (fuel - 1) (.slice A' k c') r0 r1 top r3 (.slice oA on oc) false e0)):=hid (by simpa using XB.out.set 5 (.int .i64 top))
 have R3:=hid ((R2.out.below hX).far (p:=⟨w.heap.size + 1,5,none⟩) (by simp) (.int .i64 top))
 have P3:=hid (own_cellBelow (own_below P2.out hX) (G:=w.heap.size + 1) (by omega) 5 (.int .i64 top))
 have M3:=hid ((M2.out.below hX).setCell (HM.out.offNew (G:=w.heap.size + 1) (by omega)) 5 (.int .i64 top))
 have B3:=hid ((bnext BB.out hX).setCell (p:=⟨w.heap.size + 1,5,none⟩) (by simp) (.int .i64 top))
 simp only [putAll,Act.put,v0,v1,v2,v3,v4,v5,v6,List.setIfInBounds_toArray,List.set_cons_succ,List.set_cons_zero]
 clear z2 zf zl zi v0 v1 v2 v3 v4 v5 v6
 go_wp2_with (first
  | (with_reducible refine ld_mach (w.heap.size + 1) X3.out _ rfl rfl rfl ?_)
  | (with_reducible refine st_mach (w.heap.size + 1 + 1) R3.out rfl rfl _ _ rfl rfl rfl rfl ?_))
 exact bodyPost_ret (v:=.tuple #[.agg (mC ((i:Int) + 1) (fuel - 1) (.slice A' k c') r0 r1 top r3 (.slice oA on oc) false e0),.slice bA bn bc]) (res2_mach rfl _ _ (w.heap.size + 1 + 1) _ rfl rfl (Bk.setRow R3.out _)) rfl
  ⟨_,_,_,_,_,_,_,_,_,rfl,MIn.setRow (⟨by have:=Sl.own' P3.out;simpa using this,M3.out.ou,M3.out.bk⟩) (⟨own_offA P3.out (by omega),(HM.out.offNew (by omega)).2⟩) _,below_row B3.out (by omega) _,fun G hG h=>⟨own_offA P3.out (by omega),h.2⟩⟩
theorem rstep3_3 (l:List Ins) (i:Nat) (k:Nat) (hk:k≤1000) (b:Int) (st ou:List Int) (own:Blks) (w:World) (hC:Inss w ca cc l) (hl:l.length=nc) (hi:i < nc) (hic:nc≤1000) (hx:insAt l i=⟨3,3,b⟩) (hM:MIn w st ou own sA (k + 1) sc oA on oc bA bn bc) (hf:fuel≠0) (hf2:0≤fuel∧fuel≤1000) :
  Calls Tryz.prog 46 #[cmV ra nr rc wa nw wc aa na ac cf ca nc cc,.agg (mC (i:Int) fuel (.slice sA (k + 1:Nat) sc) r0 r1 r2 r3 (.slice oA on oc) false e0),.slice bA bn bc] w (RSPost ((i:Int) + 1) (fuel - 1) (st.take k) r0 r1 r2 (st[k]?.getD 0) ou false e0 own sA (k + 1) oA on bA bn w):=by
 obtain ⟨top,htop⟩:∃ x,x=st[k]?.getD 0:=⟨_,rfl⟩
 try rw [← htop]
 have HT:=hid htop
 clear htop
 obtain ⟨cb,co,rfl,hcb,x0,x1,x2⟩:=hC.cellAt (j:=i) (by omega)
 rw [hx] at x0 x1 x2
 simp only at x0 x1 x2
 have hcc:=hC.2.1
 rw [hl] at hcc
 have d1:(i:Int) < (nc:Int):=by omega
 have d2:(i:Int) < (cc:Int):=by omega
 have f0:(fuel == 0)=false:=by simpa using hf
 have bb:=sB_below #[.slice ra nr rc,.slice wa nw wc,.slice aa na ac,.int .i64 cf,.slice (some ⟨cb,co,none⟩) nc cc] (mC (i:Int) (fuel - 1) (.slice sA (k + 1:Nat) sc) r0 r1 r2 r3 (.slice oA on oc) false e0) w
 have y0:=(bb.cell (p:=⟨cb,co + i * 3,none⟩) hcb).trans x0
 have y1:=(bb.cell (p:=⟨cb,co + i * 3 + 1,none⟩) hcb).trans x1
 have y2:=(bb.cell (p:=⟨cb,co + i * 3 + 2,none⟩) hcb).trans x2
 have HM:=hid hM
 clear hC hx hl bb hM
 obtain ⟨i0,hi0,hz0,hz1,hz2⟩:=infoInt
 obtain ⟨sb,so,rfl,-,-⟩:=HM.out.st.2.2.2 (by omega)
 have B0:Hid (Below w.heap.size w ((sB #[.slice ra nr rc,.slice wa nw wc,.slice aa na ac,.int .i64 cf,.slice (some ⟨cb,co,none⟩) nc cc] (mC ((i:Int) + 1) (fuel - 1) (.slice (some ⟨sb,so,none⟩) (k + 1:Nat) sc) r0 r1 r2 r3 (.slice oA on oc) false e0) w).alloc (.cells #[.int .i64 3,.int .i64 3,.int .i64 b] 72))):=hid (bnext (sB_below _ _ _) (below_alloc1 _ _))
 have X0:Hid (Bk ((sB #[.slice ra nr rc,.slice wa nw wc,.slice aa na ac,.int .i64 cf,.slice (some ⟨cb,co,none⟩) nc cc] (mC ((i:Int) + 1) (fuel - 1) (.slice (some ⟨sb,so,none⟩) (k + 1:Nat) sc) r0 r1 r2 r3 (.slice oA on oc) false e0) w).alloc (.cells #[.int .i64 3,.int .i64 3,.int .i64 b] 72)) (w.heap.size + 1) 64 (mC ((i:Int) + 1) (fuel - 1) (.slice (some ⟨sb,so,none⟩) (k + 1:Nat) sc) r0 r1 r2 r3 (.slice oA on oc) false e0)):=hid ((sB_box _ _ _).alloc _)
 have R0:Hid (Bk ((sB #[.slice ra nr rc,.slice wa nw wc,.slice aa na ac,.int .i64 cf,.slice (some ⟨cb,co,none⟩) nc cc] (mC ((i:Int) + 1) (fuel - 1) (.slice (some ⟨sb,so,none⟩) (k + 1:Nat) sc) r0 r1 r2 r3 (.slice oA on oc) false e0) w).alloc (.cells #[.int .i64 3,.int .i64 3,.int .i64 b] 72)) (w.heap.size + 1 + 1) 64 mZ):=hid ((sB_res _ _ _).alloc _)
 have I0:Hid (Bk ((sB #[.slice ra nr rc,.slice wa nw wc,.slice aa na ac,.int .i64 cf,.slice (some ⟨cb,co,none⟩) nc cc] (mC ((i:Int) + 1) (fuel - 1) (.slice (some ⟨sb,so,none⟩) (k + 1:Nat) sc) r0 r1 r2 r3 (.slice oA on oc) false e0) w).alloc (.cells #[.int .i64 3,.int .i64 3,.int .i64 b] 72)) (w.heap.size + 1 + 1 + 1) 72 #[.int .i64 3,.int .i64 3,.int .i64 b]):=hid (rW_ins _ _ _ _)
 have hpop:=hid (rpop1 ((i:Int) + 1) (fuel - 1) st r0 r1 r2 r3 false e0 (some ⟨sb,so,none⟩) sc oA on oc k ((sB #[.slice ra nr rc,.slice wa nw wc,.slice aa na ac,.int .i64 cf,.slice (some ⟨cb,co,none⟩) nc cc] (mC ((i:Int) + 1) (fuel - 1) (.slice (some ⟨sb,so,none⟩) (k + 1:Nat) sc) r0 r1 r2 r3 (.slice oA on oc) false e0) w).alloc (.cells #[.int .i64 3,.int .i64 3,.int .i64 b] 72)) (HM.out.st.below B0.out) hk)
 have hWs:Hid (w.heap.size + 1 + 1 + 1 < ((sB #[.slice ra nr rc,.slice wa nw wc,.slice aa na ac,.int .i64 cf,.slice (some ⟨cb,co,none⟩) nc cc] (mC ((i:Int) + 1) (fuel - 1) (.slice (some ⟨sb,so,none⟩) (k + 1:Nat) sc) r0 r1 r2 r3 (.slice oA on oc) false e0) w).alloc (.cells #[.int .i64 3,.int .i64 3,.int .i64 b] 72)).heap.size):=hid I0.out.lt
 go_enter Tryz.func46,Tryz.ntmps46
 go_wp2_with (first
  | (with_reducible refine ld_mach (w.heap.size + 1) X0.out _ rfl rfl rfl ?_)
  | (go_at_call 89;go_must ((with_reducible refine hpop.out.mono ?_);rintro e w1 ⟨⟨A,c,A',c',rfl,p1,p2⟩,hb1⟩;have BB:Hid (Below w.heap.size w (w1.setCell ⟨w.heap.size + 1,2,none⟩ (.slice A' k c'))):=hid ((bnext B0.out hb1).setCell (p:=⟨w.heap.size + 1,2,none⟩) (by simp) _);have P1:=hid (own_cellBelow p1 (G:=w.heap.size + 1) (by have:=hWs.out;omega) 2 (.slice A' k c'));have P2:=hid (own_cellBelow p2 (G:=w.heap.size + 1) (by have:=hWs.out;omega) 2 (.slice A' k c'));have X1:=hid (X0.out.below hb1);have X2:Hid (Bk (w1.setCell ⟨w.heap.size + 1,2,none⟩ (.slice A' k c')) (w.heap.size + 1) 64 (mC ((i:Int) + 1) (fuel - 1) (.slice A' k c') r0 r1 r2 r3 (.slice oA on oc) false e0)):=hid (by simpa using X1.out.set 2 (.slice A' k c'));have R2:=hid ((R0.out.below hb1).far (p:=⟨w.heap.size + 1,2,none⟩) (by simp only;omega) (.slice A' k c'));have I2:=hid ((I0.out.below hb1).far (p:=⟨w.heap.size + 1,2,none⟩) (by simp only;omega) (.slice A' k c'));have M2:=hid (((HM.out.below B0.out).below hb1).setCell (HM.out.offNew (G:=w.heap.size + 1) (by omega)) 2 (.slice A' k c'));have z2:=X1.out.cell 2;have zf:=X1.out.frozen;have zl:=X1.out.lt;have zi:=I2.out.cell 0;simp only [List.getElem?_toArray,List.getElem?_cons_zero,List.getElem?_cons_succ] at z2 zi;clear p1 p2 hb1)))
 have hb2:Hid (w.heap.size + 1 + 1 + 1 < (w1.setCell ⟨w.heap.size + 1,2,none⟩ (.slice A' k c')).heap.size):=hid I2.out.lt
 generalize w1.setCell ⟨w.heap.size + 1,2,none⟩ (.slice A' k c')=wr at *
 have hWr:=hb2.out
 have hWz:=hWs.out
 try simp only [List.append_eq,List.cons_append,List.nil_append]
 obtain ⟨g,cur,rfl,hgB,hgk,hgc,-,hgs,hgt⟩:=own_pos P1.out (by omega)
 have hg0:Hid (∀ X,Below wr.heap.size wr X→X.cell? ⟨g,0,none⟩=some (.int .i64 top)):=hid (fun X hX=>by
  rw [HT.out,(hgk.below hX).cell 0,← Array.getElem?_toList]
  have hl:=HM.out.st.1
  simp at hl
  have h1:(cur.toList.take (1 * 1))[0]? = (((st.drop k).map (Value.int .i64)))[0]?:=by rw [hgt]
  rw [List.getElem?_take,if_pos (by omega)] at h1
  rw [h1,List.getElem?_map,List.getElem?_drop]
  simp [show k < st.length by omega])
 have hgc1:(1:Int)≤(c:Int):=by omega
 have hgB2:w.heap.size + 1 + 1 + 1 < g:=by have:=hWs.out;omega
 clear hgk hgs hgt
 refine wp_region_saysK 7 (fun x y=>Below x.heap.size x y) (fun _ _ _ h k=>bnext h k) wr (below_drew1 wr) (by kernel_rfl) (by kernel_rfl) (by kernel_rfl) (by kernel_rfl) (by rfl) ?_
 simp only [List.take_succ_cons,List.take_zero,List.drop_succ_cons,List.drop_zero]
 iterate 7
  refine wkI ?_ (fun u X hX hd=>?_) ?_
  rotate_left
  ·have q1:=(I2.out.below hX).cell 1
   have q2:=hg0.out X hX
   simp only [List.getElem?_toArray,List.getElem?_cons_zero,List.getElem?_cons_succ] at q1
   try simp at hd
   go_simp
   try rfl
 intro u X hX hsay
 simp only [sayAll,isV] at hsay
 obtain ⟨v0,v1,v2,v3,v4,v5,v6,-⟩:=hsay
 have XB:=hid (X2.out.below hX)
 have z3:=XB.out.cell 6
 have zg:=XB.out.frozen
 have zm:=XB.out.lt
 simp only [List.getElem?_toArray,List.getElem?_cons_zero,List.getElem?_cons_succ] at z3
 have X3:Hid (Bk (X.setCell ⟨w.heap.size + 1,6,none⟩ (.int .i64 top)) (w.heap.size + 1) 64 (mC ((i:Int) + 1) (fuel - 1) (.slice A' k c') r0 r1 r2 top (.slice oA on oc) false e0)):=hid (by simpa using XB.out.set 6 (.int .i64 top))
 have R3:=hid ((R2.out.below hX).far (p:=⟨w.heap.size + 1,6,none⟩) (by simp) (.int .i64 top))
 have P3:=hid (own_cellBelow (own_below P2.out hX) (G:=w.heap.size + 1) (by omega) 6 (.int .i64 top))
 have M3:=hid ((M2.out.below hX).setCell (HM.out.offNew (G:=w.heap.size + 1) (by omega)) 6 (.int .i64 top))
 have B3:=hid ((bnext BB.out hX).setCell (p:=⟨w.heap.size + 1,6,none⟩) (by simp) (.int .i64 top))
 simp only [putAll,Act.put,v0,v1,v2,v3,v4,v5,v6,List.setIfInBounds_toArray,List.set_cons_succ,List.set_cons_zero]
 clear z2 zf zl zi v0 v1 v2 v3 v4 v5 v6
 go_wp2_with (first
  | (with_reducible refine ld_mach (w.heap.size + 1) X3.out _ rfl rfl rfl ?_)
  | (with_reducible refine st_mach (w.heap.size + 1 + 1) R3.out rfl rfl _ _ rfl rfl rfl rfl ?_))
 exact bodyPost_ret (v:=.tuple #[.agg (mC ((i:Int) + 1) (fuel - 1) (.slice A' k c') r0 r1 r2 top (.slice oA on oc) false e0),.slice bA bn bc]) (res2_mach rfl _ _ (w.heap.size + 1 + 1) _ rfl rfl (Bk.setRow R3.out _)) rfl
  ⟨_,_,_,_,_,_,_,_,_,rfl,MIn.setRow (⟨by have:=Sl.own' P3.out;simpa using this,M3.out.ou,M3.out.bk⟩) (⟨own_offA P3.out (by omega),(HM.out.offNew (by omega)).2⟩) _,below_row B3.out (by omega) _,fun G hG h=>⟨own_offA P3.out (by omega),h.2⟩⟩
theorem rstep13_0 (l:List Ins) (i:Nat) (k:Nat) (hk:k≤1000) (a b:Int) (st ou:List Int) (own:Blks) (w:World) (hC:Inss w ca cc l) (hl:l.length=nc) (hi:i < nc) (hic:nc≤1000) (hx:insAt l i=⟨13,a,b⟩) (hM:MIn w st ou own sA (k + 1) sc oA on oc bA bn bc) (hf:fuel≠0) (hf2:0≤fuel∧fuel≤1000) (h0:st[k]?.getD 0=0) (ha:0≤a∧a≤1000) :
  Calls Tryz.prog 46 #[cmV ra nr rc wa nw wc aa na ac cf ca nc cc,.agg (mC (i:Int) fuel (.slice sA (k + 1:Nat) sc) r0 r1 r2 r3 (.slice oA on oc) false e0),.slice bA bn bc] w (RSPost ((i:Int) + 1 + a) (fuel - 1) (st.take k) r0 r1 r2 r3 ou false e0 own sA (k + 1) oA on bA bn w):=by
 obtain ⟨top,htop⟩:∃ x,x=st[k]?.getD 0:=⟨_,rfl⟩
 try rw [← htop]
 rw [← htop] at h0
 have htt:(top == 0)=true:=by simpa using h0
 clear h0
 have HT:=hid htop
 clear htop
 obtain ⟨cb,co,rfl,hcb,x0,x1,x2⟩:=hC.cellAt (j:=i) (by omega)
 rw [hx] at x0 x1 x2
 simp only at x0 x1 x2
 have hcc:=hC.2.1
 rw [hl] at hcc
 have d1:(i:Int) < (nc:Int):=by omega
 have d2:(i:Int) < (cc:Int):=by omega
 have f0:(fuel == 0)=false:=by simpa using hf
 have bb:=sB_below #[.slice ra nr rc,.slice wa nw wc,.slice aa na ac,.int .i64 cf,.slice (some ⟨cb,co,none⟩) nc cc] (mC (i:Int) (fuel - 1) (.slice sA (k + 1:Nat) sc) r0 r1 r2 r3 (.slice oA on oc) false e0) w
 have y0:=(bb.cell (p:=⟨cb,co + i * 3,none⟩) hcb).trans x0
 have y1:=(bb.cell (p:=⟨cb,co + i * 3 + 1,none⟩) hcb).trans x1
 have y2:=(bb.cell (p:=⟨cb,co + i * 3 + 2,none⟩) hcb).trans x2
 have HM:=hid hM
 clear hC hx hl bb hM
 obtain ⟨i0,hi0,hz0,hz1,hz2⟩:=infoInt
 obtain ⟨sb,so,rfl,-,-⟩:=HM.out.st.2.2.2 (by omega)
 have B0:Hid (Below w.heap.size w ((sB #[.slice ra nr rc,.slice wa nw wc,.slice aa na ac,.int .i64 cf,.slice (some ⟨cb,co,none⟩) nc cc] (mC ((i:Int) + 1) (fuel - 1) (.slice (some ⟨sb,so,none⟩) (k + 1:Nat) sc) r0 r1 r2 r3 (.slice oA on oc) false e0) w).alloc (.cells #[.int .i64 13,.int .i64 a,.int .i64 b] 72))):=hid (bnext (sB_below _ _ _) (below_alloc1 _ _))
 have X0:Hid (Bk ((sB #[.slice ra nr rc,.slice wa nw wc,.slice aa na ac,.int .i64 cf,.slice (some ⟨cb,co,none⟩) nc cc] (mC ((i:Int) + 1) (fuel - 1) (.slice (some ⟨sb,so,none⟩) (k + 1:Nat) sc) r0 r1 r2 r3 (.slice oA on oc) false e0) w).alloc (.cells #[.int .i64 13,.int .i64 a,.int .i64 b] 72)) (w.heap.size + 1) 64 (mC ((i:Int) + 1) (fuel - 1) (.slice (some ⟨sb,so,none⟩) (k + 1:Nat) sc) r0 r1 r2 r3 (.slice oA on oc) false e0)):=hid ((sB_box _ _ _).alloc _)
 have R0:Hid (Bk ((sB #[.slice ra nr rc,.slice wa nw wc,.slice aa na ac,.int .i64 cf,.slice (some ⟨cb,co,none⟩) nc cc] (mC ((i:Int) + 1) (fuel - 1) (.slice (some ⟨sb,so,none⟩) (k + 1:Nat) sc) r0 r1 r2 r3 (.slice oA on oc) false e0) w).alloc (.cells #[.int .i64 13,.int .i64 a,.int .i64 b] 72)) (w.heap.size + 1 + 1) 64 mZ):=hid ((sB_res _ _ _).alloc _)
 have I0:Hid (Bk ((sB #[.slice ra nr rc,.slice wa nw wc,.slice aa na ac,.int .i64 cf,.slice (some ⟨cb,co,none⟩) nc cc] (mC ((i:Int) + 1) (fuel - 1) (.slice (some ⟨sb,so,none⟩) (k + 1:Nat) sc) r0 r1 r2 r3 (.slice oA on oc) false e0) w).alloc (.cells #[.int .i64 13,.int .i64 a,.int .i64 b] 72)) (w.heap.size + 1 + 1 + 1) 72 #[.int .i64 13,.int .i64 a,.int .i64 b]):=hid (rW_ins _ _ _ _)
 have hpop:=hid (rpop1 ((i:Int) + 1) (fuel - 1) st r0 r1 r2 r3 false e0 (some ⟨sb,so,none⟩) sc oA on oc k ((sB #[.slice ra nr rc,.slice wa nw wc,.slice aa na ac,.int .i64 cf,.slice (some ⟨cb,co,none⟩) nc cc] (mC ((i:Int) + 1) (fuel - 1) (.slice (some ⟨sb,so,none⟩) (k + 1:Nat) sc) r0 r1 r2 r3 (.slice oA on oc) false e0) w).alloc (.cells #[.int .i64 13,.int .i64 a,.int .i64 b] 72)) (HM.out.st.below B0.out) hk)
 have hWs:Hid (w.heap.size + 1 + 1 + 1 < ((sB #[.slice ra nr rc,.slice wa nw wc,.slice aa na ac,.int .i64 cf,.slice (some ⟨cb,co,none⟩) nc cc] (mC ((i:Int) + 1) (fuel - 1) (.slice (some ⟨sb,so,none⟩) (k + 1:Nat) sc) r0 r1 r2 r3 (.slice oA on oc) false e0) w).alloc (.cells #[.int .i64 13,.int .i64 a,.int .i64 b] 72)).heap.size):=hid I0.out.lt
 go_enter Tryz.func46,Tryz.ntmps46
 go_wp2_with (first
  | (with_reducible refine ld_mach (w.heap.size + 1) X0.out _ rfl rfl rfl ?_)
  | (go_at_call 89;go_must ((with_reducible refine hpop.out.mono ?_);rintro e w1 ⟨⟨A,c,A',c',rfl,p1,p2⟩,hb1⟩;have BB:Hid (Below w.heap.size w (w1.setCell ⟨w.heap.size + 1,2,none⟩ (.slice A' k c'))):=hid ((bnext B0.out hb1).setCell (p:=⟨w.heap.size + 1,2,none⟩) (by simp) _);have P1:=hid (own_cellBelow p1 (G:=w.heap.size + 1) (by have:=hWs.out;omega) 2 (.slice A' k c'));have P2:=hid (own_cellBelow p2 (G:=w.heap.size + 1) (by have:=hWs.out;omega) 2 (.slice A' k c'));have X1:=hid (X0.out.below hb1);have X2:Hid (Bk (w1.setCell ⟨w.heap.size + 1,2,none⟩ (.slice A' k c')) (w.heap.size + 1) 64 (mC ((i:Int) + 1) (fuel - 1) (.slice A' k c') r0 r1 r2 r3 (.slice oA on oc) false e0)):=hid (by simpa using X1.out.set 2 (.slice A' k c'));have R2:=hid ((R0.out.below hb1).far (p:=⟨w.heap.size + 1,2,none⟩) (by simp only;omega) (.slice A' k c'));have I2:=hid ((I0.out.below hb1).far (p:=⟨w.heap.size + 1,2,none⟩) (by simp only;omega) (.slice A' k c'));have M2:=hid (((HM.out.below B0.out).below hb1).setCell (HM.out.offNew (G:=w.heap.size + 1) (by omega)) 2 (.slice A' k c'));have z2:=X1.out.cell 2;have zf:=X1.out.frozen;have zl:=X1.out.lt;have zi:=I2.out.cell 0;simp only [List.getElem?_toArray,List.getElem?_cons_zero,List.getElem?_cons_succ] at z2 zi;obtain ⟨g,cur,rfl,hgB,hgk,-,-,-,hgt⟩:=own_pos p1 (by omega);have hgb:w.heap.size + 1 < g:=(by have:=hWs.out;omega);have gf:(w1.setCell ⟨w.heap.size + 1,2,none⟩ (.slice A' k c')).cell? ⟨g,0,none⟩=some (.int .i64 top):=(by rw [HT.out,(hgk.far (p:=⟨w.heap.size + 1,2,none⟩) (by simp;omega) (.slice A' k c')).cell 0,← Array.getElem?_toList];have hl:=HM.out.st.1;simp at hl;have h1:(cur.toList.take (1 * 1))[0]? = (((st.drop k).map (Value.int .i64)))[0]?:=(by rw [hgt]);rw [List.getElem?_take,if_pos (by omega)] at h1;rw [h1,List.getElem?_map,List.getElem?_drop];simp [show k < st.length by omega]);have gc:=(hgk.far (p:=⟨w.heap.size + 1,2,none⟩) (by simp;omega) (.slice A' k c')).lt;have i1:=I2.out.cell 1;have x0:=X2.out.cell 0;have xf:=X2.out.frozen;have xl:=X2.out.lt;have il:=I2.out.lt;simp only [List.getElem?_toArray,List.getElem?_cons_zero,List.getElem?_cons_succ] at i1 x0;have X3:Hid (Bk ((w1.setCell ⟨w.heap.size + 1,2,none⟩ (.slice A' k c')).setCell ⟨w.heap.size + 1,0,none⟩ (.int .i64 ((i:Int) + 1 + a))) (w.heap.size + 1) 64 (mC ((i:Int) + 1 + a) (fuel - 1) (.slice A' k c') r0 r1 r2 r3 (.slice oA on oc) false e0)):=hid (by simpa using X2.out.set 0 (.int .i64 ((i:Int) + 1 + a)));have R3:=hid (R2.out.far (p:=⟨w.heap.size + 1,0,none⟩) (by simp) (.int .i64 ((i:Int) + 1 + a)));have P3:=hid (own_cellBelow P2.out (G:=w.heap.size + 1) (by have:=hWs.out;omega) 0 (.int .i64 ((i:Int) + 1 + a)));have M3:=hid (M2.out.setCell (HM.out.offNew (G:=w.heap.size + 1) (by omega)) 0 (.int .i64 ((i:Int) + 1 + a)));have B3:=hid (BB.out.setCell (p:=⟨w.heap.size + 1,0,none⟩) (by simp) (.int .i64 ((i:Int) + 1 + a)));clear hgk hgt;clear p1 p2 hb1))
  | (with_reducible refine ld_mach (w.heap.size + 1) X3.out _ rfl rfl rfl ?_)
  | (with_reducible refine st_mach (w.heap.size + 1 + 1) R3.out rfl rfl _ _ rfl rfl rfl rfl ?_))
 have hWz:=hWs.out
 exact bodyPost_ret (v:=.tuple #[.agg (mC ((i:Int) + 1 + a) (fuel - 1) (.slice A' k c') r0 r1 r2 r3 (.slice oA on oc) false e0),.slice bA bn bc]) (res2_mach rfl _ _ (w.heap.size + 1 + 1) _ rfl rfl (Bk.setRow R3.out _)) rfl
  ⟨_,_,_,_,_,_,_,_,_,rfl,MIn.setRow (⟨by have:=Sl.own' P3.out;simpa using this,M3.out.ou,M3.out.bk⟩) (⟨own_offA P3.out (by omega),(HM.out.offNew (by omega)).2⟩) _,below_row B3.out (by omega) _,fun G hG h=>⟨own_offA P3.out (by omega),h.2⟩⟩
theorem rstep13_1 (l:List Ins) (i:Nat) (k:Nat) (hk:k≤1000) (a b:Int) (st ou:List Int) (own:Blks) (w:World) (hC:Inss w ca cc l) (hl:l.length=nc) (hi:i < nc) (hic:nc≤1000) (hx:insAt l i=⟨13,a,b⟩) (hM:MIn w st ou own sA (k + 1) sc oA on oc bA bn bc) (hf:fuel≠0) (hf2:0≤fuel∧fuel≤1000) (h0:st[k]?.getD 0≠0) :
  Calls Tryz.prog 46 #[cmV ra nr rc wa nw wc aa na ac cf ca nc cc,.agg (mC (i:Int) fuel (.slice sA (k + 1:Nat) sc) r0 r1 r2 r3 (.slice oA on oc) false e0),.slice bA bn bc] w (RSPost ((i:Int) + 1) (fuel - 1) (st.take k) r0 r1 r2 r3 ou false e0 own sA (k + 1) oA on bA bn w):=by
 obtain ⟨top,htop⟩:∃ x,x=st[k]?.getD 0:=⟨_,rfl⟩
 try rw [← htop]
 rw [← htop] at h0
 have htt:(top == 0)=false:=by simpa using h0
 clear h0
 have HT:=hid htop
 clear htop
 obtain ⟨cb,co,rfl,hcb,x0,x1,x2⟩:=hC.cellAt (j:=i) (by omega)
 rw [hx] at x0 x1 x2
 simp only at x0 x1 x2
 have hcc:=hC.2.1
 rw [hl] at hcc
 have d1:(i:Int) < (nc:Int):=by omega
 have d2:(i:Int) < (cc:Int):=by omega
 have f0:(fuel == 0)=false:=by simpa using hf
 have bb:=sB_below #[.slice ra nr rc,.slice wa nw wc,.slice aa na ac,.int .i64 cf,.slice (some ⟨cb,co,none⟩) nc cc] (mC (i:Int) (fuel - 1) (.slice sA (k + 1:Nat) sc) r0 r1 r2 r3 (.slice oA on oc) false e0) w
 have y0:=(bb.cell (p:=⟨cb,co + i * 3,none⟩) hcb).trans x0
 have y1:=(bb.cell (p:=⟨cb,co + i * 3 + 1,none⟩) hcb).trans x1
 have y2:=(bb.cell (p:=⟨cb,co + i * 3 + 2,none⟩) hcb).trans x2
 have HM:=hid hM
 clear hC hx hl bb hM
 obtain ⟨i0,hi0,hz0,hz1,hz2⟩:=infoInt
 obtain ⟨sb,so,rfl,-,-⟩:=HM.out.st.2.2.2 (by omega)
 have B0:Hid (Below w.heap.size w ((sB #[.slice ra nr rc,.slice wa nw wc,.slice aa na ac,.int .i64 cf,.slice (some ⟨cb,co,none⟩) nc cc] (mC ((i:Int) + 1) (fuel - 1) (.slice (some ⟨sb,so,none⟩) (k + 1:Nat) sc) r0 r1 r2 r3 (.slice oA on oc) false e0) w).alloc (.cells #[.int .i64 13,.int .i64 a,.int .i64 b] 72))):=hid (bnext (sB_below _ _ _) (below_alloc1 _ _))
 have X0:Hid (Bk ((sB #[.slice ra nr rc,.slice wa nw wc,.slice aa na ac,.int .i64 cf,.slice (some ⟨cb,co,none⟩) nc cc] (mC ((i:Int) + 1) (fuel - 1) (.slice (some ⟨sb,so,none⟩) (k + 1:Nat) sc) r0 r1 r2 r3 (.slice oA on oc) false e0) w).alloc (.cells #[.int .i64 13,.int .i64 a,.int .i64 b] 72)) (w.heap.size + 1) 64 (mC ((i:Int) + 1) (fuel - 1) (.slice (some ⟨sb,so,none⟩) (k + 1:Nat) sc) r0 r1 r2 r3 (.slice oA on oc) false e0)):=hid ((sB_box _ _ _).alloc _)
 have R0:Hid (Bk ((sB #[.slice ra nr rc,.slice wa nw wc,.slice aa na ac,.int .i64 cf,.slice (some ⟨cb,co,none⟩) nc cc] (mC ((i:Int) + 1) (fuel - 1) (.slice (some ⟨sb,so,none⟩) (k + 1:Nat) sc) r0 r1 r2 r3 (.slice oA on oc) false e0) w).alloc (.cells #[.int .i64 13,.int .i64 a,.int .i64 b] 72)) (w.heap.size + 1 + 1) 64 mZ):=hid ((sB_res _ _ _).alloc _)
 have I0:Hid (Bk ((sB #[.slice ra nr rc,.slice wa nw wc,.slice aa na ac,.int .i64 cf,.slice (some ⟨cb,co,none⟩) nc cc] (mC ((i:Int) + 1) (fuel - 1) (.slice (some ⟨sb,so,none⟩) (k + 1:Nat) sc) r0 r1 r2 r3 (.slice oA on oc) false e0) w).alloc (.cells #[.int .i64 13,.int .i64 a,.int .i64 b] 72)) (w.heap.size + 1 + 1 + 1) 72 #[.int .i64 13,.int .i64 a,.int .i64 b]):=hid (rW_ins _ _ _ _)
 have hpop:=hid (rpop1 ((i:Int) + 1) (fuel - 1) st r0 r1 r2 r3 false e0 (some ⟨sb,so,none⟩) sc oA on oc k ((sB #[.slice ra nr rc,.slice wa nw wc,.slice aa na ac,.int .i64 cf,.slice (some ⟨cb,co,none⟩) nc cc] (mC ((i:Int) + 1) (fuel - 1) (.slice (some ⟨sb,so,none⟩) (k + 1:Nat) sc) r0 r1 r2 r3 (.slice oA on oc) false e0) w).alloc (.cells #[.int .i64 13,.int .i64 a,.int .i64 b] 72)) (HM.out.st.below B0.out) hk)
 have hWs:Hid (w.heap.size + 1 + 1 + 1 < ((sB #[.slice ra nr rc,.slice wa nw wc,.slice aa na ac,.int .i64 cf,.slice (some ⟨cb,co,none⟩) nc cc] (mC ((i:Int) + 1) (fuel - 1) (.slice (some ⟨sb,so,none⟩) (k + 1:Nat) sc) r0 r1 r2 r3 (.slice oA on oc) false e0) w).alloc (.cells #[.int .i64 13,.int .i64 a,.int .i64 b] 72)).heap.size):=hid I0.out.lt
 go_enter Tryz.func46,Tryz.ntmps46
 go_wp2_with (first
  | (with_reducible refine ld_mach (w.heap.size + 1) X0.out _ rfl rfl rfl ?_)
  | (go_at_call 89;go_must ((with_reducible refine hpop.out.mono ?_);rintro e w1 ⟨⟨A,c,A',c',rfl,p1,p2⟩,hb1⟩;have BB:Hid (Below w.heap.size w (w1.setCell ⟨w.heap.size + 1,2,none⟩ (.slice A' k c'))):=hid ((bnext B0.out hb1).setCell (p:=⟨w.heap.size + 1,2,none⟩) (by simp) _);have P1:=hid (own_cellBelow p1 (G:=w.heap.size + 1) (by have:=hWs.out;omega) 2 (.slice A' k c'));have P2:=hid (own_cellBelow p2 (G:=w.heap.size + 1) (by have:=hWs.out;omega) 2 (.slice A' k c'));have X1:=hid (X0.out.below hb1);have X2:Hid (Bk (w1.setCell ⟨w.heap.size + 1,2,none⟩ (.slice A' k c')) (w.heap.size + 1) 64 (mC ((i:Int) + 1) (fuel - 1) (.slice A' k c') r0 r1 r2 r3 (.slice oA on oc) false e0)):=hid (by simpa using X1.out.set 2 (.slice A' k c'));have R2:=hid ((R0.out.below hb1).far (p:=⟨w.heap.size + 1,2,none⟩) (by simp only;omega) (.slice A' k c'));have I2:=hid ((I0.out.below hb1).far (p:=⟨w.heap.size + 1,2,none⟩) (by simp only;omega) (.slice A' k c'));have M2:=hid (((HM.out.below B0.out).below hb1).setCell (HM.out.offNew (G:=w.heap.size + 1) (by omega)) 2 (.slice A' k c'));have z2:=X1.out.cell 2;have zf:=X1.out.frozen;have zl:=X1.out.lt;have zi:=I2.out.cell 0;simp only [List.getElem?_toArray,List.getElem?_cons_zero,List.getElem?_cons_succ] at z2 zi;obtain ⟨g,cur,rfl,hgB,hgk,-,-,-,hgt⟩:=own_pos p1 (by omega);have hgb:w.heap.size + 1 < g:=(by have:=hWs.out;omega);have gf:(w1.setCell ⟨w.heap.size + 1,2,none⟩ (.slice A' k c')).cell? ⟨g,0,none⟩=some (.int .i64 top):=(by rw [HT.out,(hgk.far (p:=⟨w.heap.size + 1,2,none⟩) (by simp;omega) (.slice A' k c')).cell 0,← Array.getElem?_toList];have hl:=HM.out.st.1;simp at hl;have h1:(cur.toList.take (1 * 1))[0]? = (((st.drop k).map (Value.int .i64)))[0]?:=(by rw [hgt]);rw [List.getElem?_take,if_pos (by omega)] at h1;rw [h1,List.getElem?_map,List.getElem?_drop];simp [show k < st.length by omega]);have gc:=(hgk.far (p:=⟨w.heap.size + 1,2,none⟩) (by simp;omega) (.slice A' k c')).lt;have i1:=I2.out.cell 1;have x0:=X2.out.cell 0;have xf:=X2.out.frozen;have xl:=X2.out.lt;have il:=I2.out.lt;simp only [List.getElem?_toArray,List.getElem?_cons_zero,List.getElem?_cons_succ] at i1 x0;clear hgk hgt;clear p1 p2 hb1))
  | (with_reducible refine ld_mach (w.heap.size + 1) X2.out _ rfl rfl rfl ?_)
  | (with_reducible refine st_mach (w.heap.size + 1 + 1) R2.out rfl rfl _ _ rfl rfl rfl rfl ?_))
 have hWz:=hWs.out
 exact bodyPost_ret (v:=.tuple #[.agg (mC ((i:Int) + 1) (fuel - 1) (.slice A' k c') r0 r1 r2 r3 (.slice oA on oc) false e0),.slice bA bn bc]) (res2_mach rfl _ _ (w.heap.size + 1 + 1) _ rfl rfl (Bk.setRow R2.out _)) rfl
  ⟨_,_,_,_,_,_,_,_,_,rfl,MIn.setRow (⟨by have:=Sl.own' P2.out;simpa using this,M2.out.ou,M2.out.bk⟩) (⟨own_offA P2.out (by omega),(HM.out.offNew (by omega)).2⟩) _,below_row BB.out (by omega) _,fun G hG h=>⟨own_offA P2.out (by omega),h.2⟩⟩
theorem rstep15 (l:List Ins) (i:Nat) (k:Nat) (hk:k≤1000) (a b:Int) (st ou:List Int) (own:Blks) (w:World) (hC:Inss w ca cc l) (hl:l.length=nc) (hi:i < nc) (hic:nc≤1000) (hx:insAt l i=⟨15,a,b⟩) (hM:MIn w st ou own sA (k + 1) sc oA on oc bA bn bc) (hf:fuel≠0) (hf2:0≤fuel∧fuel≤1000) (hon:on≤1000) :
  Calls Tryz.prog 46 #[cmV ra nr rc wa nw wc aa na ac cf ca nc cc,.agg (mC (i:Int) fuel (.slice sA (k + 1:Nat) sc) r0 r1 r2 r3 (.slice oA on oc) false e0),.slice bA bn bc] w (RSPost ((i:Int) + 1) (fuel - 1) (st.take k) r0 r1 r2 r3 (ou ++ [st[k]?.getD 0]) false e0 own sA (k + 1) oA on bA bn w):=by
 obtain ⟨top,htop⟩:∃ x,x=st[k]?.getD 0:=⟨_,rfl⟩
 try rw [← htop]
 have HT:=hid htop
 clear htop
 obtain ⟨cb,co,rfl,hcb,x0,x1,x2⟩:=hC.cellAt (j:=i) (by omega)
 rw [hx] at x0 x1 x2
 simp only at x0 x1 x2
 have hcc:=hC.2.1
 rw [hl] at hcc
 have d1:(i:Int) < (nc:Int):=by omega
 have d2:(i:Int) < (cc:Int):=by omega
 have f0:(fuel == 0)=false:=by simpa using hf
 have bb:=sB_below #[.slice ra nr rc,.slice wa nw wc,.slice aa na ac,.int .i64 cf,.slice (some ⟨cb,co,none⟩) nc cc] (mC (i:Int) (fuel - 1) (.slice sA (k + 1:Nat) sc) r0 r1 r2 r3 (.slice oA on oc) false e0) w
 have y0:=(bb.cell (p:=⟨cb,co + i * 3,none⟩) hcb).trans x0
 have y1:=(bb.cell (p:=⟨cb,co + i * 3 + 1,none⟩) hcb).trans x1
 have y2:=(bb.cell (p:=⟨cb,co + i * 3 + 2,none⟩) hcb).trans x2
 have HM:=hid hM
 clear hC hx hl bb hM
 obtain ⟨i0,hi0,hz0,hz1,hz2⟩:=infoInt
 obtain ⟨sb,so,rfl,-,-⟩:=HM.out.st.2.2.2 (by omega)
 have B0:Hid (Below w.heap.size w ((sB #[.slice ra nr rc,.slice wa nw wc,.slice aa na ac,.int .i64 cf,.slice (some ⟨cb,co,none⟩) nc cc] (mC ((i:Int) + 1) (fuel - 1) (.slice (some ⟨sb,so,none⟩) (k + 1:Nat) sc) r0 r1 r2 r3 (.slice oA on oc) false e0) w).alloc (.cells #[.int .i64 15,.int .i64 a,.int .i64 b] 72))):=hid (bnext (sB_below _ _ _) (below_alloc1 _ _))
 have X0:Hid (Bk ((sB #[.slice ra nr rc,.slice wa nw wc,.slice aa na ac,.int .i64 cf,.slice (some ⟨cb,co,none⟩) nc cc] (mC ((i:Int) + 1) (fuel - 1) (.slice (some ⟨sb,so,none⟩) (k + 1:Nat) sc) r0 r1 r2 r3 (.slice oA on oc) false e0) w).alloc (.cells #[.int .i64 15,.int .i64 a,.int .i64 b] 72)) (w.heap.size + 1) 64 (mC ((i:Int) + 1) (fuel - 1) (.slice (some ⟨sb,so,none⟩) (k + 1:Nat) sc) r0 r1 r2 r3 (.slice oA on oc) false e0)):=hid ((sB_box _ _ _).alloc _)
 have R0:Hid (Bk ((sB #[.slice ra nr rc,.slice wa nw wc,.slice aa na ac,.int .i64 cf,.slice (some ⟨cb,co,none⟩) nc cc] (mC ((i:Int) + 1) (fuel - 1) (.slice (some ⟨sb,so,none⟩) (k + 1:Nat) sc) r0 r1 r2 r3 (.slice oA on oc) false e0) w).alloc (.cells #[.int .i64 15,.int .i64 a,.int .i64 b] 72)) (w.heap.size + 1 + 1) 64 mZ):=hid ((sB_res _ _ _).alloc _)
 have I0:Hid (Bk ((sB #[.slice ra nr rc,.slice wa nw wc,.slice aa na ac,.int .i64 cf,.slice (some ⟨cb,co,none⟩) nc cc] (mC ((i:Int) + 1) (fuel - 1) (.slice (some ⟨sb,so,none⟩) (k + 1:Nat) sc) r0 r1 r2 r3 (.slice oA on oc) false e0) w).alloc (.cells #[.int .i64 15,.int .i64 a,.int .i64 b] 72)) (w.heap.size + 1 + 1 + 1) 72 #[.int .i64 15,.int .i64 a,.int .i64 b]):=hid (rW_ins _ _ _ _)
 have hpop:=hid (rpop1 ((i:Int) + 1) (fuel - 1) st r0 r1 r2 r3 false e0 (some ⟨sb,so,none⟩) sc oA on oc k ((sB #[.slice ra nr rc,.slice wa nw wc,.slice aa na ac,.int .i64 cf,.slice (some ⟨cb,co,none⟩) nc cc] (mC ((i:Int) + 1) (fuel - 1) (.slice (some ⟨sb,so,none⟩) (k + 1:Nat) sc) r0 r1 r2 r3 (.slice oA on oc) false e0) w).alloc (.cells #[.int .i64 15,.int .i64 a,.int .i64 b] 72)) (HM.out.st.below B0.out) hk)
 have hWs:Hid (w.heap.size + 1 + 1 + 1 < ((sB #[.slice ra nr rc,.slice wa nw wc,.slice aa na ac,.int .i64 cf,.slice (some ⟨cb,co,none⟩) nc cc] (mC ((i:Int) + 1) (fuel - 1) (.slice (some ⟨sb,so,none⟩) (k + 1:Nat) sc) r0 r1 r2 r3 (.slice oA on oc) false e0) w).alloc (.cells #[.int .i64 15,.int .i64 a,.int .i64 b] 72)).heap.size):=hid I0.out.lt
 go_enter Tryz.func46,Tryz.ntmps46
 go_wp2_with (first
  | (with_reducible refine ld_mach (w.heap.size + 1) X0.out _ rfl rfl rfl ?_)
  | (go_at_call 89;go_must ((with_reducible refine hpop.out.mono ?_);rintro e w1 ⟨⟨A,c,A',c',rfl,p1,p2⟩,hb1⟩;have BB:Hid (Below w.heap.size w (w1.setCell ⟨w.heap.size + 1,2,none⟩ (.slice A' k c'))):=hid ((bnext B0.out hb1).setCell (p:=⟨w.heap.size + 1,2,none⟩) (by simp) _);have P1:=hid (own_cellBelow p1 (G:=w.heap.size + 1) (by have:=hWs.out;omega) 2 (.slice A' k c'));have P2:=hid (own_cellBelow p2 (G:=w.heap.size + 1) (by have:=hWs.out;omega) 2 (.slice A' k c'));have X1:=hid (X0.out.below hb1);have X2:Hid (Bk (w1.setCell ⟨w.heap.size + 1,2,none⟩ (.slice A' k c')) (w.heap.size + 1) 64 (mC ((i:Int) + 1) (fuel - 1) (.slice A' k c') r0 r1 r2 r3 (.slice oA on oc) false e0)):=hid (by simpa using X1.out.set 2 (.slice A' k c'));have R2:=hid ((R0.out.below hb1).far (p:=⟨w.heap.size + 1,2,none⟩) (by simp only;omega) (.slice A' k c'));have I2:=hid ((I0.out.below hb1).far (p:=⟨w.heap.size + 1,2,none⟩) (by simp only;omega) (.slice A' k c'));have M2:=hid (((HM.out.below B0.out).below hb1).setCell (HM.out.offNew (G:=w.heap.size + 1) (by omega)) 2 (.slice A' k c'));have z2:=X1.out.cell 2;have zf:=X1.out.frozen;have zl:=X1.out.lt;have zi:=I2.out.cell 0;simp only [List.getElem?_toArray,List.getElem?_cons_zero,List.getElem?_cons_succ] at z2 zi;clear p1 p2 hb1)))
 have hb2:Hid (w.heap.size + 1 + 1 + 1 < (w1.setCell ⟨w.heap.size + 1,2,none⟩ (.slice A' k c')).heap.size):=hid I2.out.lt
 generalize w1.setCell ⟨w.heap.size + 1,2,none⟩ (.slice A' k c')=wr at *
 have hWr:=hb2.out
 have hWz:=hWs.out
 try simp only [List.append_eq,List.cons_append,List.nil_append]
 obtain ⟨g,cur,rfl,hgB,hgk,hgc,-,hgs,hgt⟩:=own_pos P1.out (by omega)
 have hg0:Hid (∀ X,Below wr.heap.size wr X→X.cell? ⟨g,0,none⟩=some (.int .i64 top)):=hid (fun X hX=>by
  rw [HT.out,(hgk.below hX).cell 0,← Array.getElem?_toList]
  have hl:=HM.out.st.1
  simp at hl
  have h1:(cur.toList.take (1 * 1))[0]? = (((st.drop k).map (Value.int .i64)))[0]?:=by rw [hgt]
  rw [List.getElem?_take,if_pos (by omega)] at h1
  rw [h1,List.getElem?_map,List.getElem?_drop]
  simp [show k < st.length by omega])
 have hgc1:(1:Int)≤(c:Int):=by omega
 have hgB2:w.heap.size + 1 + 1 + 1 < g:=by have:=hWs.out;omega
 clear hgk hgs hgt
 have hBX:Hid (∀ {n:Nat} {u:Value} (X:World),TurnR wr.heap.size 3 n u wr X→wr.heap.size≤X.heap.size):=hid (fun X hX=>hX.1.size)
 refine wp_region_saysK 10 (TurnR wr.heap.size 3 on (.int .i64 top)) (TurnR.trans) wr (TurnR.of (Nat.le_refl _) (below_drew1 wr)) (by kernel_rfl) (by kernel_rfl) (by kernel_rfl) (by kernel_rfl) (by rfl) ?_
 simp only [List.take_succ_cons,List.take_zero,List.drop_succ_cons,List.drop_zero]
 refine walkK_new (noneV wr.heap.size 3) (by first | exact gs0 rfl | exact gs1 rfl rfl rfl) (fun v x y hb h=>noneV_turn v x y hb h) (fun u X hX hd=>⟨_,_,exec_none _ _ _ rfl,TurnR.of (hBX.out X hX) (below_alloc1 _ _),_,rfl,World.ownsRow_lit X #[] 0 (hBX.out X hX) (by decide) rfl⟩) ?_
 iterate 2
  refine wkN ?_
  refine walkK_is ?_ (by first | exact gs0 rfl | exact gs1 rfl rfl rfl) (fun _=>TurnR.refl _) (fun u X hX hd=>?_) ?_
  rotate_left
  ·have q1:=(X2.out.below hX.1).cell 7
   have q2:=hg0.out X hX.1
   simp only [List.getElem?_toArray,List.getElem?_cons_zero,List.getElem?_cons_succ] at q1
   try simp at hd
   go_simp
   try rfl
 refine wkN ?_
 refine walkK_new (listV wr.heap.size 3 on (ou.map (.int .i64))) (by first | exact gs0 rfl | exact gs1 rfl rfl rfl) (fun v x y hb h=>listV_turn v x y hb h) (fun u X hX hd=>?_) ?_
 ·simp at hd
  obtain ⟨⟨g,hg,ho⟩,h4⟩:=hd
  obtain ⟨v,w',hr,hb,hl⟩:=run_append_none (P:=Tryz.prog) X 49 49 wr.heap.size 3 i0 _ 8 Tryz.underlying49 hi0 hz0 hz1 hz2 rfl (hBX.out X hX) g ho _ _ _ _ (M2.out.ou.below hX.1) (ints_oneC _) (by unfold maxLen;omega) (by omega)
  exact ⟨v,w',exec_append _ _ _ _ _ _ rfl (by go_simp) (by go_simp) hr,TurnR.of (hBX.out X hX) hb,hl⟩
 iterate 3
  refine wkN ?_
  refine walkK_is ?_ (by first | exact gs0 rfl | exact gs1 rfl rfl rfl) (fun _=>TurnR.refl _) (fun u X hX hd=>?_) ?_
  rotate_left
  ·have q1:=(X2.out.below hX.1).cell 7
   have q2:=hg0.out X hX.1
   simp only [List.getElem?_toArray,List.getElem?_cons_zero,List.getElem?_cons_succ] at q1
   try simp at hd
   go_simp
   try rfl
 refine wkN ?_
 refine walkK_new (singV wr.heap.size 3 (.int .i64 top)) (by first | exact gs0 rfl | exact gs1 rfl rfl rfl) (fun v x y hb h=>singV_turn v x y hb h) (fun u X hX hd=>⟨_,_,exec_sing _ _ _ _ rfl (by (try simp at hd);go_simp;try exact hd),TurnR.of (hBX.out X hX) (below_alloc1 _ _),_,rfl,World.ownsRow_lit X #[.int .i64 top] 1 (hBX.out X hX) (by decide) rfl⟩) ?_
 refine wkN ?_
 refine walkK_new (moreV wr.heap.size 3 on (ou.map (.int .i64)) (.int .i64 top)) (by first | exact gs0 rfl | exact gs1 rfl rfl rfl) (fun v x y hb h=>moreV_turn v x y hb h) (fun u X hX hd=>?_) ?_
 ·simp at hd
  obtain ⟨⟨A,c,hA,ho,hc⟩,⟨g,hg,hs⟩,-⟩:=hd
  obtain ⟨v,w',hr,hb,hl⟩:=run_append_sing (P:=Tryz.prog) X 49 49 wr.heap.size 3 i0 _ 8 Tryz.underlying49 hi0 hz0 hz1 hz2 rfl (hBX.out X hX) A _ c _ ho hc _ g hs rfl (by unfold maxLen;omega) (by omega)
  exact ⟨v,w',exec_append _ _ _ _ _ _ rfl (by go_simp) (by go_simp) hr,hb,hl⟩
 refine wkN ?_
 refine walkK_is ?_ (by first | exact gs0 rfl | exact gs1 rfl rfl rfl) (fun _=>TurnR.refl _) (fun u X hX hd=>?_) ?_
 rotate_left
 ·have q1:=(X2.out.below hX.1).cell 7
  have q2:=hg0.out X hX.1
  simp only [List.getElem?_toArray,List.getElem?_cons_zero,List.getElem?_cons_succ] at q1
  try simp at hd
  go_simp
  try rfl
 refine wkN ?_
 intro u X hX hsay
 simp only [sayAll,isV] at hsay
 obtain ⟨⟨g0,v0,-⟩,v1,v2,⟨A3,c3,v3,-⟩,v4,v5,v6,⟨g1,v7,-⟩,⟨g2,c2,v8,ho2⟩,v9,-⟩:=hsay
 have XB:=hid (X2.out.below hX.1)
 have z3:=XB.out.cell 7
 have zg:=XB.out.frozen
 have zm:=XB.out.lt
 simp only [List.getElem?_toArray,List.getElem?_cons_zero,List.getElem?_cons_succ] at z3
 have X3:Hid (Bk (X.setCell ⟨w.heap.size + 1,7,none⟩ (.slice (some ⟨g2,0,none⟩) (on + 1) c2)) (w.heap.size + 1) 64 (mC ((i:Int) + 1) (fuel - 1) (.slice A' k c') r0 r1 r2 r3 (.slice (some ⟨g2,0,none⟩) (on + 1) c2) false e0)):=hid (by simpa using XB.out.set 7 (.slice (some ⟨g2,0,none⟩) (on + 1) c2))
 have R3:=hid ((R2.out.below hX.1).far (p:=⟨w.heap.size + 1,7,none⟩) (by simp) (.slice (some ⟨g2,0,none⟩) (on + 1) c2))
 have P3:=hid (own_cellBelow (own_below P2.out hX.1) (G:=w.heap.size + 1) (by omega) 7 (.slice (some ⟨g2,0,none⟩) (on + 1) c2))
 have Q3:=hid (own_cellBelow ho2 (G:=w.heap.size + 1) (by omega) 7 (.slice (some ⟨g2,0,none⟩) (on + 1) c2))
 have M3:=hid ((M2.out.below hX.1).setCell (HM.out.offNew (G:=w.heap.size + 1) (by omega)) 7 (.slice (some ⟨g2,0,none⟩) (on + 1) c2))
 have B3:=hid ((bnext BB.out hX.1).setCell (p:=⟨w.heap.size + 1,7,none⟩) (by simp) (.slice (some ⟨g2,0,none⟩) (on + 1) c2))
 simp only [putAll,Act.put,v0,v1,v2,v3,v4,v5,v6,v7,v8,v9,List.setIfInBounds_toArray,List.set_cons_succ,List.set_cons_zero]
 clear z2 zf zl zi ho2 v0 v1 v2 v3 v4 v5 v6 v7 v8 v9
 go_wp2_with (first
  | (with_reducible refine ld_mach (w.heap.size + 1) X3.out _ rfl rfl rfl ?_)
  | (with_reducible refine st_mach (w.heap.size + 1 + 1) R3.out rfl rfl _ _ rfl rfl rfl rfl ?_))
 exact bodyPost_ret (v:=.tuple #[.agg (mC ((i:Int) + 1) (fuel - 1) (.slice A' k c') r0 r1 r2 r3 (.slice (some ⟨g2,0,none⟩) (on + 1) c2) false e0),.slice bA bn bc]) (res2_mach rfl _ _ (w.heap.size + 1 + 1) _ rfl rfl (Bk.setRow R3.out _)) rfl
  ⟨_,_,_,_,_,_,_,_,_,rfl,MIn.setRow (⟨by have:=Sl.own' P3.out;simpa using this,by have:=Sl.own' Q3.out;simpa using this,M3.out.bk⟩) (⟨own_offA P3.out (by omega),own_offA Q3.out (by omega),(HM.out.offNew (by omega)).2.2⟩) _,below_row B3.out (by omega) _,fun G hG h=>⟨own_offA P3.out (by omega),own_offA Q3.out (by omega),h.2.2⟩⟩
end
end
section
open Go.RowKit
attribute [local go_sem] look findAt
attribute [local simp] depsOf isV Region.binds
theorem rtwo_any (op a b:Int) (h:7≤op∧op≤12) (w:World):Calls Tryz.prog 91 #[.int .i64 op,.int .i64 a,.int .i64 b] w fun e w'=>e=.returned (madeV op a b)∧w=w':=by
 rcases (show op=7∨op=8∨op=9∨op=10∨op=11∨op=12 by omega) with rfl | rfl | rfl | rfl | rfl | rfl
 iterate 3
  ·go_enter Tryz.func91,Tryz.ntmps91
   go_wp2
   go_ret2
   exact ⟨rfl,rfl⟩
 ·by_cases hb:b=0
  ·subst hb
   go_enter Tryz.func91,Tryz.ntmps91
   go_wp2
   go_ret2
   exact ⟨rfl,rfl⟩
  ·have hb':(b == 0)=false:=by simpa using hb
   have hm:Hid (madeV 10 a b=.tuple #[.int .i64 (wrap64 (a.tdiv b)),.int .i64 0]):=hid (by simp [madeV,twoN,hb])
   go_enter Tryz.func91,Tryz.ntmps91
   go_wp2
   go_ret2
   exact ⟨by rw [hm.out];rfl,rfl⟩
 ·by_cases hc:a < b
  ·have hm:Hid (madeV 11 a b=.tuple #[.int .i64 1,.int .i64 0]):=hid (by simp [madeV,twoN,hc])
   go_enter Tryz.func91,Tryz.ntmps91
   go_wp2
   go_ret2
   exact ⟨by rw [hm.out];rfl,rfl⟩
  ·have hm:Hid (madeV 11 a b=.tuple #[.int .i64 0,.int .i64 0]):=hid (by simp [madeV,twoN,hc])
   go_enter Tryz.func91,Tryz.ntmps91
   go_wp2
   go_ret2
   exact ⟨by rw [hm.out];rfl,rfl⟩
 ·by_cases hc:a=b
  ·have hm:Hid (madeV 12 a b=.tuple #[.int .i64 1,.int .i64 0]):=hid (by simp [madeV,twoN,hc])
   have hd:(a == b)=true:=by simpa using hc
   clear hc
   go_enter Tryz.func91,Tryz.ntmps91
   go_wp2
   go_ret2
   exact ⟨by rw [hm.out];rfl,rfl⟩
  ·have hm:Hid (madeV 12 a b=.tuple #[.int .i64 0,.int .i64 0]):=hid (by simp [madeV,twoN,hc])
   have hd:(a == b)=false:=by simpa using hc
   clear hc
   go_enter Tryz.func91,Tryz.ntmps91
   go_wp2
   go_ret2
   exact ⟨by rw [hm.out];rfl,rfl⟩
section
variable (ra:Option Addr) (nr rc:Nat) (wa:Option Addr) (nw wc:Nat) (aa:Option Addr) (na ac:Nat) (cf:Int) (ca:Option Addr) (nc cc:Nat)
variable (fuel:Int) (sA:Option Addr) (sn sc:Nat) (r0 r1 r2 r3:Int) (oA:Option Addr) (on oc:Nat) (e0:Int) (bA:Option Addr) (bn bc:Nat)
theorem rstep_nought (l:List Ins) (i:Nat) (k:Nat) (hk:k≤1000) (op a b:Int) (st ou:List Int) (own:Blks) (w:World) (hC:Inss w ca cc l) (hl:l.length=nc) (hi:i < nc) (hic:nc≤1000) (hx:insAt l i=⟨op,a,b⟩) (hM:MIn w st ou own sA (k + 2) sc oA on oc bA bn bc) (hf:fuel≠0) (hf2:0≤fuel∧fuel≤1000) (hop:7≤op∧op≤12) (ht:twoN op (st[k]?.getD 0) (st[k + 1]?.getD 0)=none) :
  Calls Tryz.prog 46 #[cmV ra nr rc wa nw wc aa na ac cf ca nc cc,.agg (mC (i:Int) fuel (.slice sA (k + 2:Nat) sc) r0 r1 r2 r3 (.slice oA on oc) false e0),.slice bA bn bc] w (RSPost ((i:Int) + 1) (fuel - 1) st r0 r1 r2 r3 [] true 12 own sA (k + 2) oA on bA bn w):=by
 obtain ⟨lo,hlo⟩:∃ x,x=st[k]?.getD 0:=⟨_,rfl⟩
 obtain ⟨up,hup⟩:∃ x,x=st[k + 1]?.getD 0:=⟨_,rfl⟩
 rw [← hlo,← hup] at ht
 have HLO:=hid hlo
 have HUP:=hid hup
 have hrt:Hid (∀ X,Calls Tryz.prog 91 #[.int .i64 op,.int .i64 lo,.int .i64 up] X fun e w'=>e=.returned (.tuple #[.int .i64 0,.int .i64 12])∧Below X.heap.size X w'):=hid (fun X=>(rtwo_any op lo up hop X).mono fun e w' ⟨he,hw⟩=>⟨by rw [he,madeV,ht],by rw [← hw];exact Below.refl _ _⟩)
 have q1:(op == 1)=false:=by simp;omega
 have q2:(op == 2)=false:=by simp;omega
 have q4:(op == 4)=false:=by simp;omega
 have q6:(op == 6)=false:=by simp;omega
 have q14:(op == 14)=false:=by simp;omega
 have q16:(op == 16)=false:=by simp;omega
 have q17:(op == 17)=false:=by simp;omega
 have q3:(op == 3)=false:=by simp;omega
 have q5:(op == 5)=false:=by simp;omega
 have q13:(op == 13)=false:=by simp;omega
 have q15:(op == 15)=false:=by simp;omega
 clear hop ht hlo hup
 have hov:=hid (fun sA W=>rover_bad ((i:Int) + 1) (fuel - 1) sA (k + 2) sc r0 r1 r2 r3 oA on oc false e0 12 (by decide) W)
 obtain ⟨cb,co,rfl,hcb,x0,x1,x2⟩:=hC.cellAt (j:=i) (by omega)
 rw [hx] at x0 x1 x2
 simp only at x0 x1 x2
 have hcc:=hC.2.1
 rw [hl] at hcc
 have d1:(i:Int) < (nc:Int):=by omega
 have d2:(i:Int) < (cc:Int):=by omega
 have f0:(fuel == 0)=false:=by simpa using hf
 have bb:=sB_below #[.slice ra nr rc,.slice wa nw wc,.slice aa na ac,.int .i64 cf,.slice (some ⟨cb,co,none⟩) nc cc] (mC (i:Int) (fuel - 1) (.slice sA (k + 2:Nat) sc) r0 r1 r2 r3 (.slice oA on oc) false e0) w
 have y0:=(bb.cell (p:=⟨cb,co + i * 3,none⟩) hcb).trans x0
 have y1:=(bb.cell (p:=⟨cb,co + i * 3 + 1,none⟩) hcb).trans x1
 have y2:=(bb.cell (p:=⟨cb,co + i * 3 + 2,none⟩) hcb).trans x2
 have HM:=hid hM
 clear hC hx hl bb hM
 obtain ⟨i0,hi0,hz0,hz1,hz2⟩:=infoInt
 obtain ⟨sb,so,rfl,-,-⟩:=HM.out.st.2.2.2 (by omega)
 have B0:Hid (Below w.heap.size w ((sB #[.slice ra nr rc,.slice wa nw wc,.slice aa na ac,.int .i64 cf,.slice (some ⟨cb,co,none⟩) nc cc] (mC ((i:Int) + 1) (fuel - 1) (.slice (some ⟨sb,so,none⟩) (k + 2:Nat) sc) r0 r1 r2 r3 (.slice oA on oc) false e0) w).alloc (.cells #[.int .i64 op,.int .i64 a,.int .i64 b] 72))):=hid (bnext (sB_below _ _ _) (below_alloc1 _ _))
 have X0:Hid (Bk ((sB #[.slice ra nr rc,.slice wa nw wc,.slice aa na ac,.int .i64 cf,.slice (some ⟨cb,co,none⟩) nc cc] (mC ((i:Int) + 1) (fuel - 1) (.slice (some ⟨sb,so,none⟩) (k + 2:Nat) sc) r0 r1 r2 r3 (.slice oA on oc) false e0) w).alloc (.cells #[.int .i64 op,.int .i64 a,.int .i64 b] 72)) (w.heap.size + 1) 64 (mC ((i:Int) + 1) (fuel - 1) (.slice (some ⟨sb,so,none⟩) (k + 2:Nat) sc) r0 r1 r2 r3 (.slice oA on oc) false e0)):=hid ((sB_box _ _ _).alloc _)
 have R0:Hid (Bk ((sB #[.slice ra nr rc,.slice wa nw wc,.slice aa na ac,.int .i64 cf,.slice (some ⟨cb,co,none⟩) nc cc] (mC ((i:Int) + 1) (fuel - 1) (.slice (some ⟨sb,so,none⟩) (k + 2:Nat) sc) r0 r1 r2 r3 (.slice oA on oc) false e0) w).alloc (.cells #[.int .i64 op,.int .i64 a,.int .i64 b] 72)) (w.heap.size + 1 + 1) 64 mZ):=hid ((sB_res _ _ _).alloc _)
 have I0:Hid (Bk ((sB #[.slice ra nr rc,.slice wa nw wc,.slice aa na ac,.int .i64 cf,.slice (some ⟨cb,co,none⟩) nc cc] (mC ((i:Int) + 1) (fuel - 1) (.slice (some ⟨sb,so,none⟩) (k + 2:Nat) sc) r0 r1 r2 r3 (.slice oA on oc) false e0) w).alloc (.cells #[.int .i64 op,.int .i64 a,.int .i64 b] 72)) (w.heap.size + 1 + 1 + 1) 72 #[.int .i64 op,.int .i64 a,.int .i64 b]):=hid (rW_ins _ _ _ _)
 have hpop:=hid (rpop2 ((i:Int) + 1) (fuel - 1) st r0 r1 r2 r3 false e0 (some ⟨sb,so,none⟩) sc oA on oc k ((sB #[.slice ra nr rc,.slice wa nw wc,.slice aa na ac,.int .i64 cf,.slice (some ⟨cb,co,none⟩) nc cc] (mC ((i:Int) + 1) (fuel - 1) (.slice (some ⟨sb,so,none⟩) (k + 2:Nat) sc) r0 r1 r2 r3 (.slice oA on oc) false e0) w).alloc (.cells #[.int .i64 op,.int .i64 a,.int .i64 b] 72)) (HM.out.st.below B0.out) hk)
 have hWs:Hid (w.heap.size + 1 + 1 + 1 < ((sB #[.slice ra nr rc,.slice wa nw wc,.slice aa na ac,.int .i64 cf,.slice (some ⟨cb,co,none⟩) nc cc] (mC ((i:Int) + 1) (fuel - 1) (.slice (some ⟨sb,so,none⟩) (k + 2:Nat) sc) r0 r1 r2 r3 (.slice oA on oc) false e0) w).alloc (.cells #[.int .i64 op,.int .i64 a,.int .i64 b] 72)).heap.size):=hid I0.out.lt
 go_enter Tryz.func46,Tryz.ntmps46
 go_wp2_with (first
  | (with_reducible refine ld_mach (w.heap.size + 1) X0.out _ rfl rfl rfl ?_)
  | (go_at_call 89;go_must ((with_reducible refine hpop.out.mono ?_);rintro e w1 ⟨⟨A,c,A',c',rfl,p1,p2⟩,hb1⟩;have BB:=hid (bnext B0.out hb1);have P1:=hid p1;have P2:=hid p2;have X1:=hid (X0.out.below hb1);have R1:=hid (R0.out.below hb1);have I1:=hid (I0.out.below hb1);have M1:=hid ((HM.out.below B0.out).below hb1);clear p1 p2 hb1)))
 have hb2:=I1.out.lt
 have hWz:=hWs.out
 try simp only [List.append_eq,List.cons_append,List.nil_append]
 obtain ⟨g,cur,rfl,hgB,hgk,hgc,-,hgs,hgt⟩:=own_pos P1.out (by omega)
 have hg0:Hid (∀ X,Below w1.heap.size w1 X→X.cell? ⟨g,0,none⟩=some (.int .i64 lo)∧X.cell? ⟨g,1,none⟩=some (.int .i64 up)):=hid (fun X hX=>by
  have hl:=HM.out.st.1
  simp at hl
  have key:∀ j,j < 2→X.cell? ⟨g,j,none⟩=some (.int .i64 (st[k + j]?.getD 0)):=fun j hj=>by
   rw [(hgk.below hX).cell j,← Array.getElem?_toList]
   have h1:(cur.toList.take (2 * 1))[j]? = (((st.drop k).map (Value.int .i64)))[j]?:=by rw [hgt]
   rw [List.getElem?_take,if_pos (by omega)] at h1
   rw [h1,List.getElem?_map,List.getElem?_drop]
   simp [show k + j < st.length by omega]
  exact ⟨by rw [HLO.out];exact key 0 (by omega),by rw [HUP.out];exact key 1 (by omega)⟩)
 have hgc1:(2:Int)≤(c:Int):=by omega
 have hgB2:w.heap.size + 1 + 1 + 1 < g:=by omega
 clear hgk hgs hgt
 refine wp_region_saysK 13 (fun x y=>Below x.heap.size x y) (fun _ _ _ h k=>bnext h k) w1 (below_drew1 w1) (by kernel_rfl) (by kernel_rfl) (by kernel_rfl) (by kernel_rfl) (by rfl) ?_
 simp only [List.take_succ_cons,List.take_zero,List.drop_succ_cons,List.drop_zero]
 iterate 8
  refine wkI ?_ (fun u X hX hd=>?_) ?_
  rotate_left
  ·have q0:=(I1.out.below hX).cell 0
   obtain ⟨z1,z2⟩:=hg0.out X hX
   simp only [List.getElem?_toArray,List.getElem?_cons_zero] at q0
   try simp at hd
   go_simp
   try rfl
 refine walkK_call (isV (.tuple #[.int .i64 0,.int .i64 12])) 91 ?_ (by first | exact gs0 rfl | exact gs1 rfl rfl rfl) (fun _ _ _ _ h=>h) (fun u X hX hd=>?_) (fun X hX=>?_) ?_
 rotate_left
 ·have q0:=(I1.out.below hX).cell 0
  obtain ⟨z1,z2⟩:=hg0.out X hX
  simp only [List.getElem?_toArray,List.getElem?_cons_zero] at q0
  try simp at hd
  go_simp
  try rfl
 ·exact (hrt.out X).mono fun e X' ⟨he,hb⟩=>⟨_,he,hb,rfl⟩
 refine wkN ?_
 iterate 4
  refine wkI ?_ (fun u X hX hd=>?_) ?_
  rotate_left
  ·have q0:=(I1.out.below hX).cell 0
   obtain ⟨z1,z2⟩:=hg0.out X hX
   simp only [List.getElem?_toArray,List.getElem?_cons_zero] at q0
   try simp at hd
   go_simp
   try rfl
 intro u X hX hsay
 simp only [sayAll,isV] at hsay
 obtain ⟨v0,v1,v2,v3,v4,v5,v6,v7,v8,v9,v10,v11,v12,-⟩:=hsay
 have X2:=hid (X1.out.below hX)
 have R2:=hid (R1.out.below hX)
 have P3:=hid (own_below P2.out hX)
 have M2:=hid (M1.out.below hX)
 have B2:=hid (bnext BB.out hX)
 have hXs:=hX.size
 simp only [putAll,Act.put,v0,v1,v2,v3,v4,v5,v6,v7,v8,v9,v10,v11,v12,List.setIfInBounds_toArray,List.set_cons_succ,List.set_cons_zero]
 clear hX v0 v1 v2 v3 v4 v5 v6 v7 v8 v9 v10 v11 v12
 go_wp2_with (first
  | (with_reducible refine ld_mach (w.heap.size + 1) X2.out _ rfl rfl rfl ?_)
  | (go_at_call 87;go_must ((with_reducible refine (hov.out _ _).mono ?_);rintro e w4 ⟨rfl,hb4⟩;have R4:=hid (R2.out.below hb4);have B4:=hid (bnext B2.out hb4);have M4:=hid (M2.out.below hb4);clear hb4))
  | (with_reducible refine st_mach (w.heap.size + 1 + 1) R4.out rfl rfl _ _ rfl rfl rfl rfl ?_))
 exact bodyPost_ret (v:=.tuple #[.agg (mC ((i:Int) + 1) (fuel - 1) (.slice (some ⟨sb,so,none⟩) (k + 2:Nat) sc) r0 r1 r2 r3 (.slice none 0 0) true 12),.slice bA bn bc]) (res2_mach rfl _ _ (w.heap.size + 1 + 1) _ rfl rfl (Bk.setRow R4.out _)) rfl
  ⟨_,_,_,_,_,_,_,_,_,rfl,MIn.setRow (⟨M4.out.st,⟨rfl,Nat.le_refl _,fun _=>⟨rfl,rfl⟩,fun h=>absurd h (by omega)⟩,M4.out.bk⟩) (⟨(HM.out.offNew (by omega)).1,fun h=>absurd h (by omega),(HM.out.offNew (by omega)).2.2⟩) _,below_row B4.out (by omega) _,fun G hG h=>⟨h.1,fun h=>absurd h (by omega),h.2.2⟩⟩
theorem rstep_two (l:List Ins) (i:Nat) (k:Nat) (hk:k≤1000) (op a b:Int) (st ou:List Int) (own:Blks) (w:World) (hC:Inss w ca cc l) (hl:l.length=nc) (hi:i < nc) (hic:nc≤1000) (hx:insAt l i=⟨op,a,b⟩) (hM:MIn w st ou own sA (k + 2) sc oA on oc bA bn bc) (hf:fuel≠0) (hf2:0≤fuel∧fuel≤1000) (hop:7≤op∧op≤12) (n:Int) (ht:twoN op (st[k]?.getD 0) (st[k + 1]?.getD 0)=some n) :
  Calls Tryz.prog 46 #[cmV ra nr rc wa nw wc aa na ac cf ca nc cc,.agg (mC (i:Int) fuel (.slice sA (k + 2:Nat) sc) r0 r1 r2 r3 (.slice oA on oc) false e0),.slice bA bn bc] w (RSPost ((i:Int) + 1) (fuel - 1) (st.take k ++ [n]) r0 r1 r2 r3 ou false e0 own sA (k + 2) oA on bA bn w):=by
 obtain ⟨lo,hlo⟩:∃ x,x=st[k]?.getD 0:=⟨_,rfl⟩
 obtain ⟨up,hup⟩:∃ x,x=st[k + 1]?.getD 0:=⟨_,rfl⟩
 rw [← hlo,← hup] at ht
 have HLO:=hid hlo
 have HUP:=hid hup
 have hrt:Hid (∀ X,Calls Tryz.prog 91 #[.int .i64 op,.int .i64 lo,.int .i64 up] X fun e w'=>e=.returned (.tuple #[.int .i64 n,.int .i64 0])∧Below X.heap.size X w'):=hid (fun X=>(rtwo_any op lo up hop X).mono fun e w' ⟨he,hw⟩=>⟨by rw [he,madeV,ht],by rw [← hw];exact Below.refl _ _⟩)
 have q1:(op == 1)=false:=by simp;omega
 have q2:(op == 2)=false:=by simp;omega
 have q4:(op == 4)=false:=by simp;omega
 have q6:(op == 6)=false:=by simp;omega
 have q14:(op == 14)=false:=by simp;omega
 have q16:(op == 16)=false:=by simp;omega
 have q17:(op == 17)=false:=by simp;omega
 have q3:(op == 3)=false:=by simp;omega
 have q5:(op == 5)=false:=by simp;omega
 have q13:(op == 13)=false:=by simp;omega
 have q15:(op == 15)=false:=by simp;omega
 clear hop ht hlo hup
 obtain ⟨cb,co,rfl,hcb,x0,x1,x2⟩:=hC.cellAt (j:=i) (by omega)
 rw [hx] at x0 x1 x2
 simp only at x0 x1 x2
 have hcc:=hC.2.1
 rw [hl] at hcc
 have d1:(i:Int) < (nc:Int):=by omega
 have d2:(i:Int) < (cc:Int):=by omega
 have f0:(fuel == 0)=false:=by simpa using hf
 have bb:=sB_below #[.slice ra nr rc,.slice wa nw wc,.slice aa na ac,.int .i64 cf,.slice (some ⟨cb,co,none⟩) nc cc] (mC (i:Int) (fuel - 1) (.slice sA (k + 2:Nat) sc) r0 r1 r2 r3 (.slice oA on oc) false e0) w
 have y0:=(bb.cell (p:=⟨cb,co + i * 3,none⟩) hcb).trans x0
 have y1:=(bb.cell (p:=⟨cb,co + i * 3 + 1,none⟩) hcb).trans x1
 have y2:=(bb.cell (p:=⟨cb,co + i * 3 + 2,none⟩) hcb).trans x2
 have HM:=hid hM
 clear hC hx hl bb hM
 obtain ⟨i0,hi0,hz0,hz1,hz2⟩:=infoInt
 obtain ⟨sb,so,rfl,-,-⟩:=HM.out.st.2.2.2 (by omega)
 have B0:Hid (Below w.heap.size w ((sB #[.slice ra nr rc,.slice wa nw wc,.slice aa na ac,.int .i64 cf,.slice (some ⟨cb,co,none⟩) nc cc] (mC ((i:Int) + 1) (fuel - 1) (.slice (some ⟨sb,so,none⟩) (k + 2:Nat) sc) r0 r1 r2 r3 (.slice oA on oc) false e0) w).alloc (.cells #[.int .i64 op,.int .i64 a,.int .i64 b] 72))):=hid (bnext (sB_below _ _ _) (below_alloc1 _ _))
 have X0:Hid (Bk ((sB #[.slice ra nr rc,.slice wa nw wc,.slice aa na ac,.int .i64 cf,.slice (some ⟨cb,co,none⟩) nc cc] (mC ((i:Int) + 1) (fuel - 1) (.slice (some ⟨sb,so,none⟩) (k + 2:Nat) sc) r0 r1 r2 r3 (.slice oA on oc) false e0) w).alloc (.cells #[.int .i64 op,.int .i64 a,.int .i64 b] 72)) (w.heap.size + 1) 64 (mC ((i:Int) + 1) (fuel - 1) (.slice (some ⟨sb,so,none⟩) (k + 2:Nat) sc) r0 r1 r2 r3 (.slice oA on oc) false e0)):=hid ((sB_box _ _ _).alloc _)
 have R0:Hid (Bk ((sB #[.slice ra nr rc,.slice wa nw wc,.slice aa na ac,.int .i64 cf,.slice (some ⟨cb,co,none⟩) nc cc] (mC ((i:Int) + 1) (fuel - 1) (.slice (some ⟨sb,so,none⟩) (k + 2:Nat) sc) r0 r1 r2 r3 (.slice oA on oc) false e0) w).alloc (.cells #[.int .i64 op,.int .i64 a,.int .i64 b] 72)) (w.heap.size + 1 + 1) 64 mZ):=hid ((sB_res _ _ _).alloc _)
 have I0:Hid (Bk ((sB #[.slice ra nr rc,.slice wa nw wc,.slice aa na ac,.int .i64 cf,.slice (some ⟨cb,co,none⟩) nc cc] (mC ((i:Int) + 1) (fuel - 1) (.slice (some ⟨sb,so,none⟩) (k + 2:Nat) sc) r0 r1 r2 r3 (.slice oA on oc) false e0) w).alloc (.cells #[.int .i64 op,.int .i64 a,.int .i64 b] 72)) (w.heap.size + 1 + 1 + 1) 72 #[.int .i64 op,.int .i64 a,.int .i64 b]):=hid (rW_ins _ _ _ _)
 have hpop:=hid (rpop2 ((i:Int) + 1) (fuel - 1) st r0 r1 r2 r3 false e0 (some ⟨sb,so,none⟩) sc oA on oc k ((sB #[.slice ra nr rc,.slice wa nw wc,.slice aa na ac,.int .i64 cf,.slice (some ⟨cb,co,none⟩) nc cc] (mC ((i:Int) + 1) (fuel - 1) (.slice (some ⟨sb,so,none⟩) (k + 2:Nat) sc) r0 r1 r2 r3 (.slice oA on oc) false e0) w).alloc (.cells #[.int .i64 op,.int .i64 a,.int .i64 b] 72)) (HM.out.st.below B0.out) hk)
 have hWs:Hid (w.heap.size + 1 + 1 + 1 < ((sB #[.slice ra nr rc,.slice wa nw wc,.slice aa na ac,.int .i64 cf,.slice (some ⟨cb,co,none⟩) nc cc] (mC ((i:Int) + 1) (fuel - 1) (.slice (some ⟨sb,so,none⟩) (k + 2:Nat) sc) r0 r1 r2 r3 (.slice oA on oc) false e0) w).alloc (.cells #[.int .i64 op,.int .i64 a,.int .i64 b] 72)).heap.size):=hid I0.out.lt
 go_enter Tryz.func46,Tryz.ntmps46
 go_wp2_with (first
  | (with_reducible refine ld_mach (w.heap.size + 1) X0.out _ rfl rfl rfl ?_)
  | (go_at_call 89;go_must ((with_reducible refine hpop.out.mono ?_);rintro e w1 ⟨⟨A,c,A',c',rfl,p1,p2⟩,hb1⟩;have BB:=hid (bnext B0.out hb1);have BWW:=hid hb1.size;have P1:=hid p1;have P2:=hid p2;have X1:=hid (X0.out.below hb1);have R1:=hid (R0.out.below hb1);have I1:=hid (I0.out.below hb1);have M1:=hid ((HM.out.below B0.out).below hb1);clear p1 p2 hb1)))
 have hb2:=I1.out.lt
 have hWz:=hWs.out
 try simp only [List.append_eq,List.cons_append,List.nil_append]
 obtain ⟨g,cur,rfl,hgB,hgk,hgc,-,hgs,hgt⟩:=own_pos P1.out (by omega)
 have hg0:Hid (∀ X,Below w1.heap.size w1 X→X.cell? ⟨g,0,none⟩=some (.int .i64 lo)∧X.cell? ⟨g,1,none⟩=some (.int .i64 up)):=hid (fun X hX=>by
  have hl:=HM.out.st.1
  simp at hl
  have key:∀ j,j < 2→X.cell? ⟨g,j,none⟩=some (.int .i64 (st[k + j]?.getD 0)):=fun j hj=>by
   rw [(hgk.below hX).cell j,← Array.getElem?_toList]
   have h1:(cur.toList.take (2 * 1))[j]? = (((st.drop k).map (Value.int .i64)))[j]?:=by rw [hgt]
   rw [List.getElem?_take,if_pos (by omega)] at h1
   rw [h1,List.getElem?_map,List.getElem?_drop]
   simp [show k + j < st.length by omega]
  exact ⟨by rw [HLO.out];exact key 0 (by omega),by rw [HUP.out];exact key 1 (by omega)⟩)
 have hgc1:(2:Int)≤(c:Int):=by omega
 have hgB2:w.heap.size + 1 + 1 + 1 < g:=by omega
 clear hgk hgs hgt
 refine wp_region_saysK 13 (fun x y=>Below x.heap.size x y) (fun _ _ _ h k=>bnext h k) w1 (below_drew1 w1) (by kernel_rfl) (by kernel_rfl) (by kernel_rfl) (by kernel_rfl) (by rfl) ?_
 simp only [List.take_succ_cons,List.take_zero,List.drop_succ_cons,List.drop_zero]
 iterate 8
  refine wkI ?_ (fun u X hX hd=>?_) ?_
  rotate_left
  ·have q0:=(I1.out.below hX).cell 0
   obtain ⟨z1,z2⟩:=hg0.out X hX
   simp only [List.getElem?_toArray,List.getElem?_cons_zero] at q0
   try simp at hd
   go_simp
   try rfl
 refine walkK_call (isV (.tuple #[.int .i64 n,.int .i64 0])) 91 ?_ (by first | exact gs0 rfl | exact gs1 rfl rfl rfl) (fun _ _ _ _ h=>h) (fun u X hX hd=>?_) (fun X hX=>?_) ?_
 rotate_left
 ·have q0:=(I1.out.below hX).cell 0
  obtain ⟨z1,z2⟩:=hg0.out X hX
  simp only [List.getElem?_toArray,List.getElem?_cons_zero] at q0
  try simp at hd
  go_simp
  try rfl
 ·exact (hrt.out X).mono fun e X' ⟨he,hb⟩=>⟨_,he,hb,rfl⟩
 refine wkN ?_
 iterate 4
  refine wkI ?_ (fun u X hX hd=>?_) ?_
  rotate_left
  ·have q0:=(I1.out.below hX).cell 0
   obtain ⟨z1,z2⟩:=hg0.out X hX
   simp only [List.getElem?_toArray,List.getElem?_cons_zero] at q0
   try simp at hd
   go_simp
   try rfl
 intro u X hX hsay
 simp only [sayAll,isV] at hsay
 obtain ⟨v0,v1,v2,v3,v4,v5,v6,v7,v8,v9,v10,v11,v12,-⟩:=hsay
 have X2:=hid (X1.out.below hX)
 have R2:=hid (R1.out.below hX)
 have P3:=hid (own_below P2.out hX)
 have M2:=hid (M1.out.below hX)
 have B2:=hid (bnext BB.out hX)
 have hXs:=hX.size
 simp only [putAll,Act.put,v0,v1,v2,v3,v4,v5,v6,v7,v8,v9,v10,v11,v12,List.setIfInBounds_toArray,List.set_cons_succ,List.set_cons_zero]
 clear hX v0 v1 v2 v3 v4 v5 v6 v7 v8 v9 v10 v11 v12
 have BW:Hid (((sB #[.slice ra nr rc,.slice wa nw wc,.slice aa na ac,.int .i64 cf,.slice (some ⟨cb,co,none⟩) nc cc] (mC ((i:Int) + 1) (fuel - 1) (.slice (some ⟨sb,so,none⟩) (k + 2:Nat) sc) r0 r1 r2 r3 (.slice oA on oc) false e0) w).alloc (.cells #[.int .i64 op,.int .i64 a,.int .i64 b] 72)).heap.size≤X.heap.size):=hid (by have:=BB.out.size;have:=hgB;have:=P2.out;have:=hXs;have:=hb2;exact Nat.le_trans BWW.out hXs)
 go_wp2_with (first
  | (with_reducible refine ld_mach (w.heap.size + 1) X5.out _ rfl rfl rfl ?_)
  | (at_builtin;go_must (refine append_rowH rfl (.tmp 64) (.tmp 66) _ rfl ((sB #[.slice ra nr rc,.slice wa nw wc,.slice aa na ac,.int .i64 cf,.slice (some ⟨cb,co,none⟩) nc cc] (mC ((i:Int) + 1) (fuel - 1) (.slice (some ⟨sb,so,none⟩) (k + 2:Nat) sc) r0 r1 r2 r3 (.slice oA on oc) false e0) w).alloc (.cells #[.int .i64 op,.int .i64 a,.int .i64 b] 72)).heap.size 3 i0 _ 1 8 Tryz.underlying49 hi0 hz0 hz1 hz2 rfl (by decide) (.slice A' k c') k ((st.take k).map (.int .i64)) rfl (own_below P3.out (below_alloc1 _ _)) X.heap.size #[.int .i64 n] rfl (Bk.new _ _ _) rfl rfl (by unfold maxLen;omega) (by omega) (Nat.le_trans BW.out (by simp)) ?_;intro g2 cap w5 ho2 hg2 hl2;have hro:∀ G,G≤w.heap.size + 1 + 1→some G≠(Value.slice A' k c').ownBlock:=(fun G hG e=>by have:=own_ge P3.out e.symm;omega);have X4:=hid ((X2.out.alloc (.cells #[.int .i64 n] 3)).grown hg2 (hro _ (by omega)));have R4:=hid ((R2.out.alloc (.cells #[.int .i64 n] 3)).grown hg2 (hro _ (by omega)));have B4:Hid (Below w.heap.size w w5):=hid ((bnext B2.out (below_alloc1 _ _)).grown hg2 (Nat.le_trans B2.out.size (by simp)) (fun k hk=>by have:=own_ge P3.out hk;omega));have M4:Hid (MIn w5 st ou own (some ⟨sb,so,none⟩) (k + 2) sc oA on oc bA bn bc):=hid (HM.out.below B4.out);have Q4:=hid ho2;have y2:=X4.out.cell 2;have yf:=X4.out.frozen;have yl:=X4.out.lt;simp only [List.getElem?_toArray,List.getElem?_cons_zero,List.getElem?_cons_succ] at y2;have X5:Hid (Bk (w5.setCell ⟨w.heap.size + 1,2,none⟩ (.slice (some ⟨g2,0,none⟩) (k + 1) cap)) (w.heap.size + 1) 64 (mC ((i:Int) + 1) (fuel - 1) (.slice (some ⟨g2,0,none⟩) (k + 1) cap) r0 r1 r2 r3 (.slice oA on oc) false e0)):=hid (by simpa using X4.out.set 2 (.slice (some ⟨g2,0,none⟩) (k + 1) cap));have R5:=hid (R4.out.far (p:=⟨w.heap.size + 1,2,none⟩) (by simp only;omega) (.slice (some ⟨g2,0,none⟩) (k + 1) cap));clear ho2 hg2 hl2 hro))
  | (with_reducible refine st_mach (w.heap.size + 1 + 1) R5.out rfl rfl _ _ rfl rfl rfl rfl ?_))
 have P5:=hid (own_cellBelow Q4.out (G:=w.heap.size + 1) (by omega) 2 (.slice (some ⟨g2,0,none⟩) (k + 1) cap))
 have M5:=hid (M4.out.setCell (HM.out.offNew (G:=w.heap.size + 1) (by omega)) 2 (.slice (some ⟨g2,0,none⟩) (k + 1) cap))
 exact bodyPost_ret (v:=.tuple #[.agg (mC ((i:Int) + 1) (fuel - 1) (.slice (some ⟨g2,0,none⟩) (k + 1) cap) r0 r1 r2 r3 (.slice oA on oc) false e0),.slice bA bn bc]) (res2_mach rfl _ _ (w.heap.size + 1 + 1) _ rfl rfl (Bk.setRow R5.out _)) rfl
  ⟨_,_,_,_,_,_,_,_,_,rfl,MIn.setRow (⟨by have:=Sl.own' P5.out;simpa using this,M5.out.ou,M5.out.bk⟩) (⟨own_offA P5.out (by omega),(HM.out.offNew (by omega)).2⟩) _,below_row (B4.out.setCell (p:=⟨w.heap.size + 1,2,none⟩) (by simp) _) (by omega) _,fun G hG h=>⟨own_offA P5.out (by omega),h.2⟩⟩
end
end
section
open Go.RowKit
attribute [local go_sem] look findAt
attribute [local simp] depsOf isV Region.binds
abbrev rC (seq told:Int) (S:Value):Array Value:=#[.int .i64 seq,.int .i64 told,S]
theorem infoRs:(Tryz.prog.info? 51).map (·.size)=some 3:=by kernel_rfl
section
variable {ops:Array Oper} {rest:List Oper} {o:Oper} {a:Act} {w:World} {Q:Exit→Act→World→Prop}
theorem st_rs (g:Nat) {seq told:Int} {S:Value} {seq' told':Int} {S':Value} (hk:Bk w g 51 (rC seq' told' S'))
  (hS:S.oneCell'=true) (x y:Operand) (hgd:o.guard=none) (ho:o.op=.store 51 x y) (hx:a.eval x=.pointer (some ⟨g,0,none⟩)) (hy:a.eval y=.agg (rC seq told S))
  (h:wpList Tryz.prog ops Q rest (a.put o.dst undef) (w.setRow g (rC seq told S))):wpList Tryz.prog ops Q (o :: rest) a w:=
 wpList_store_row hgd _ x y ho g _ hx hy _ _ hk infoRs rfl (by simp [Value.oneCell'];exact hS) h
end
theorem res_rs {fn:Func} {p:Tmp} (hf:fn.results = #[.cell p 51]) (tmps:Array Value) (w:World) (g:Nat) {seq told:Int} {S:Value}
  (hp:tmps.getD p undef=.pointer (some ⟨g,0,none⟩)) (hk:Bk w g 51 (rC seq told S)):(results fn tmps).run Tryz.prog w=.ok (.agg (rC seq told S)) w:=
 results_cell_row hf tmps w g _ _ (0,0) _ hp hk Tryz.underlying51 rfl infoRs
abbrev rsZ:Array Value:=rC 0 0 (.slice none 0 0)
abbrev tW (cs:Array Value) (w:World):World:=(w.alloc (.cells cs 64)).alloc (.cells rsZ 51)
theorem tW_is (cs:Array Value) (w:World):Below w.heap.size w (tW cs w)∧Bk (tW cs w) w.heap.size 64 cs∧Bk (tW cs w) (w.heap.size + 1) 51 rsZ:=by
 refine ⟨bnext (below_alloc1 _ _) (below_alloc1 _ _),(Bk.new w _ _).alloc _,?_⟩
 have:=Bk.new (w.alloc (.cells cs 64)) 51 rsZ
 rwa [World.size_alloc] at this
section
variable (seq pc fuel:Int) (sA:Option Addr) (sn sc:Nat) (r0 r1 r2 r3:Int) (oA:Option Addr) (on oc:Nat) (ov:Bool) (e0:Int)
theorem rtells_any (w:World) :
  Calls Tryz.prog 51 #[.int .i64 seq,.agg (mC pc fuel (.slice sA sn sc) r0 r1 r2 r3 (.slice oA on oc) ov e0)] w fun e w'=>e=.returned (.agg (rC seq e0 (.slice oA on oc)))∧Below w.heap.size w w':=by
 obtain ⟨t1,t2,t3⟩:=tW_is (mC pc fuel (.slice sA sn sc) r0 r1 r2 r3 (.slice oA on oc) ov e0) w
 have B0:=hid t1
 have R0:=hid t3
 clear t1 t2 t3
 go_enter Tryz.func51,Tryz.ntmps51
 go_wp2_with (with_reducible refine st_rs (w.heap.size + 1) R0.out rfl _ _ rfl rfl rfl rfl ?_)
 exact bodyPost_ret (v:=.agg (rC seq e0 (.slice oA on oc))) (res_rs rfl _ _ (w.heap.size + 1) rfl (Bk.setRow R0.out _)) rfl ⟨rfl,below_row B0.out (by omega) _⟩
end
abbrev rs2 (cs cs':Array Value) (w:World):World:=(w.alloc (.cells cs 51)).alloc (.cells cs' 51)
theorem rs2_box (cs cs':Array Value) (w:World):Bk (rs2 cs cs' w) w.heap.size 51 cs∧Bk (rs2 cs cs' w) (w.heap.size + 1) 51 cs'∧Below w.heap.size w (rs2 cs cs' w):=by
 refine ⟨(Bk.new w _ _).alloc _,?_,bnext (below_alloc1 _ _) (below_alloc1 _ _)⟩
 have:=Bk.new (w.alloc (.cells cs 51)) 51 cs'
 rwa [World.size_alloc] at this
theorem rsameR_yes (seq told:Int) (ou:List Int) (A A':Option Addr) (n c c':Nat) (w:World) (h:Sl w 1 A n c (ou.map (.int .i64))) (h':Sl w 1 A' n c' (ou.map (.int .i64))) (hn:n≤1000000) :
  Calls Tryz.prog 19 #[.agg (rC seq told (.slice A n c)),.agg (rC seq told (.slice A' n c'))] w fun e w'=>e=.returned (.bool true)∧Below w.heap.size w w':=by
 have q1:=h.2.1
 have q2:=h'.2.1
 have HS:=hid h
 have HS':=hid h'
 obtain ⟨x1,x2,x3⟩:=rs2_box (rC seq told (.slice A n c)) (rC seq told (.slice A' n c')) w
 have X:=hid x1
 have Y:=hid x2
 have B0:=hid x3
 clear x1 x2 x3 h h'
 go_enter Tryz.func19,Tryz.ntmps19
 go_wp2
 go_loopw [5] (fun cc wr=>∃ k:Nat,k≤n∧cc=.int .i64 k∧Hid (Below w.heap.size w wr)∧Hid (Bk wr w.heap.size 51 (rC seq told (.slice A n c)))∧Hid (Bk wr (w.heap.size + 1) 51 (rC seq told (.slice A' n c')))) (fun cc _=>n - (intOf cc).toNat)
 case atStart=>exact ⟨0,Nat.zero_le _,rfl,B0,X,Y⟩
 case round=>
  obtain ⟨k,hk,rfl,HB,HX,HY⟩:=hrel
  have c0:=HX.out.cell 2
  have c1:=HY.out.cell 2
  have l1:=HY.out.lt
  simp only [List.getElem?_toArray,List.getElem?_cons_zero,List.getElem?_cons_succ] at c0 c1
  by_cases hlt:k < n
  ·have d1:(k:Int) < (n:Int):=by omega
   have d2:(k:Int) < (c:Int):=by omega
   have d3:(k:Int) < (c':Int):=by omega
   obtain ⟨b,off,rfl,hb,hv⟩:=(HS.out.below HB.out).int hlt
   obtain ⟨b',off',rfl,hb',hv'⟩:=(HS'.out.below HB.out).int hlt
   generalize ou[k]?.getD 0=v at *
   go_wp2
   go_quiet (fail)
   go_wp2
   go_roundw
   case rel=>exact ⟨k + 1,by omega,by go_num,hid (bnext HB.out (drewN_below _ _)),hid (HX.out.drewN _),hid (HY.out.drewN _)⟩
   case measure=>simp [intOf];omega
  ·obtain rfl:k=n:=by omega
   clear hlt
   go_wp2
   go_ret
   exact ⟨rfl,HB.out⟩
end
section
open Go.RowKit
attribute [local go_sem] look findAt
attribute [local simp] depsOf isV Region.binds
def TlPost (seq told:Int) (ou:List Int) (w:World) (e:Ending) (w':World):Prop:=
 ∃ A n c,e=.returned (.agg (rC seq told (.slice A n c)))∧Sl w' 1 A n c (ou.map (.int .i64))∧Below w.heap.size w w'∧∀ G,G < w.heap.size→offA G A n
section
variable (seq pc fuel:Int) (sA:Option Addr) (sn sc:Nat) (r0 r1 r2 r3:Int) (oA:Option Addr) (on oc:Nat) (ov:Bool) (e0:Int)
theorem tells_off (ou:List Int) (w:World) (hO:Sl w 1 oA on oc (ou.map (.int .i64))) (hon:on≤1000) :
  Calls Tryz.prog 85 #[.int .i64 seq,.agg (mC pc fuel (.slice sA sn sc) r0 r1 r2 r3 (.slice oA on oc) ov e0)] w (TlPost seq e0 ou w):=by
 obtain ⟨t1,t2,t3⟩:=tW_is (mC pc fuel (.slice sA sn sc) r0 r1 r2 r3 (.slice oA on oc) ov e0) w
 obtain ⟨wr,hW⟩:∃ W,W=(w.alloc (.cells (mC pc fuel (.slice sA sn sc) r0 r1 r2 r3 (.slice oA on oc) ov e0) 64)).alloc (.cells #[.int .i64 0,.int .i64 0,.slice none 0 0] 51):=⟨_,rfl⟩
 rw [show tW (mC pc fuel (.slice sA sn sc) r0 r1 r2 r3 (.slice oA on oc) ov e0) w=wr from hW.symm] at t1 t2 t3
 have cl:=hid (fun (W:World) (hW:Below wr.heap.size wr W)=>rowV_call (B:=wr.heap.size) hW.size (clone_ints oA on oc _ W (hO.below (bnext t1 hW)) hon (ints_oneC ou)))
 have B0:=hid t1
 have X0:=hid t2
 have R0:=hid t3
 have la:Hid (∀ X,Below wr.heap.size wr X→X.cell? ⟨w.heap.size,9,none⟩=some (.int .i64 e0)∧X.cell? ⟨w.heap.size,7,none⟩=some (.slice oA on oc)):=hid (fun X hX=>⟨(X0.out.below hX).cell 9,(X0.out.below hX).cell 7⟩)
 clear t1 t2 t3 hO
 go_enter Tryz.func85,Tryz.ntmps85
 go_wp2
 rw [← hW]
 clear hW
 try simp only [List.append_eq,List.cons_append,List.nil_append]
 refine wp_region_saysK 6 (fun x y=>Below x.heap.size x y) (fun _ _ _ h k=>bnext h k) wr (below_drew1 wr) (by kernel_rfl) (by kernel_rfl) (by kernel_rfl) (by kernel_rfl) (by rfl) ?_
 simp only [List.take_succ_cons,List.take_zero,List.drop_succ_cons,List.drop_zero]
 iterate 5
  refine wkI ?_ (fun u X hX hd=>?_) ?_
  rotate_left
  ·obtain ⟨e1,e2⟩:=la.out X hX
   try simp at hd
   go_simp
   try rfl
 refine walkK_call (rowV wr.heap.size 3 1 on (ou.map (.int .i64))) 77 ?_ (by first | exact gs0 rfl | exact gs1 rfl rfl rfl) (fun v x y hb h=>rowV_keep v x y hb h) (fun u X hX hd=>?_) (fun X hX=>?_) ?_
 rotate_left
 ·obtain ⟨e1,e2⟩:=la.out X hX
  try simp at hd
  go_simp
  try rfl
 ·exact (cl.out X hX).mono fun e X' ⟨v,he,hb,ho,_⟩=>⟨v,he,hb,ho⟩
 refine wkN ?_
 intro u X hX hsay
 simp only [sayAll,isV] at hsay
 obtain ⟨v0,v1,v2,v3,v4,⟨A',c',v5,hs2⟩,-⟩:=hsay
 have R2:=hid (R0.out.below hX)
 have S2:=hid (Sl.own' hs2)
 have O2:=hid (fun (G:Nat) (hG:G < wr.heap.size)=>own_offA hs2 (G:=G) hG)
 have Z2:=B0.out.size
 have L2:=R0.out.lt
 have B2:=hid (bnext B0.out hX)
 simp only [putAll,Act.put,v0,v1,v2,v3,v4,v5,List.setIfInBounds_toArray,List.set_cons_succ,List.set_cons_zero]
 clear hs2 v0 v1 v2 v3 v4 v5 cl la
 go_wp2_with (with_reducible refine st_rs (w.heap.size + 1) R2.out rfl _ _ rfl rfl rfl rfl ?_)
 exact bodyPost_ret (v:=.agg (rC seq e0 (.slice A' on c'))) (res_rs rfl _ _ (w.heap.size + 1) rfl (Bk.setRow R2.out _)) rfl ⟨_,_,_,rfl,S2.out.offSet (O2.out _ L2) (by simp) (fun k hk _=>setRow_other X (w.heap.size + 1) k _ hk),below_row B2.out (by omega) _,fun G hG=>O2.out G (by omega)⟩
end
end
end Go.Proofs.YtpaocjpjlogkgaaGreat
