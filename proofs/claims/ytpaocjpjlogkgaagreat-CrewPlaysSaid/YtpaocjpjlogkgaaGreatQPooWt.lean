/-
  Words and contracts of this claim, 3 texts laid into one, each under its own remark. No conditions but those that stand at each.
-/
import Derived.Test.YtpaocjpjlogkgaaGreatQPooB
import Derived.Test.YtpaocjpjlogkgaaGreatQPooA
import Derived.Test.YtpaocjpjlogkgaaGreatQMacNr
import Derived.Test.YtpaocjpjlogkgaaGreatQCelK
import Derived.Test.YtpaocjpjlogkgaaGreatQWords
import Derived.Test.YtpaocjpjlogkgaaGreatQIntSm
import Derived.Test.YtpaocjpjlogkgaaGreatQMchSb
import Derived.Test.YtpaocjpjlogkgaaGreatQRely
import Derived.Test.YtpaocjpjlogkgaaGreatQTabA
import Derived.Test.YtpaocjpjlogkgaaGreatZOwnE
namespace Go.Proofs.YtpaocjpjlogkgaaGreat
set_option maxRecDepth 100000
set_option maxHeartbeats 32000000
open Go
open Go.Lib (hid)
section
open Go Go.RowKit
attribute [local go_sem] look findAt
attribute [local simp] depsOf isV Region.binds
theorem TkNew.pos {L:List Tsk} {B:Nat} {w:World} {A:Option Addr} {n c:Nat} {l:List TkL} (h:TkNew L B w A n c l) (hn:0 < n):∃ g cs,A=some ⟨g,0,none⟩∧B≤g∧Bk w g 67 cs∧n * 18≤cs.size:=h.own.pos hn
theorem TkNew.there {L:List Tsk} {B:Nat} {w:World} {g n c:Nat} {l:List TkL} (h:TkNew L B w (some ⟨g,0,none⟩) n c l) {i:Nat} (hi:i < n):w.there g (i * 18) 18:=by
 obtain ⟨g',cs,hA,-,hk,hsz⟩:=h.pos (by omega)
 injection hA with hA
 injection hA with hA1
 subst hA1
 exact hk.there (by omega)
theorem TkNew.set {L:List Tsk} {B:Nat} {w:World} {g n c:Nat} {l:List TkL} (h:TkNew L B w (some ⟨g,0,none⟩) n c l) {i:Nat} (hi:i < n) (u:TkL) (hu:u.In w) (hg:u.Off g) (ho:u.Over B) (hf:fewT u) :
  TkNew (L.set i u.tsk) B (w.setCells g (i * 18) (tkC u)) (some ⟨g,0,none⟩) n c (l.set i u):=by
 refine ⟨h.own.set hi fun v hv=>?_,?_,fun v hv=>?_,fun v hv=>?_,fun g' off e v hv=>?_⟩
 ·rcases List.mem_or_eq_of_mem_set hv with q | q
  ·exact (h.own.2.2 v q).setCells (h.off _ _ rfl v q) _ _
  ·rw [q];exact hu.setCells hg _ _
 ·unfold saysT
  rw [List.map_set,h.says]
 ·rcases List.mem_or_eq_of_mem_set hv with q | q
  ·exact h.few v q
  ·rw [q];exact hf
 ·rcases List.mem_or_eq_of_mem_set hv with q | q
  ·exact h.over v q
  ·rw [q];exact ho
 ·injection e with e
  injection e with e1
  subst e1
  rcases List.mem_or_eq_of_mem_set hv with q | q
  ·exact h.off _ _ rfl v q
  ·rw [q];exact hg
def TpN (L:List Tsk) (n:Nat) (w:World) (e:Ending) (w':World):Prop:=∃ A c l,e=.returned (.slice A n c)∧TkNew L w.heap.size w' A n c l∧Below w.heap.size w w'
theorem TpPost.n {L:List Tsk} {n:Nat} {w w':World} {e:Ending} (h:TpPost L w e w') (hn:L.length=n):TpN L n w e w':=by
 obtain ⟨A,m,c,l,he,hO,hb⟩:=h
 obtain rfl:m=n:=by rw [← hn];exact hO.len.symm
 exact ⟨A,c,l,he,hO,hb⟩
theorem pcopied_n (l:List TkL) (A:Option Addr) (n c:Nat) (w:World) (h:Tks w A c l) (hN:l.length=n) (hn:n≤1000) (hf:∀ t∈l,fewT t) :
  Calls Tryz.prog 58 #[.slice A n c] w (TpN (l.map TkL.tsk) n w):=(pcopied_any l A n c w h hN hn hf).mono fun _ _ h=>h.n (by rw [List.length_map];exact hN)
theorem pwith_any (l:List TkL) (A:Option Addr) (n c i:Nat) (t:TkL) (w:World) (h:Tks w A c l) (hN:l.length=n) (hi:i < n) (hn:n≤1000) (hf:∀ t∈l,fewT t) (ht:t.In w) (htf:fewT t) :
  Calls Tryz.prog 38 #[.slice A n c,.int .i64 (i:Int),.agg (tkA t)] w (TpN ((l.map TkL.tsk).set i t.tsk) n w):=by
 have BA:=below_alloc1 w (.cells (tkA t) 67)
 have K0:=hid (Bk.new w 67 (tkA t))
 have hco:=hid (pcopied_n l A n c _ (h.below BA) hN hn hf)
 have hha:=hid (fun (A:Option Addr) (c:Nat) (W:World)=>phas_yes A n c i W hi)
 have B0:=hid BA
 have HT:=hid ht
 have HF:=hid htf
 have hw0:(w.alloc (.cells (tkA t) 67)).heap.size=w.heap.size + 1:=World.size_alloc ..
 have d1:(i:Int) < (n:Int):=by omega
 clear h hN hf ht htf BA
 go_enter Tryz.func38,Tryz.ntmps38
 go_wp2_with (first
  | (go_at_call 58;go_must ((with_reducible refine hco.out.mono ?_);rintro e w1 ⟨A1,c1,l1,rfl,hO,hb1⟩;have B1:=hid (bnext B0.out hb1);have K1:=hid (K0.out.below hb1);have O1:=hid hO;have hcap:=hO.own.cap;have d2:(i:Int) < (c1:Int):=(by omega);have hot:=hid (owntask_any t w1 (HT.out.below B1.out) HF.out);have h1s:=hb1.size;obtain ⟨g,_,rfl,hg,hk,-⟩:=hO.pos (by omega);have hgl:=hk.lt;clear hO hb1 hk))
  | (go_at_call 75;go_must ((with_reducible refine (hha.out _ _ _).mono ?_);rintro e w2 ⟨rfl,rfl⟩))
  | (with_reducible refine ld_tsk w.heap.size K1.out _ rfl rfl rfl ?_)
  | (go_at_call 59;go_must ((with_reducible refine hot.out.mono ?_);rintro e w3 ⟨u,rfl,hus,hui,huo,hb3⟩;have US:=hid hus;have UI:=hid hui;have UO:=hid huo;have O3:=hid (O1.out.below hb3);have B3:=hid (bnext B1.out hb3);have ht3:=hid (O3.out.there hi);have h3s:=hb3.size;clear hus hui huo hb3))
  | (with_reducible refine st_tskm g (i * 18) u _ _ rfl rfl rfl rfl ht3.out ?_))
 go_ret
 have hO4:=O3.out.set hi u UI.out (UO.out.off hgl) (UO.out.lower h1s) (HF.out.of HT.out UI.out US.out)
 rw [US.out] at hO4
 exact ⟨_,_,_,rfl,hO4.lower (by omega),below_setCells B3.out (by omega) _ _⟩
def freshT (B:Nat) (v:Value) (w:World):Prop:=∃ g,v=.pointer (some ⟨g,0,none⟩)∧B≤g∧Bk w g 67 tkZ
theorem freshT_keep {B:Nat} (v:Value) (x y:World) (hb:Below x.heap.size x y) (h:freshT B v x):freshT B v y:=by
 obtain ⟨g,e,hg,hk⟩:=h
 exact ⟨g,e,hg,hk.below hb⟩
theorem run_alloc_tsk (ρ:Operand→Value) (w:World) (o:Oper) (ho:o.op=.alloc 67):(execOp ρ o).run Tryz.prog w=.ok (.value (.pointer (some ⟨w.heap.size,0,none⟩))) (w.alloc (.cells tkZ 67)):=by
 unfold execOp
 simp only [ho]
 go_simp
def tkV (B:Nat) (L:List Tsk) (n:Nat) (v:Value) (w:World):Prop:=∃ A c l,v=.slice A n c∧TkNew L B w A n c l
theorem tkV_keep {B:Nat} {L:List Tsk} {n:Nat} (v:Value) (x y:World) (hb:Below x.heap.size x y) (h:tkV B L n v x):tkV B L n v y:=by
 obtain ⟨A,c,l,e,hO⟩:=h
 exact ⟨A,c,l,e,hO.below hb⟩
theorem TkL.In.grown {t:TkL} {w w':World} {row:Option Nat} (h:t.In w) (hg:w.grownBy w' row) (ho:∀ g,row=some g→t.Off g):t.In w':=by
 cases row with
 | none=>exact h.below (bfresh hg)
 | some g=>exact h.keep (ho g rfl) hg.size fun k hk hl=>hg.block k hl (by simpa using hk)
theorem all_oneCell_toArray_list (t:TkL):(tkA t).toList.all Value.oneCell'=true:=List.all_eq_true.2 (tkC_one t)
theorem TkNew.push {L:List Tsk} {B:Nat} {w w':World} {A:Option Addr} {n c g c':Nat} {l:List TkL} (h:TkNew L B w A n c l) (u:TkL) (hu:u.In w) (hg:∀ k,(Value.slice A n c).ownBlock=some k→u.Off k) (ho:u.Over B) (hf:fewT u)
  (hw:w'.ownsRow B 67 18 (.slice (some ⟨g,0,none⟩) (n + 1) c') (n + 1) (tksW l ++ (tkA u).toList)) (hgr:w.grownBy w' (Value.slice A n c).ownBlock) (hfr:(Value.slice A n c).ownBlock=some g∨g=w.heap.size):TkNew (L ++ [u.tsk]) B w' (some ⟨g,0,none⟩) (n + 1) c' (l ++ [u]):=by
 have hoff:∀ t∈l,∀ k,(Value.slice A n c).ownBlock=some k→t.Off k:=fun t ht k hk=>by
  cases A with
  | none=>simp [Value.ownBlock] at hk
  | some a=>
   obtain ⟨b,off,al⟩:=a
   rcases h.own.2.1.2 with ⟨q,-⟩ | ⟨g',_,_,q,-,-⟩
   ·injection q with q
    cases q
   ·injection q with q
    injection q with q
    injection q with q1 q2 q3
    subst q1
    subst q2
    subst q3
    simp [Value.ownBlock] at hk
    subst hk
    exact h.off _ _ rfl t ht
 refine ⟨⟨by rw [List.length_append,h.own.1];rfl,by rw [tksW_append,tksW_sing];exact hw,fun t ht=>?_⟩,?_,fun t ht=>?_,fun t ht=>?_,fun g' off e t ht=>?_⟩
 ·rcases List.mem_append.1 ht with q | q
  ·exact (h.own.2.2 t q).grown hgr (hoff t q)
  ·rw [List.mem_singleton.1 q];exact hu.grown hgr hg
 ·unfold saysT
  rw [List.map_append,h.says]
  rfl
 ·rcases List.mem_append.1 ht with q | q
  ·exact h.few t q
  ·rw [List.mem_singleton.1 q];exact hf
 ·rcases List.mem_append.1 ht with q | q
  ·exact h.over t q
  ·rw [List.mem_singleton.1 q];exact ho
 ·injection e with e
  injection e with e1
  subst e1
  rcases hfr with k | k
  ·rcases List.mem_append.1 ht with q | q
   ·exact hoff t q _ k
   ·rw [List.mem_singleton.1 q];exact hg _ k
  ·rcases List.mem_append.1 ht with q | q
   ·exact (h.own.2.2 t q).off_ge (by omega)
   ·rw [List.mem_singleton.1 q];exact hu.off_ge (by omega)
theorem padd_any (l:List TkL) (A:Option Addr) (n c:Nat) (x:CmL) (s:Int) (w:World) (h:Tks w A c l) (hN:l.length=n) (hn:n≤999) (hf:∀ t∈l,fewT t) (hx:x.In w) (hxf:x.nr≤1000∧x.nw≤1000∧x.na≤1000∧x.nc≤1000) :
  Calls Tryz.prog 26 #[.slice A n c,.agg (cmlC x).toArray,.int .i64 s] w (TpN (l.map TkL.tsk ++ [⟨s,x.c,newM x.c,[],-1⟩]) (n + 1) w):=by
 have BA:=below_alloc1 w (.cells (cmlC x).toArray 56)
 have CC0:=Bk.new w 56 (cmlC x).toArray
 have HL:=hid (h.below BA)
 obtain ⟨W0,hW0⟩:∃ W0,W0=w.alloc (.cells (cmlC x).toArray 56):=⟨_,rfl⟩
 rw [← hW0] at BA CC0 HL
 have hw0:W0.heap.size=w.heap.size + 1:=by rw [hW0,World.size_alloc]
 have B0:=hid BA
 have CC:Hid (∀ X,Below W0.heap.size W0 X→X.cell? ⟨w.heap.size,0,none⟩=some (.slice x.ra x.nr x.rc)∧X.cell? ⟨w.heap.size,1,none⟩=some (.slice x.wa x.nw x.wc)∧X.cell? ⟨w.heap.size,2,none⟩=some (.slice x.aa x.na x.ac)∧X.cell? ⟨w.heap.size,3,none⟩=some (.int .i64 x.c.fuel)∧X.cell? ⟨w.heap.size,4,none⟩=some (.slice x.ca x.nc x.cc)∧w.heap.size < X.heap.size):=hid (fun X hX=>by
  have hb:=CC0.below hX
  exact ⟨hb.cell 0,hb.cell 1,hb.cell 2,hb.cell 3,hb.cell 4,hb.lt⟩)
 have HX:=hid (hx.below BA)
 have HN:=hid hN
 have HF:=hid hf
 have XF:=hid hxf
 have HW:=hid hW0
 clear h hN hf hx hxf BA CC0 hW0
 go_enter Tryz.func26,Tryz.ntmps26
 go_wp2
 rw [← HW.out]
 try simp only [List.append_eq,List.cons_append,List.nil_append]
 refine wp_region_saysK 6 (fun x y=>Below x.heap.size x y) (fun _ _ _ h k=>bnext h k) W0 (below_drew1 W0) (by kernel_rfl) (by kernel_rfl) (by kernel_rfl) (by kernel_rfl) (by rfl) ?_
 simp only [List.take_succ_cons,List.take_zero,List.drop_succ_cons,List.drop_zero]
 refine wkI (.int .i64 s) (fun u X hX hd=>?_) ?_
 iterate 2
  ·obtain ⟨q0,q1,q2,q3,q4,ql⟩:=CC.out X hX
   try simp at hd
   go_simp
   try rfl
  refine wkI (.agg #[.slice x.ra x.nr x.rc,.slice x.wa x.nw x.wc,.slice x.aa x.na x.ac,.int .i64 x.c.fuel,.slice x.ca x.nc x.cc]) (fun u X hX hd=>?_) ?_
 ·obtain ⟨q0,q1,q2,q3,q4,ql⟩:=CC.out X hX
  try simp at hd
  go_simp
  try rfl
 refine walkK_call (isV (.agg (mC 0 x.c.fuel (.slice none 0 0) 0 0 0 0 (.slice none 0 0) false 0))) 57 ?_ (by first | exact gs0 rfl | exact gs1 rfl rfl rfl) (fun _ _ _ _ h=>h) (fun u X hX hd=>?_) (fun X hX=>?_) ?_
 rotate_left
 ·obtain ⟨q0,q1,q2,q3,q4,ql⟩:=CC.out X hX
  try simp at hd
  go_simp
  try rfl
 ·exact (mnew_any x.ra x.nr x.rc x.wa x.nw x.wc x.aa x.na x.ac x.c.fuel x.ca x.nc x.cc X).mono fun e X' ⟨he,hb⟩=>⟨_,he,hb,rfl⟩
 refine wkN ?_
 refine wkI (.agg (tkA (newT s x))) (fun u X hX hd=>?_) ?_
 ·try simp at hd
  go_simp
  simp [newT,newM,rg]
 refine walkK_new (freshT W0.heap.size) (by first | exact gs0 rfl | exact gs1 rfl rfl rfl) freshT_keep (fun u X hX hd=>⟨_,_,run_alloc_tsk _ X _ rfl,below_alloc1 _ _,_,rfl,hX.size,Bk.new _ _ _⟩) ?_
 refine wkN ?_
 intro u X hX hsay
 simp only [sayAll,isV] at hsay
 obtain ⟨-,-,-,-,v4,v5,-⟩:=hsay
 obtain ⟨g,v5,hg,hk⟩:=v5
 simp only [putAll,Act.put,v4,v5,List.setIfInBounds_toArray,List.set_cons_succ,List.set_cons_zero,Nat.zero_add,Nat.reduceAdd]
 have KZ:=hid hk
 have BX:=hid hX
 clear v4 v5 hk hX
 go_wp2_with (with_reducible refine st_tsk g KZ.out rfl (newT s x) _ _ rfl rfl rfl rfl ?_)
 obtain ⟨W1,hW1⟩:∃ W1,W1=X.setRow g (tkA (newT s x)):=⟨_,rfl⟩
 rw [← hW1]
 have b1:Below W0.heap.size W0 W1:=by rw [hW1];exact below_row BX.out hg _
 have k1:Bk W1 g 67 (tkA (newT s x)):=by rw [hW1];exact Bk.setRow KZ.out _
 have B1:=hid (bnext B0.out b1)
 have K1:=hid k1
 have hw1:w.heap.size≤W1.heap.size:=B1.out.size
 have TN:=hid (newT_in (s:=s) (HX.out.below b1))
 have hco:Hid (∀ X,Below W1.heap.size W1 X→Calls Tryz.prog 58 #[.slice A n c] X (TpN (l.map TkL.tsk) n X)):=hid (fun X hX=>pcopied_n l A n c X ((HL.out.below b1).below hX) HN.out (by omega) HF.out)
 have hld:Hid (∀ X,Below W1.heap.size W1 X→(loadVar 67 ⟨g,0,none⟩).run Tryz.prog X=.ok (.agg (tkA (newT s x))) X):=hid (fun X hX=>run_loadVar_row X g 67 67 _ (0,0) _ (k1.below hX) Tryz.underlying67 rfl infoTk)
 clear hW1 b1 k1
 try simp only [List.append_eq,List.cons_append,List.nil_append]
 refine wp_region_saysK 3 (fun x y=>Below x.heap.size x y) (fun _ _ _ h k=>bnext h k) W1 (below_drew1 W1) (by kernel_rfl) (by kernel_rfl) (by kernel_rfl) (by kernel_rfl) (by rfl) ?_
 simp only [List.take_succ_cons,List.take_zero,List.drop_succ_cons,List.drop_zero]
 refine wkI (.slice A n c) (fun u X hX hd=>?_) ?_
 ·skip
  try simp at hd
  go_simp
  try rfl
 refine walkK_call (tkV W1.heap.size (l.map TkL.tsk) n) 58 ?_ (by first | exact gs0 rfl | exact gs1 rfl rfl rfl) (tkV_keep) (fun u X hX hd=>?_) (fun X hX=>?_) ?_
 rotate_left
 ·skip
  try simp at hd
  go_simp
  try rfl
 ·exact (hco.out X hX).mono fun _ _ ⟨A',c',l',he,hO,hb⟩=>⟨_,he,hb,A',c',l',rfl,hO.lower hX.size⟩
 refine wkN ?_
 refine wkI (.agg (tkA (newT s x))) (fun u X hX hd=>?_) ?_
 ·have hl:=hld.out X hX
  try simp at hd
  refine op_load_at 67 (g) (0) hl _ rfl ?_
  go_simp
 intro u X hX hsay
 simp only [sayAll,isV] at hsay
 obtain ⟨-,v1,v2,-⟩:=hsay
 obtain ⟨A1,c1,l1,v1,hO⟩:=v1
 simp only [putAll,Act.put,v1,v2,List.setIfInBounds_toArray,List.set_cons_succ,List.set_cons_zero,Nat.zero_add,Nat.reduceAdd]
 have O1:=hid hO
 have BX:=hid (bnext B1.out hX)
 have hot:=hid (owntask_any (newT s x) X (TN.out.below hX) ⟨XF.out.1,XF.out.2.1,XF.out.2.2.1,XF.out.2.2.2,Nat.zero_le _,Nat.zero_le _,Nat.zero_le _⟩)
 have hxs:=hX.size
 clear v1 v2 hO hX
 obtain ⟨i0,hi0,hz0,hz1,hz2⟩:=infoTsk
 go_wp2_with (first
  | (go_at_call 59;go_must ((with_reducible refine hot.out.mono ?_);rintro e w3 ⟨u,rfl,hus,hui,huo,hb3⟩;have US:=hid hus;have UO:=hid huo;have hz3:=hb3.size;have BL:=below_alloc1 w3 (.cells (tkA u) 67);have KU:=hid (Bk.new w3 67 (tkA u));have O4:=hid ((O1.out.below hb3).below BL);have UI:=hid (hui.below BL);have B4:=hid (bnext (bnext BX.out hb3) BL);have h4s:(w3.alloc (.cells (tkA u) 67)).heap.size=w3.heap.size + 1:=World.size_alloc ..;clear hus hui huo hb3 BL))
  | (at_builtin;go_must (refine append_rowH rfl (.tmp 14) (.tmp 17) _ rfl W1.heap.size 67 i0 _ 18 256 Tryz.underlying28 hi0 hz0 hz1 hz2 rfl (by decide) (.slice A1 n c1) n (tksW l1) rfl O4.out.own.2.1 w3.heap.size (tkA u) rfl KU.out rfl (all_oneCell_toArray_list u) (by unfold maxLen;omega) (by omega) (by rw [World.size_alloc];omega) ?_;intro ga ca w5 own5 hgr5 hfr5;have OW:=hid own5;have GR:=hid hgr5;have FR:=hid hfr5;clear own5 hgr5 hfr5)))
 go_ret
 have hug:∀ k,(Value.slice A1 n c1).ownBlock=some k→u.Off k:=fun k hk=>UO.out.off (own_lt O1.out.own.2.1 hk)
 have hO5:=O4.out.push u UI.out hug (UO.out.lower hxs) ((⟨XF.out.1,XF.out.2.1,XF.out.2.2.1,XF.out.2.2.2,Nat.zero_le _,Nat.zero_le _,Nat.zero_le _⟩:fewT (newT s x)).of TN.out UI.out US.out) OW.out GR.out FR.out
 rw [US.out,newT_tsk] at hO5
 exact ⟨_,_,_,rfl,hO5.lower hw1,B4.out.grown GR.out B4.out.size fun k hk=>Nat.le_trans hw1 (own_ge O4.out.own.2.1 hk)⟩
end
section
open Go Go.RowKit
attribute [local go_sem] look findAt
attribute [local simp] depsOf isV Region.binds
theorem rsame16_yes (l m:List TkL) (A:Option Addr) (c:Nat) (B:Option Addr) (d n:Nat) (w:World) (h1:Tks w A c l) (h2:Tks w B d m) (hN:l.length=n) (hM:m.length=n) (hs:∀ (i:Nat) (t u:TkL),l[i]? = some t→m[i]? = some u→t.tsk=u.tsk) (hz:n≤1000) (hf:∀ t∈l,fewT t) :
  Calls Tryz.prog 30 #[.slice A n c,.slice B n d] w fun e w'=>e=.returned (.bool true)∧Below w.heap.size w w':=by
 have H1:=hid h1
 have H2:=hid h2
 have HN:=hid hN
 have HM:=hid hM
 have HS:=hid hs
 have HF:=hid hf
 have hnc:n≤c:=by have:=h1.cap;omega
 have hnd:n≤d:=by have:=h2.cap;omega
 clear h1 h2 hN hM hs hf
 go_enter Tryz.func30,Tryz.ntmps30
 go_wp2
 go_loopw [5] (fun cc wr=>∃ i:Nat,i≤n∧cc=.int .i64 i∧Hid (Below w.heap.size w wr)) (fun cc _=>n - (intOf cc).toNat)
 case atStart=>exact ⟨0,Nat.zero_le _,rfl,hid (Below.refl _ _)⟩
 case round=>
  obtain ⟨i,hi,rfl,HB⟩:=hrel
  by_cases hlt:i < n
  ·have d1:(i:Int) < (n:Int):=by omega
   have d2:(i:Int) < (c:Int):=by omega
   have d3:(i:Int) < (d:Int):=by omega
   obtain ⟨t,ht⟩:=tk_at (l:=l) (i:=i) (by rw [HN.out];exact hlt)
   obtain ⟨u,hu⟩:=tk_at (l:=m) (i:=i) (by rw [HM.out];exact hlt)
   have htu:=HS.out i t u ht hu
   have hfe:=HF.out t (List.mem_of_getElem? ht)
   have I1:=(H1.out.below HB.out).2 t (List.mem_of_getElem? ht)
   have I2:=(H2.out.below HB.out).2 u (List.mem_of_getElem? hu)
   obtain ⟨b1,o1,rfl,hat1⟩:=(H1.out.below HB.out).lies ht
   obtain ⟨b2,o2,rfl,hat2⟩:=(H2.out.below HB.out).lies hu
   clear ht hu
   obtain ⟨s,x,mm,sA,sn,sc,oA,on,oc,own,bA,bn,bc,wk⟩:=t
   obtain ⟨s2,x2,mm2,sA2,sn2,sc2,oA2,on2,oc2,own2,bA2,bn2,bc2,wk2⟩:=u
   have htu:(⟨s,x.c,mm,own,wk⟩:Tsk)=⟨s2,x2.c,mm2,own2,wk2⟩:=htu
   injection htu with e1 e2 e3 e4 e5
   subst e1
   subst e3
   subst e4
   subst e5
   obtain rfl:sn2=sn:=by have a:=I1.mac.st.1;have b:=I2.mac.st.1;simp at a b;omega
   obtain rfl:on2=on:=by have a:=I1.mac.ou.1;have b:=I2.mac.ou.1;simp at a b;omega
   obtain rfl:bn2=bn:=by have a:=I1.own;have b:=I2.own;simp only at a b;omega
   obtain ⟨f1,f2,f3,f4,f5,f6,f7⟩:=hfe
   have I1:(⟨s,x,mm,sA,sn2,sc,oA,on2,oc,own,bA,bn2,bc,wk⟩:TkL).In wr:=I1
   have J1:=hid I1
   have J2:=hid I2
   have c1:Hid (∀ X,Below wr.heap.size wr X→Calls Tryz.prog 68 #[.agg #[.slice x.ra x.nr x.rc,.slice x.wa x.nw x.wc,.slice x.aa x.na x.ac,.int .i64 x.c.fuel,.slice x.ca x.nc x.cc],.agg #[.slice x2.ra x2.nr x2.rc,.slice x2.wa x2.nw x2.wc,.slice x2.aa x2.na x2.ac,.int .i64 x2.c.fuel,.slice x2.ca x2.nc x2.cc]] X fun e w'=>e=.returned (.bool true)∧Below X.heap.size X w'):=hid (fun X (hX:Below wr.heap.size wr X)=>rcsame_yes x x2 e2 X (J1.out.cmd.below hX) (J2.out.cmd.below hX) ⟨f1,f2,f3,f4⟩)
   have c2:=hid (fun X (hX:Below wr.heap.size wr X)=>rsame_yes mm.pc mm.fuel mm.stack mm.out (rg mm.regs 0) (rg mm.regs 1) (rg mm.regs 2) (rg mm.regs 3) mm.over mm.told sA sA2 sn2 sc sc2 oA oA2 on2 oc oc2 X (J1.out.mac.below hX).st (J2.out.mac.below hX).st (J1.out.mac.below hX).ou (J2.out.mac.below hX).ou (Nat.le_trans f5 (by decide)) (Nat.le_trans f6 (by decide)))
   have c3:=hid (fun X (hX:Below wr.heap.size wr X)=>rsameB_yes own J1.out.eight bA bA2 bn2 bc bc2 X (by have:=(J1.out.mac.below hX).bk;unfold Blocks;rw [J1.out.own];exact this) (by have:=(J2.out.mac.below hX).bk;unfold Blocks;rw [J1.out.own];exact this) J1.out.own (Nat.le_trans f7 (by decide)))
   obtain ⟨p10,-,-,-,-,-,-,p1o,p1w,-,-,p1l⟩:=hat1 wr (Below.refl _ _)
   have r10:=KW.cell p10 p1l
   have r1o:=KW.cell p1o p1l
   have r1w:=KW.cell p1w p1l
   simp only at r10 r1o r1w
   have L1c:Hid (∀ W,(∃ x:KW wr,W=x.1)→(loadVar 56 ⟨b1,o1 + i * 18 + 1,none⟩).run Tryz.prog W=.ok (.agg #[.slice x.ra x.nr x.rc,.slice x.wa x.nw x.wc,.slice x.aa x.na x.ac,.int .i64 x.c.fuel,.slice x.ca x.nc x.cc]) W):=hid (fun W ⟨kw,hkw⟩=>by
    subst hkw
    obtain ⟨-,q1,q2,q3,q4,q5,-⟩:=hat1 kw.1 kw.2
    exact run_loadVar_mid kw.1 b1 (o1 + i * 18 + 1) 56 (cmlC x) _ (fun j v hv=>by
     have hj:j < 5:=by
      rcases Nat.lt_or_ge j 5 with q | q
      ·exact q
      ·rw [List.getElem?_eq_none (by exact q)] at hv;cases hv
     rw [← hv]
     rcases (show j=0∨j=1∨j=2∨j=3∨j=4 by omega) with e | e | e | e | e <;> subst e <;> first | exact q1 | exact q2 | exact q3 | exact q4 | exact q5) Tryz.underlying56 rfl infoCm5)
   have L1m:Hid (∀ W,(∃ x:KW wr,W=x.1)→(loadVar 64 ⟨b1,o1 + i * 18 + 6,none⟩).run Tryz.prog W=.ok (.agg (mC mm.pc mm.fuel (.slice sA sn2 sc) (rg mm.regs 0) (rg mm.regs 1) (rg mm.regs 2) (rg mm.regs 3) (.slice oA on2 oc) mm.over mm.told)) W):=hid (fun W ⟨kw,hkw⟩=>by
    subst hkw
    obtain ⟨-,-,-,-,-,-,-,-,-,-,pm,-⟩:=hat1 kw.1 kw.2
    exact run_loadVar_mid kw.1 b1 (o1 + i * 18 + 6) 64 _ _ pm Tryz.underlying64 rfl infoMc)
   obtain ⟨p20,-,-,-,-,-,-,p2o,p2w,-,-,p2l⟩:=hat2 wr (Below.refl _ _)
   have r20:=KW.cell p20 p2l
   have r2o:=KW.cell p2o p2l
   have r2w:=KW.cell p2w p2l
   simp only at r20 r2o r2w
   have L2c:Hid (∀ W,(∃ x:KW wr,W=x.1)→(loadVar 56 ⟨b2,o2 + i * 18 + 1,none⟩).run Tryz.prog W=.ok (.agg #[.slice x2.ra x2.nr x2.rc,.slice x2.wa x2.nw x2.wc,.slice x2.aa x2.na x2.ac,.int .i64 x2.c.fuel,.slice x2.ca x2.nc x2.cc]) W):=hid (fun W ⟨kw,hkw⟩=>by
    subst hkw
    obtain ⟨-,q1,q2,q3,q4,q5,-⟩:=hat2 kw.1 kw.2
    exact run_loadVar_mid kw.1 b2 (o2 + i * 18 + 1) 56 (cmlC x2) _ (fun j v hv=>by
     have hj:j < 5:=by
      rcases Nat.lt_or_ge j 5 with q | q
      ·exact q
      ·rw [List.getElem?_eq_none (by exact q)] at hv;cases hv
     rw [← hv]
     rcases (show j=0∨j=1∨j=2∨j=3∨j=4 by omega) with e | e | e | e | e <;> subst e <;> first | exact q1 | exact q2 | exact q3 | exact q4 | exact q5) Tryz.underlying56 rfl infoCm5)
   have L2m:Hid (∀ W,(∃ x:KW wr,W=x.1)→(loadVar 64 ⟨b2,o2 + i * 18 + 6,none⟩).run Tryz.prog W=.ok (.agg (mC mm.pc mm.fuel (.slice sA2 sn2 sc2) (rg mm.regs 0) (rg mm.regs 1) (rg mm.regs 2) (rg mm.regs 3) (.slice oA2 on2 oc2) mm.over mm.told)) W):=hid (fun W ⟨kw,hkw⟩=>by
    subst hkw
    obtain ⟨-,-,-,-,-,-,-,-,-,-,pm,-⟩:=hat2 kw.1 kw.2
    exact run_loadVar_mid kw.1 b2 (o2 + i * 18 + 6) 64 _ _ pm Tryz.underlying64 rfl infoMc)
   have hne:Nonempty (KW wr):=⟨⟨wr,Below.refl _ _⟩⟩
   clear e2 hat1 hat2 I1 I2 f1 f2 f3 f4 f5 f6 f7 HS HF htu p10 p1o p1w p1l p20 p2o p2w p2l
   go_wp2
   try simp only [List.append_eq,List.cons_append,List.nil_append]
   refine wp_region_kept wr (Below.refl _ _) (by kernel_rfl) (by kernel_rfl) ?_
   repeat (first
    | (go_big_quiet_want;(first | refine quiet_load_at 56 b1 (o1 + i * 18 + 1) L1c.out _ rfl rfl ?_ | refine quiet_load_at 56 b2 (o2 + i * 18 + 1) L2c.out _ rfl rfl ?_ | refine quiet_load_at 64 b1 (o1 + i * 18 + 6) L1m.out _ rfl rfl ?_ | refine quiet_load_at 64 b2 (o2 + i * 18 + 6) L2m.out _ rfl rfl ?_);go_simp;go_big_quiet_on)
    | go_big_quiet_step ((first
     | (go_at_call 68;with_reducible exact kept_of _ (c1.out _ (Subtype.property _)))
     | (go_at_call 23;with_reducible exact kept_of _ (c2.out _ (Subtype.property _)))
     | (go_at_call 69;with_reducible exact kept_of _ (c3.out _ (Subtype.property _))))))
   refine wpQuiet_nil ?_
   rintro _ ⟨wx,rfl⟩
   have BX:=hid (bnext HB.out wx.2)
   go_wp2
   go_roundw
   case rel=>exact ⟨i + 1,by omega,by go_num,BX⟩
   case measure=>simp [intOf];omega
  ·obtain rfl:i=n:=by omega
   clear hlt
   go_wp2
   go_ret
   exact ⟨rfl,HB.out⟩
end
section
open Go.RowKit
attribute [local go_sem] look findAt
attribute [local simp] depsOf isV Region.binds
section
variable (ra:Option Addr) (nr rc:Nat) (wa:Option Addr) (nw wc:Nat) (aa:Option Addr) (na ac:Nat) (ca:Option Addr) (nc cc:Nat)
theorem rstore_any (c:Cmd) (l:List Ent) (lA:Option Addr) (ln lc:Nat) (own:Blks) (bA:Option Addr) (bn bc:Nat) (seq:Int) (w:World) (hC:CmIn w c ra nr rc wa nw wc aa na ac ca nc cc) (hL:Ents w lA lc l) (h8:Eight l) (hs:setsN c) (hf:fitsT c l.length) (hln:l.length=ln) (hO:Sl w 8 bA bn bc (blksW own)) (hbn:own.length=bn) (h8o:∀ b∈own,b.length=8) (hle:nr + nw≤bn) (hlz:ln≤1000) (hbz:bn≤1099511627776) :
  Calls Tryz.prog 50 #[.slice lA ln lc,cmV ra nr rc wa nw wc aa na ac c.fuel ca nc cc,.slice bA bn bc,.int .i64 seq] w (StorePost (storeT l c own seq) ln w):=by
 have hbr:=hC.br
 have hbw:=hC.bw
 have hlw:=hC.lw
 have hwc:nw≤wc:=by have:=hC.writes.2.1;rw [hC.lw] at this;exact this
 have hbc:bn≤bc:=hO.2.1
 obtain ⟨iE,hie,he0,hes,heb⟩:=infoEntZ
 have hEn:=hid (fun W (hW:Below w.heap.size w W)=>(by have:=hL.below hW;unfold Ents at this;rw [hln] at this;exact this:Sl W 9 lA ln lc (entsW l)))
 have hK:Hid (∀ k,k < nw→∀ W,Below w.heap.size w W→∃ (i:Nat) (a0 a1 a2 a3 a4 a5 a6 a7:Int),i < ln ∧
   (∃ b off,wa=some ⟨b,off,none⟩∧b < W.heap.size∧W.cell? ⟨b,off + k,none⟩=some (.int .i64 (i:Int))) ∧
   (∃ g off,bA=some ⟨g,off,none⟩∧g < W.heap.size∧W.rangeAt g (off + (nr + k) * 8) (#[.int .i64 a0,.int .i64 a1,.int .i64 a2,.int .i64 a3,.int .i64 a4,.int .i64 a5,.int .i64 a6,.int .i64 a7]:Array Value).toList) ∧
   ∀ (xs:List Value),xs=entsW (stT l c own seq k)→xs.length=ln * 9∧setL xs (i * 9) (#[.int .i64 a0,.int .i64 a1,.int .i64 a2,.int .i64 a3,.int .i64 a4,.int .i64 a5,.int .i64 a6,.int .i64 a7,.int .i64 seq]:Array Value).toList=entsW (stT l c own seq (k + 1))):=hid (fun k hk W hW=>by
  obtain ⟨i,a0,a1,a2,a3,a4,a5,a6,a7,h1,h2,h3,h4⟩:=write_next (s:=seq) (k:=k) hs hf h8o (by rw [hC.lr,hC.lw];omega) (by rw [hC.lw];exact hk)
  obtain ⟨b,o,eb,hb,hv⟩:=Sl.int (hC.writes.below hW) (j:=k) (by rw [hC.lw];exact hk)
  rw [h1] at hv
  have h8k:=st_eight (s:=seq) h8 h8o (c:=c) (by rw [hC.lr,hC.lw];omega) k (by rw [hC.lw];omega)
  refine ⟨i,a0,a1,a2,a3,a4,a5,a6,a7,by omega,⟨b,o,eb,hb,hv⟩,?_,fun xs hx=>?_⟩
  ·obtain ⟨g,off,e,hg,hc⟩:=(hO).2.2.2 (by omega)
   refine ⟨g,off,e,by have:=hW.size;omega,fun j v hv=>?_⟩
   have hj:j < 8:=by simpa using (List.getElem?_eq_some_iff.1 hv).1
   rw [hW.cell (p:=⟨g,off + (nr + k) * 8 + j,none⟩) hg,show off + (nr + k) * 8 + j=off + ((nr + k) * 8 + j) by omega,hc ((nr + k) * 8 + j) (by omega),blksW_at own h8o (nr + k) (by omega) j hj,← hC.lr,h3,← hv]
   rcases (show j=0∨j=1∨j=2∨j=3∨j=4∨j=5∨j=6∨j=7 by omega) with rfl | rfl | rfl | rfl | rfl | rfl | rfl | rfl <;> rfl
  ·subst hx
   have hil:i < (stT l c own seq k).length:=by rw [st_length];exact h2
   have hlk:(stT l c own seq k).length=ln:=by rw [st_length];exact hln
   refine ⟨by rw [entsW_length h8k,hlk],?_⟩
   rw [h4,← entsW_set h8k hil (e:=⟨[a0,a1,a2,a3,a4,a5,a6,a7],seq⟩) rfl]
   rfl)
 have H0:Hid (entsW (stT l c own seq 0)=entsW l):=hid rfl
 have HF:Hid (stT l c own seq nw=storeT l c own seq):=hid (by unfold storeT;rw [hlw])
 have HE1:=hid (entsW_one l)
 have B0:=hid (below_alloc1 w (CmObj ra nr rc wa nw wc aa na ac c.fuel ca nc cc))
 have C0:Hid (Bk (w.alloc (CmObj ra nr rc wa nw wc aa na ac c.fuel ca nc cc)) w.heap.size 56 #[.slice ra nr rc,.slice wa nw wc,.slice aa na ac,.int .i64 c.fuel,.slice ca nc cc]):=hid (Bk.new w _ _)
 clear hC hL h8 hs hf hln hO hbn h8o hlw
 generalize c.fuel=F at *
 have EM:=own_empty (w.alloc (CmObj ra nr rc wa nw wc aa na ac F ca nc cc)) 76 9 (w.heap.size + 1) (by simp)
 rw [World.size_alloc] at EM
 have EM:=hid EM
 go_enter Tryz.func50,Tryz.ntmps50
 go_wp2_with (at_builtin;go_must (refine append_sl rfl (.tmp 11) (.tmp 12) _ rfl (w.heap.size + 1) 76 iE _ 9 72 Tryz.underlying26 hie he0 hes heb rfl (by decide) _ 0 [] rfl EM.out lA ln lc _ rfl (hEn.out _ (bnext B0.out (below_alloc1 _ _))) HE1.out (by unfold maxLen;omega) (by omega) (by simp) ?_;intro v' w3 ho3 hg3;have B3:Hid (Below (w.alloc (CmObj ra nr rc wa nw wc aa na ac F ca nc cc)).heap.size (w.alloc (CmObj ra nr rc wa nw wc aa na ac F ca nc cc)) w3):=hid (((Below.refl _ _).alloc (Nat.le_refl _) _).grown hg3 (by simp) (fun q hq=>by have:=own_ge EM.out hq;rw [World.size_alloc];omega));obtain ⟨eA,ec,rfl,-⟩:=Sl.own ho3;simp only [Nat.zero_add,List.nil_append] at ho3;have O3:Hid (w3.ownsRow (w.heap.size + 1) 76 9 (.slice eA ln ec) ln (entsW l)):=hid ho3;clear ho3 hg3))
 have B2:=hid (bnext B0.out B3.out)
 have C2:=hid (C0.out.below B3.out)
 clear B0 C0 B3 EM
 go_loopw [10] (fun ii wr=>∃ (k:Nat),k≤nw∧ii=.int .i64 (k:Int)∧Hid (Below w.heap.size w wr)∧Hid (Bk wr w.heap.size 56 #[.slice ra nr rc,.slice wa nw wc,.slice aa na ac,.int .i64 F,.slice ca nc cc])∧Hid (wr.ownsRow (w.heap.size + 1) 76 9 (.slice eA ln ec) ln (entsW (stT l c own seq k)))) (fun ii _=>nw - (intOf ii).toNat)
 case atStart=>exact ⟨0,Nat.zero_le _,rfl,B2,C2,O3⟩
 case round=>
  clear B2 O3 C2
  obtain ⟨k,hk,rfl,HB,HC,HO⟩:=hrel
  obtain ⟨f0,f1,f2,f3,f4,ff⟩:=HC.out.cmd
  have fl:=HC.out.lt
  by_cases hlt:k < nw
  ·have d1:(k:Int) < (nw:Int):=by omega
   have d2:(k:Int) < (wc:Int):=by omega
   obtain ⟨i,a0,a1,a2,a3,a4,a5,a6,a7,hi,hwr,hrg,hst⟩:=hK.out k hlt wr HB.out
   obtain ⟨hst1,hst2⟩:=hst _ rfl
   obtain ⟨b,off,rfl,hbl,hv⟩:=hwr
   obtain ⟨ob,oo,rfl,hol,hr⟩:=hrg
   obtain ⟨g,cur,rfl,hgB,hgk,hgc,-,hgs,hgt⟩:=own_pos HO.out (by omega)
   have d3:(i:Int) < (ln:Int):=by omega
   have d4:(i:Int) < (ec:Int):=by omega
   obtain ⟨m,hm⟩:∃ m,m=nr + k:=⟨_,rfl⟩
   have hwr:IntKind.i64.wrap ((nr:Int) + (k:Int))=(m:Int):=by rw [hm,IntWalk.i64_in _ (by omega)];omega
   have d5:(m:Int) < (bn:Int):=by omega
   have d6:(m:Int) < (bc:Int):=by omega
   rw [← hm] at hr
   clear hm
   have GK:=hid hgk
   have GS:=hid hgs
   have hr2:=run_loadVar_mid (P:=Tryz.prog) wr ob (oo + m * 8) 74 _ _ hr Tryz.underlying74 rfl infoBlk8
   have HLB:Hid (∀ X,Below wr.heap.size wr X→(loadVar 74 ⟨ob,oo + m * 8,none⟩).run Tryz.prog X=.ok (.agg #[.int .i64 a0,.int .i64 a1,.int .i64 a2,.int .i64 a3,.int .i64 a4,.int .i64 a5,.int .i64 a6,.int .i64 a7]) X):=hid (fun X hX=>run_loadVar_mid (P:=Tryz.prog) X ob (oo + m * 8) 74 _ _ (fun j v hv=>(hX.cell (p:=⟨ob,oo + m * 8 + j,none⟩) hol).trans (hr j v hv)) Tryz.underlying74 rfl infoBlk8)
   have hQ:Hid (∀ X,Below wr.heap.size wr X→X.cell? ⟨w.heap.size,0,none⟩=some (.slice ra nr rc)∧X.cell? ⟨w.heap.size,1,none⟩=some (.slice (some ⟨b,off,none⟩) nw wc)∧X.cell? ⟨b,off + k,none⟩=some (.int .i64 (i:Int))∧True):=hid (fun X hX=>⟨(HC.out.below hX).cell 0,(HC.out.below hX).cell 1,(hX.cell (p:=⟨b,off + k,none⟩) hbl).trans hv,trivial⟩)
   obtain ⟨E,hE⟩:∃ E:Array Value,E = #[.int .i64 a0,.int .i64 a1,.int .i64 a2,.int .i64 a3,.int .i64 a4,.int .i64 a5,.int .i64 a6,.int .i64 a7,.int .i64 seq]:=⟨_,rfl⟩
   have HS:Hid (setL (entsW (stT l c own seq k)) (i * 9) E.toList=entsW (stT l c own seq (k + 1))):=hid (by rw [hE];exact hst2)
   have HE:=hid (congrArg Value.agg hE.symm)
   have E9:E.size=9:=by rw [hE];rfl
   have EI:(Tryz.prog.info? 76).map (·.size)=some E.size:=by rw [E9];exact infoEnt9
   have EA:E.all (·.oneCell')=true:=by rw [hE];simp [Value.oneCell']
   clear hE
   clear hr hr2 hst1 hst2 hgk hgs hgt hv
   go_wp2
   try simp only [List.append_eq,List.cons_append,List.nil_append]
   refine wp_region_saysK 17 (fun x y=>Below x.heap.size x y) (fun _ _ _ h k=>bnext h k) wr (below_drew1 wr) (by kernel_rfl) (by kernel_rfl) (by kernel_rfl) (by kernel_rfl) (by rfl) ?_
   simp only [List.take_succ_cons,List.take_zero,List.drop_succ_cons,List.drop_zero]
   iterate 13
    refine wkI ?_ (fun u X hX hd=>?_) ?_
    rotate_left
    ·obtain ⟨q0,q1,q2,q3⟩:=hQ.out X hX
     try simp at hd
     go_simp
     try rfl
   refine wkI (.agg #[.int .i64 a0,.int .i64 a1,.int .i64 a2,.int .i64 a3,.int .i64 a4,.int .i64 a5,.int .i64 a6,.int .i64 a7]) (fun u X hX hd=>?_) ?_
   ·have hl:=HLB.out X hX
    try simp at hd
    refine op_load_at 74 ob (oo + m * 8) hl _ rfl ?_
    go_simp
   iterate 3
    refine wkI ?_ (fun u X hX hd=>?_) ?_
    rotate_left
    ·obtain ⟨q0,q1,q2,q3⟩:=hQ.out X hX
     try simp at hd
     go_simp
     try rfl
   intro u X hX hsay
   simp only [sayAll,isV] at hsay
   obtain ⟨v0,v1,v2,v3,v4,v5,v6,v7,v8,v9,v10,v11,v12,v13,v14,v15,v16,-⟩:=hsay
   have GT:Hid (∀ m,m=9→X.there g (i * 9) m):=hid (fun m hm=>(GK.out.below hX).there (by rw [GS.out,hm];omega))
   have B5:=hid (bnext HB.out hX)
   have C5:=hid (HC.out.below hX)
   have O5:=hid (own_below HO.out hX)
   simp only [putAll,Act.put,v0,v1,v2,v3,v4,v5,v6,v7,v8,v9,v10,v11,v12,v13,v14,v15,v16,List.setIfInBounds_toArray,List.set_cons_succ,List.set_cons_zero]
   clear v0 v1 v2 v3 v4 v5 v6 v7 v8 v9 v10 v11 v12 v13 v14 v15 v16 f0 f1 f2 f3 f4 ff fl
   go_wp2_with (refine wpList_store_mid rfl 76 _ _ rfl g (i * 9) E rfl HE.out (GT.out _ E9) EI EA ?_)
   go_roundw
   case rel=>
    refine ⟨k + 1,by omega,by go_num,hid (below_setCells B5.out (by omega) _ _),hid (C5.out.setCells (by omega) _ _),hid ?_⟩
    rw [← HS.out]
    exact own_setCells _ _ O5.out
   case measure=>simp [intOf];omega
  ·obtain rfl:nw=k:=by omega
   have d1:decide ((nw:Int) < (nw:Int))=false:=decide_eq_false (by omega)
   clear hlt
   go_wp2
   go_ret
   refine ⟨_,_,rfl,?_,HB.out⟩
   rw [← HF.out]
   exact own_lower HO.out (Nat.le_succ _)
end
end
end Go.Proofs.YtpaocjpjlogkgaaGreat
