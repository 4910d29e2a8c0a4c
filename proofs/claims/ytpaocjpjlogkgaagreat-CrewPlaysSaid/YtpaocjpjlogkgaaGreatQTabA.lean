/-
  Words and contracts of this claim, 3 texts laid into one, each under its own remark. No conditions but those that stand at each.
-/
import Derived.Test.YtpaocjpjlogkgaaGreatQEntM
import Derived.Test.YtpaocjpjlogkgaaGreatZMchB
import Derived.OwnWalk
import Derived.Test.YtpaocjpjlogkgaaGreatQQueP
import Derived.Test.YtpaocjpjlogkgaaGreatQWords
import Derived.Test.YtpaocjpjlogkgaaGreatQMchC
import Derived.Lib.Agree
namespace Go.Proofs.YtpaocjpjlogkgaaGreat
set_option maxRecDepth 100000
set_option maxHeartbeats 32000000
open Go
open Go.Lib (hid)
section
open Go.RowKit
theorem has_yes (A:Option Addr) (n c i:Nat) (w:World) (hi:i < n) :
  Calls Tryz.prog 110 #[.slice A n c,.int .i64 (i:Int)] w fun e w'=>e=.returned (.bool true)∧w=w':=by
 have d1:(i:Int) < (n:Int):=by omega
 have d2:(0:Int)≤(i:Int):=by omega
 go_enter Tryz.func110,Tryz.ntmps110
 go_wp2
 go_ret
 exact ⟨rfl,rfl⟩
theorem cells_in (l:List Ent) (A:Option Addr) (n c i:Nat) (w:World) (h:Ents w A c l) (h8:Eight l) (hn:l.length=n) (hi:i < n) :
  Calls Tryz.prog 74 #[.slice A n c,.int .i64 (i:Int)] w fun e w'=>e=.returned (.agg (bkC (l[i]?.getD entZ).cells))∧Below w.heap.size w w':=by
 subst hn
 have hc:=h.2.1
 have d1:(i:Int) < (l.length:Int):=by omega
 have d2:(i:Int) < (c:Int):=by omega
 have hy:=hid (fun W=>has_yes A l.length c i W hi)
 obtain ⟨g,off,rfl,hg,hr⟩:=h.range h8 hi
 have hl:=h8.at i
 generalize l[i]?.getD entZ=x at *
 generalize l.length=n at *
 have B0:=hid ((Below.refl w.heap.size w).alloc (Nat.le_refl _) (.cells (bkC (List.replicate 8 0)) 74))
 have N0:=hid (Bk.new w 74 (bkC (List.replicate 8 0)))
 rw [bkC_noughts] at B0 N0
 have R0:=hid ((hr _ B0.out).2.1)
 have i8:(Tryz.prog.info? 74).map (·.size)=some (x.cells.map (Value.int .i64)).length:=by rw [List.length_map,hl];exact infoBlk8
 have i8':=infoBlk hl
 have s8:(bkC x.cells).size=8:=by rw [bkC_size,hl]
 clear h h8 hr
 go_enter Tryz.func74,Tryz.ntmps74
 go_wp2_with (first
  | (go_at_call 110;go_must ((with_reducible refine (hy.out _).mono ?_);rintro e w1 ⟨rfl,rfl⟩))
  | (refine wpList_load_mid rfl 74 _ rfl g (off + i * 9) rfl _ _ R0.out Tryz.underlying74 rfl i8 ?_)
  | (refine wpList_store_row rfl 74 _ _ rfl w.heap.size (bkC x.cells) rfl rfl 74 _ N0.out i8' (by rw [s8];rfl) (bkC_all x.cells) ?_))
 exact bodyPost_ret (v:=.agg (bkC x.cells)) (results_cell_row rfl _ _ w.heap.size _ _ (0,0) _ rfl (Bk.setRow N0.out _) Tryz.underlying74 rfl i8') rfl ⟨rfl,below_row B0.out (Nat.le_refl _) _⟩
def NewPost (n:Nat) (w:World) (e:Ending) (w':World):Prop:=
 ∃ A c,e=.returned (.slice A n c)∧w'.ownsRow w.heap.size 76 9 (.slice A n c) n (entsW (List.replicate n entZ))∧Below w.heap.size w w'
theorem rnew_any (n:Nat) (hn:n≤1000) (w:World):Calls Tryz.prog 17 #[.int .i64 (n:Int)] w (NewPost n w):=by
 obtain ⟨i0,hi,hz0,hz1,hz2⟩:=infoEntZ
 have hm:=made_ents n
 by_cases h0:0 < n
 ·skip
  go_enter Tryz.func17,Tryz.ntmps17
  go_wp2_with (refine wpList_make_full _ rfl _ _ _ rfl w.heap.size 76 i0 (.agg (bkC (entI entZ))) 9 Tryz.underlying26 hi hz0 hz1 .i64 .i64 _ _ n rfl rfl (by simp) (by simp) (by rw [hz2];omega) (by unfold maxLen;omega) (Nat.le_refl _) ?_;intro w1 ho hg)
  have ho':w1.ownsRow w.heap.size 76 9 (.slice (some ⟨w.heap.size,0,none⟩) n n) n (entsW (List.replicate n entZ)):=by rw [← hm];exact ho
  have HO:=hid ho'
  have HG:=hid (bfresh hg)
  clear ho ho' hg
  go_wp2
  go_ret
  exact ⟨_,_,rfl,HO.out,HG.out⟩
 ·obtain rfl:n=0:=by omega
  clear h0
  go_enter Tryz.func17,Tryz.ntmps17
  go_wp2_with (refine wpList_make_full _ rfl _ _ _ rfl w.heap.size 76 i0 (.agg (bkC (entI entZ))) 9 Tryz.underlying26 hi hz0 hz1 .i64 .i64 _ _ 0 rfl rfl (by simp) (by simp) (by rw [hz2];omega) (by unfold maxLen;omega) (Nat.le_refl _) ?_;intro w1 ho hg)
  have ho':w1.ownsRow w.heap.size 76 9 (.slice (some ⟨w.heap.size,0,none⟩) 0 0) 0 (entsW (List.replicate 0 entZ)):=by rw [← hm];exact ho
  have HO:=hid ho'
  have HG:=hid (bfresh hg)
  clear ho ho' hg
  go_wp2
  go_ret
  exact ⟨_,_,rfl,HO.out,HG.out⟩
end
section
open Go.RowKit
theorem eight_is {b:List Int} (h:b.length=8):∃ a0 a1 a2 a3 a4 a5 a6 a7:Int,b=[a0,a1,a2,a3,a4,a5,a6,a7]:=by
 match b,h with
 | [a0,a1,a2,a3,a4,a5,a6,a7],_=>exact ⟨a0,a1,a2,a3,a4,a5,a6,a7,rfl⟩
theorem blksW_snoc (xs:Blks) (x:List Int):blksW (xs ++ [x])=blksW xs ++ x.map (.int .i64):=by simp [blksW]
theorem fits_block {c:Cmd} {n:Nat} (hs:setsN c) (hf:fitsT c n) {x:Int} (hx:x∈blocksN c):0≤x∧x < n:=by
 rcases List.mem_append.1 hx with h | h
 ·exact ⟨risesT_ge hs.1 x h,hf.1 x h⟩
 ·exact ⟨risesT_ge hs.2.1 x h,hf.2 x h⟩
theorem load_next {l:List Ent} {c:Cmd} (h8:Eight l) (hs:setsN c) (hf:fitsT c l.length) {j:Nat} (hj:j < c.reads.length + c.writes.length) :
  ∃ (i:Nat) (a0 a1 a2 a3 a4 a5 a6 a7:Int),(blocksN c)[j]?.getD 0=(i:Int)∧i < l.length∧(l[i]?.getD entZ).cells=[a0,a1,a2,a3,a4,a5,a6,a7]∧blksW ((loadT l c).take (j + 1))=blksW ((loadT l c).take j) ++ (#[.int .i64 a0,.int .i64 a1,.int .i64 a2,.int .i64 a3,.int .i64 a4,.int .i64 a5,.int .i64 a6,.int .i64 a7]:Array Value).toList:=by
 have hlen:j < (blocksN c).length:=by simpa [blocksN] using hj
 have hx:(blocksN c)[j]∈blocksN c:=List.getElem_mem _
 obtain ⟨h1,h2⟩:=fits_block hs hf hx
 obtain ⟨i,hi⟩:=Int.eq_ofNat_of_zero_le h1
 obtain ⟨a0,a1,a2,a3,a4,a5,a6,a7,he⟩:=eight_is (h8.at i)
 refine ⟨i,a0,a1,a2,a3,a4,a5,a6,a7,by rw [List.getElem?_eq_getElem hlen];exact hi,by omega,he,?_⟩
 have hl:(loadT l c)[j]? = some [a0,a1,a2,a3,a4,a5,a6,a7]:=by
  unfold loadT
  rw [List.getElem?_map,List.getElem?_eq_getElem hlen,Option.map_some,hi,Int.toNat_natCast,he]
 rw [List.take_add_one,hl,Option.toList_some,blksW_snoc]
 rfl
theorem reads_at {c:Cmd} {j:Nat} (hj:j < c.reads.length):(blocksN c)[j]?.getD 0=c.reads[j]?.getD 0:=by
 unfold blocksN
 rw [List.getElem?_append_left hj]
theorem writes_at {c:Cmd} (j:Nat):(blocksN c)[c.reads.length + j]?.getD 0=c.writes[j]?.getD 0:=by
 unfold blocksN
 rw [List.getElem?_append_right (by omega),Nat.add_sub_cancel_left]
def LoadPost (l:List Ent) (c:Cmd) (n:Nat) (w:World) (e:Ending) (w':World):Prop:=
 ∃ A k,e=.returned (.slice A n k)∧w'.ownsRow w.heap.size 74 8 (.slice A n k) n (blksW (loadT l c))∧Below w.heap.size w w'
section
variable (ra:Option Addr) (nr rc:Nat) (wa:Option Addr) (nw wc:Nat) (aa:Option Addr) (na ac:Nat) (ca:Option Addr) (nc cc:Nat)
theorem load_any (c:Cmd) (l:List Ent) (lA:Option Addr) (ln lc:Nat) (w:World) (hC:CmIn w c ra nr rc wa nw wc aa na ac ca nc cc) (hL:Ents w lA lc l) (h8:Eight l) (hs:setsN c) (hf:fitsT c l.length) (hln:l.length=ln) :
  Calls Tryz.prog 37 #[.slice lA ln lc,cmV ra nr rc wa nw wc aa na ac c.fuel ca nc cc] w (LoadPost l c (nr + nw) w):=by
 have hbr:=hC.br
 have hbw:=hC.bw
 have hrc:nr≤rc:=by have:=hC.reads.2.1;rw [hC.lr] at this;exact this
 have hwc:nw≤wc:=by have:=hC.writes.2.1;rw [hC.lw] at this;exact this
 have hlc:ln≤lc:=by have:=hL.2.1;rw [hln] at this;exact this
 obtain ⟨iB,hib,hb0,hbs,hbb⟩:=infoBlkZ
 have HLL:Hid ((loadT l c).length=nr + nw):=hid (by rw [load_length,hC.lr,hC.lw])
 have HF:Hid (∀ (W:World) (v:Value) (n:Nat) (xs:List Value),W.ownsRow (w.heap.size + 1) 74 8 v n xs→v.ownBlock≠some w.heap.size):=hid (fun W v n xs h=>own_ne h (by omega))
 have hK1:Hid (∀ k,k < nr→∀ W,Below w.heap.size w W→∃ (i:Nat) (a0 a1 a2 a3 a4 a5 a6 a7:Int),c.reads[k]?.getD 0=(i:Int)∧i < ln ∧
   Calls Tryz.prog 74 #[.slice lA ln lc,.int .i64 (i:Int)] W (fun e w'=>e=.returned (.agg #[.int .i64 a0,.int .i64 a1,.int .i64 a2,.int .i64 a3,.int .i64 a4,.int .i64 a5,.int .i64 a6,.int .i64 a7])∧Below W.heap.size W w') ∧
   (∃ b off,ra=some ⟨b,off,none⟩∧b < W.heap.size∧W.cell? ⟨b,off + k,none⟩=some (.int .i64 (i:Int))) ∧
   (∃ g off,lA=some ⟨g,off,none⟩∧W.rangeAt g (off + i * 9) (#[.int .i64 a0,.int .i64 a1,.int .i64 a2,.int .i64 a3,.int .i64 a4,.int .i64 a5,.int .i64 a6,.int .i64 a7]:Array Value).toList) ∧
   blksW ((loadT l c).take (k + 1))=blksW ((loadT l c).take (k)) ++ (#[.int .i64 a0,.int .i64 a1,.int .i64 a2,.int .i64 a3,.int .i64 a4,.int .i64 a5,.int .i64 a6,.int .i64 a7]:Array Value).toList):=hid (fun k hk W hW=>by
  obtain ⟨i,a0,a1,a2,a3,a4,a5,a6,a7,h1,h2,h3,h4⟩:=load_next (j:=k) h8 hs hf (by rw [hC.lr,hC.lw];omega)
  have e:c.reads[k]?.getD 0=(i:Int):=by rw [← h1,reads_at (by rw [hC.lr];exact hk)]
  have hcl:=cells_in l lA ln lc i W (hL.below hW) h8 hln (by omega)
  rw [h3] at hcl
  obtain ⟨g,off,rfl,hg,hr⟩:=hL.range h8 h2
  have hr2:=(hr W hW).2.1
  rw [h3] at hr2
  obtain ⟨b,o,eb,hb,hv⟩:=Sl.int (hC.reads.below hW) (j:=k) (by rw [hC.lr];exact hk)
  rw [e] at hv
  exact ⟨i,a0,a1,a2,a3,a4,a5,a6,a7,e,by omega,hcl,⟨b,o,eb,hb,hv⟩,⟨g,off,rfl,hr2⟩,h4⟩)
 have hK2:Hid (∀ k,k < nw→∀ W,Below w.heap.size w W→∃ (i:Nat) (a0 a1 a2 a3 a4 a5 a6 a7:Int),c.writes[k]?.getD 0=(i:Int)∧i < ln ∧
   Calls Tryz.prog 74 #[.slice lA ln lc,.int .i64 (i:Int)] W (fun e w'=>e=.returned (.agg #[.int .i64 a0,.int .i64 a1,.int .i64 a2,.int .i64 a3,.int .i64 a4,.int .i64 a5,.int .i64 a6,.int .i64 a7])∧Below W.heap.size W w') ∧
   (∃ b off,wa=some ⟨b,off,none⟩∧b < W.heap.size∧W.cell? ⟨b,off + k,none⟩=some (.int .i64 (i:Int))) ∧
   (∃ g off,lA=some ⟨g,off,none⟩∧W.rangeAt g (off + i * 9) (#[.int .i64 a0,.int .i64 a1,.int .i64 a2,.int .i64 a3,.int .i64 a4,.int .i64 a5,.int .i64 a6,.int .i64 a7]:Array Value).toList) ∧
   blksW ((loadT l c).take (nr + k + 1))=blksW ((loadT l c).take (nr + k)) ++ (#[.int .i64 a0,.int .i64 a1,.int .i64 a2,.int .i64 a3,.int .i64 a4,.int .i64 a5,.int .i64 a6,.int .i64 a7]:Array Value).toList):=hid (fun k hk W hW=>by
  obtain ⟨i,a0,a1,a2,a3,a4,a5,a6,a7,h1,h2,h3,h4⟩:=load_next (j:=nr + k) h8 hs hf (by rw [hC.lr,hC.lw];omega)
  have e:c.writes[k]?.getD 0=(i:Int):=by rw [← h1,← hC.lr,writes_at k]
  have hcl:=cells_in l lA ln lc i W (hL.below hW) h8 hln (by omega)
  rw [h3] at hcl
  obtain ⟨g,off,rfl,hg,hr⟩:=hL.range h8 h2
  have hr2:=(hr W hW).2.1
  rw [h3] at hr2
  obtain ⟨b,o,eb,hb,hv⟩:=Sl.int (hC.writes.below hW) (j:=k) (by rw [hC.lw];exact hk)
  rw [e] at hv
  exact ⟨i,a0,a1,a2,a3,a4,a5,a6,a7,e,by omega,hcl,⟨b,o,eb,hb,hv⟩,⟨g,off,rfl,hr2⟩,h4⟩)
 have B0:=hid (below_alloc1 w (CmObj ra nr rc wa nw wc aa na ac c.fuel ca nc cc))
 have C0:Hid (Bk (w.alloc (CmObj ra nr rc wa nw wc aa na ac c.fuel ca nc cc)) w.heap.size 56 #[.slice ra nr rc,.slice wa nw wc,.slice aa na ac,.int .i64 c.fuel,.slice ca nc cc]):=hid (Bk.new w _ _)
 obtain ⟨f0,f1,f2,f3,f4,ff⟩:=C0.out.cmd
 clear hC hL h8 hs hf hln
 generalize c.fuel=F at *
 go_enter Tryz.func37,Tryz.ntmps37
 go_wp2_with (refine wpList_make_own _ rfl _ _ _ rfl (w.heap.size + 1) 74 iB (.agg (bkC (List.replicate 8 0))) 8 Tryz.underlying65 hib hb0 hbs .i64 .i64 _ (nr + nw) rfl rfl (by omega) (by rw [hbb];omega) (by unfold maxLen;omega) (by simp) ?_;intro w1 ho1 hg1;have B1:Hid (Below w.heap.size w w1):=hid (B0.out.grown hg1 (by simp) (by simp));have C1:Hid (Bk w1 w.heap.size 56 #[.slice ra nr rc,.slice wa nw wc,.slice aa na ac,.int .i64 F,.slice ca nc cc]):=hid (C0.out.grown hg1 (by simp));rw [World.size_alloc] at ho1;have O1:=hid ho1;clear ho1 hg1 f0 f1 f2 f3 f4 ff;obtain ⟨f0,f1,f2,f3,f4,ff⟩:=C1.out.cmd;have fl:=C1.out.lt)
 clear C0 B0
 go_loopw [21,5] (fun ii ss wr=>∃ (k:Nat) (bA:Option Addr) (bc:Nat),k≤nr∧ii=.int .i64 (k:Int)∧ss=.slice bA (k) bc∧Hid (Below w.heap.size w wr)∧Hid (Bk wr w.heap.size 56 #[.slice ra nr rc,.slice wa nw wc,.slice aa na ac,.int .i64 F,.slice ca nc cc])∧Hid (wr.ownsRow (w.heap.size + 1) 74 8 (.slice bA (k) bc) (k) (blksW ((loadT l c).take (k))))) (fun ii _ _=>nr - (intOf ii).toNat)
 case atStart=>exact ⟨0,_,_,Nat.zero_le _,rfl,rfl,B1,C1,O1⟩
 case round=>
  clear B1 C1 O1 f0 f1 f2 f3 f4 ff fl
  obtain ⟨k,bA,bc,hk,rfl,rfl,HB,HC,HO⟩:=hrel
  obtain ⟨f0,f1,f2,f3,f4,ff⟩:=HC.out.cmd
  have fl:=HC.out.lt
  by_cases hlt:k < nr
  ·have d1:(k:Int) < (nr:Int):=by omega
   have d2:(k:Int) < (rc:Int):=by omega
   obtain ⟨i,a0,a1,a2,a3,a4,a5,a6,a7,hi,hin,hcl,hcel,hrng,htk⟩:=hK1.out k hlt wr HB.out
   obtain ⟨b,off,rfl,hbl,hv⟩:=hcel
   have HCL:=hid hcl
   have HRG:=hid hrng
   have HTK:=hid htk
   have HI:=hid hi
   clear hcl hrng htk hi
   go_wp2_with (first
    | (go_at_call 74;go_must ((with_reducible refine HCL.out.mono ?_);rintro e w2 ⟨rfl,hb2⟩;have B2:=hid (bnext HB.out hb2);have E2:=hid hb2;clear hb2))
    | (at_builtin;go_must (refine append_row rfl (.tmp 25) (.tmp 29) _ rfl (w.heap.size + 1) 74 iB _ 8 64 Tryz.underlying65 hib hb0 hbs hbb rfl (by decide) _ (k) _ rfl (own_below (own_below HO.out E2.out) (below_alloc1 _ _)) w2.heap.size #[.int .i64 a0,.int .i64 a1,.int .i64 a2,.int .i64 a3,.int .i64 a4,.int .i64 a5,.int .i64 a6,.int .i64 a7] rfl (Bk.new w2 _ _) rfl rfl (by unfold maxLen;omega) (by omega) (by have:=B2.out.size;rw [World.size_alloc];omega) ?_;intro gg cap w4 hown4 hgr)))
   go_roundw
   case rel=>
    have B3:Hid (Below w2.heap.size w2 (w2.alloc (.cells #[.int .i64 a0,.int .i64 a1,.int .i64 a2,.int .i64 a3,.int .i64 a4,.int .i64 a5,.int .i64 a6,.int .i64 a7] 74))):=hid (below_alloc1 _ _)
    have C3:=hid ((HC.out.below E2.out).below B3.out)
    refine ⟨k + 1,some ⟨gg,0,none⟩,cap,by omega,by go_num,by first | rfl | (congr 1;omega),hid ?_,hid ?_,hid ?_⟩
    ·exact (bnext B2.out B3.out).grown hgr (by have:=B2.out.size;rw [World.size_alloc];omega) (fun q hq=>by have:=own_ge HO.out hq;omega)
    ·exact C3.out.grown hgr (fun e=>HF.out _ _ _ _ HO.out e.symm)
    ·first | (rw [HTK.out];exact hown4) | (rw [show nr + (k + 1)=nr + k + 1 by omega,HTK.out];exact hown4)
   case measure=>simp [intOf];omega
  ·obtain rfl:nr=k:=by omega
   have d1:decide ((nr:Int) < (nr:Int))=false:=decide_eq_false (by omega)
   clear hlt
   go_wp2
   clear d1
   go_loopw [35,5] (fun ii ss wr=>∃ (k:Nat) (bA:Option Addr) (bc:Nat),k≤nw∧ii=.int .i64 (k:Int)∧ss=.slice bA (nr + k) bc∧Hid (Below w.heap.size w wr)∧Hid (Bk wr w.heap.size 56 #[.slice ra nr rc,.slice wa nw wc,.slice aa na ac,.int .i64 F,.slice ca nc cc])∧Hid (wr.ownsRow (w.heap.size + 1) 74 8 (.slice bA (nr + k) bc) (nr + k) (blksW ((loadT l c).take (nr + k))))) (fun ii _ _=>nw - (intOf ii).toNat)
   case atStart=>exact ⟨0,_,_,Nat.zero_le _,rfl,rfl,HB,HC,HO⟩
   case round=>
    clear HB HC HO f0 f1 f2 f3 f4 ff fl
    obtain ⟨k,bA,bc,hk,rfl,rfl,HB,HC,HO⟩:=hrel
    obtain ⟨f0,f1,f2,f3,f4,ff⟩:=HC.out.cmd
    have fl:=HC.out.lt
    by_cases hlt:k < nw
    ·have d1:(k:Int) < (nw:Int):=by omega
     have d2:(k:Int) < (wc:Int):=by omega
     obtain ⟨i,a0,a1,a2,a3,a4,a5,a6,a7,hi,hin,hcl,hcel,hrng,htk⟩:=hK2.out k hlt wr HB.out
     obtain ⟨b,off,rfl,hbl,hv⟩:=hcel
     have HCL:=hid hcl
     have HRG:=hid hrng
     have HTK:=hid htk
     have HI:=hid hi
     clear hcl hrng htk hi
     go_wp2_with (first
      | (go_at_call 74;go_must ((with_reducible refine HCL.out.mono ?_);rintro e w2 ⟨rfl,hb2⟩;have B2:=hid (bnext HB.out hb2);have E2:=hid hb2;clear hb2))
      | (at_builtin;go_must (refine append_row rfl (.tmp 39) (.tmp 43) _ rfl (w.heap.size + 1) 74 iB _ 8 64 Tryz.underlying65 hib hb0 hbs hbb rfl (by decide) _ (nr + k) _ rfl (own_below (own_below HO.out E2.out) (below_alloc1 _ _)) w2.heap.size #[.int .i64 a0,.int .i64 a1,.int .i64 a2,.int .i64 a3,.int .i64 a4,.int .i64 a5,.int .i64 a6,.int .i64 a7] rfl (Bk.new w2 _ _) rfl rfl (by unfold maxLen;omega) (by omega) (by have:=B2.out.size;rw [World.size_alloc];omega) ?_;intro gg cap w4 hown4 hgr)))
     go_roundw
     case rel=>
      have B3:Hid (Below w2.heap.size w2 (w2.alloc (.cells #[.int .i64 a0,.int .i64 a1,.int .i64 a2,.int .i64 a3,.int .i64 a4,.int .i64 a5,.int .i64 a6,.int .i64 a7] 74))):=hid (below_alloc1 _ _)
      have C3:=hid ((HC.out.below E2.out).below B3.out)
      refine ⟨k + 1,some ⟨gg,0,none⟩,cap,by omega,by go_num,by first | rfl | (congr 1;omega),hid ?_,hid ?_,hid ?_⟩
      ·exact (bnext B2.out B3.out).grown hgr (by have:=B2.out.size;rw [World.size_alloc];omega) (fun q hq=>by have:=own_ge HO.out hq;omega)
      ·exact C3.out.grown hgr (fun e=>HF.out _ _ _ _ HO.out e.symm)
      ·first | (rw [HTK.out];exact hown4) | (rw [show nr + (k + 1)=nr + k + 1 by omega,HTK.out];exact hown4)
     case measure=>simp [intOf];omega
    ·obtain rfl:nw=k:=by omega
     have d1:decide ((nw:Int) < (nw:Int))=false:=decide_eq_false (by omega)
     clear hlt
     go_wp2
     go_ret
     refine ⟨bA,bc,rfl,?_,HB.out⟩
     have:=HO.out
     have:=own_lower this (Nat.le_succ w.heap.size)
     rwa [List.take_of_length_le (by rw [HLL.out];exact Nat.le_refl _)] at this
theorem rload_any (c:Cmd) (l:List Ent) (lA:Option Addr) (ln lc:Nat) (w:World) (hC:CmIn w c ra nr rc wa nw wc aa na ac ca nc cc) (hL:Ents w lA lc l) (h8:Eight l) (hs:setsN c) (hf:fitsT c l.length) (hln:l.length=ln) :
  Calls Tryz.prog 42 #[.slice lA ln lc,cmV ra nr rc wa nw wc aa na ac c.fuel ca nc cc] w (LoadPost l c (nr + nw) w):=by
 have hbr:=hC.br
 have hbw:=hC.bw
 have hrc:nr≤rc:=by have:=hC.reads.2.1;rw [hC.lr] at this;exact this
 have hwc:nw≤wc:=by have:=hC.writes.2.1;rw [hC.lw] at this;exact this
 have hlc:ln≤lc:=by have:=hL.2.1;rw [hln] at this;exact this
 obtain ⟨iB,hib,hb0,hbs,hbb⟩:=infoBlkZ
 have HLL:Hid ((loadT l c).length=nr + nw):=hid (by rw [load_length,hC.lr,hC.lw])
 have HF:Hid (∀ (W:World) (v:Value) (n:Nat) (xs:List Value),W.ownsRow (w.heap.size + 1) 74 8 v n xs→v.ownBlock≠some w.heap.size):=hid (fun W v n xs h=>own_ne h (by omega))
 have hK1:Hid (∀ k,k < nr→∀ W,Below w.heap.size w W→∃ (i:Nat) (a0 a1 a2 a3 a4 a5 a6 a7:Int),c.reads[k]?.getD 0=(i:Int)∧i < ln ∧
   Calls Tryz.prog 74 #[.slice lA ln lc,.int .i64 (i:Int)] W (fun e w'=>e=.returned (.agg #[.int .i64 a0,.int .i64 a1,.int .i64 a2,.int .i64 a3,.int .i64 a4,.int .i64 a5,.int .i64 a6,.int .i64 a7])∧Below W.heap.size W w') ∧
   (∃ b off,ra=some ⟨b,off,none⟩∧b < W.heap.size∧W.cell? ⟨b,off + k,none⟩=some (.int .i64 (i:Int))) ∧
   (∃ g off,lA=some ⟨g,off,none⟩∧W.rangeAt g (off + i * 9) (#[.int .i64 a0,.int .i64 a1,.int .i64 a2,.int .i64 a3,.int .i64 a4,.int .i64 a5,.int .i64 a6,.int .i64 a7]:Array Value).toList) ∧
   blksW ((loadT l c).take (k + 1))=blksW ((loadT l c).take (k)) ++ (#[.int .i64 a0,.int .i64 a1,.int .i64 a2,.int .i64 a3,.int .i64 a4,.int .i64 a5,.int .i64 a6,.int .i64 a7]:Array Value).toList):=hid (fun k hk W hW=>by
  obtain ⟨i,a0,a1,a2,a3,a4,a5,a6,a7,h1,h2,h3,h4⟩:=load_next (j:=k) h8 hs hf (by rw [hC.lr,hC.lw];omega)
  have e:c.reads[k]?.getD 0=(i:Int):=by rw [← h1,reads_at (by rw [hC.lr];exact hk)]
  have hcl:=cells_in l lA ln lc i W (hL.below hW) h8 hln (by omega)
  rw [h3] at hcl
  obtain ⟨g,off,rfl,hg,hr⟩:=hL.range h8 h2
  have hr2:=(hr W hW).2.1
  rw [h3] at hr2
  obtain ⟨b,o,eb,hb,hv⟩:=Sl.int (hC.reads.below hW) (j:=k) (by rw [hC.lr];exact hk)
  rw [e] at hv
  exact ⟨i,a0,a1,a2,a3,a4,a5,a6,a7,e,by omega,hcl,⟨b,o,eb,hb,hv⟩,⟨g,off,rfl,hr2⟩,h4⟩)
 have hK2:Hid (∀ k,k < nw→∀ W,Below w.heap.size w W→∃ (i:Nat) (a0 a1 a2 a3 a4 a5 a6 a7:Int),c.writes[k]?.getD 0=(i:Int)∧i < ln ∧
   Calls Tryz.prog 74 #[.slice lA ln lc,.int .i64 (i:Int)] W (fun e w'=>e=.returned (.agg #[.int .i64 a0,.int .i64 a1,.int .i64 a2,.int .i64 a3,.int .i64 a4,.int .i64 a5,.int .i64 a6,.int .i64 a7])∧Below W.heap.size W w') ∧
   (∃ b off,wa=some ⟨b,off,none⟩∧b < W.heap.size∧W.cell? ⟨b,off + k,none⟩=some (.int .i64 (i:Int))) ∧
   (∃ g off,lA=some ⟨g,off,none⟩∧W.rangeAt g (off + i * 9) (#[.int .i64 a0,.int .i64 a1,.int .i64 a2,.int .i64 a3,.int .i64 a4,.int .i64 a5,.int .i64 a6,.int .i64 a7]:Array Value).toList) ∧
   blksW ((loadT l c).take (nr + k + 1))=blksW ((loadT l c).take (nr + k)) ++ (#[.int .i64 a0,.int .i64 a1,.int .i64 a2,.int .i64 a3,.int .i64 a4,.int .i64 a5,.int .i64 a6,.int .i64 a7]:Array Value).toList):=hid (fun k hk W hW=>by
  obtain ⟨i,a0,a1,a2,a3,a4,a5,a6,a7,h1,h2,h3,h4⟩:=load_next (j:=nr + k) h8 hs hf (by rw [hC.lr,hC.lw];omega)
  have e:c.writes[k]?.getD 0=(i:Int):=by rw [← h1,← hC.lr,writes_at k]
  have hcl:=cells_in l lA ln lc i W (hL.below hW) h8 hln (by omega)
  rw [h3] at hcl
  obtain ⟨g,off,rfl,hg,hr⟩:=hL.range h8 h2
  have hr2:=(hr W hW).2.1
  rw [h3] at hr2
  obtain ⟨b,o,eb,hb,hv⟩:=Sl.int (hC.writes.below hW) (j:=k) (by rw [hC.lw];exact hk)
  rw [e] at hv
  exact ⟨i,a0,a1,a2,a3,a4,a5,a6,a7,e,by omega,hcl,⟨b,o,eb,hb,hv⟩,⟨g,off,rfl,hr2⟩,h4⟩)
 have B0:=hid (below_alloc1 w (CmObj ra nr rc wa nw wc aa na ac c.fuel ca nc cc))
 have C0:Hid (Bk (w.alloc (CmObj ra nr rc wa nw wc aa na ac c.fuel ca nc cc)) w.heap.size 56 #[.slice ra nr rc,.slice wa nw wc,.slice aa na ac,.int .i64 c.fuel,.slice ca nc cc]):=hid (Bk.new w _ _)
 obtain ⟨f0,f1,f2,f3,f4,ff⟩:=C0.out.cmd
 clear hC hL h8 hs hf hln
 generalize c.fuel=F at *
 go_enter Tryz.func42,Tryz.ntmps42
 go_wp2
 have B1:=B0
 have C1:=C0
 have O1:Hid ((w.alloc (CmObj ra nr rc wa nw wc aa na ac F ca nc cc)).ownsRow (w.heap.size + 1) 74 8 (.slice none 0 0) 0 []):=hid (nilRow _ _ _ _)
 clear C0 B0 f0 f1 f2 f3 f4 ff
 go_loopw [6,5] (fun ii ss wr=>∃ (k:Nat) (bA:Option Addr) (bc:Nat),k≤nr∧ii=.int .i64 (k:Int)∧ss=.slice bA (k) bc∧Hid (Below w.heap.size w wr)∧Hid (Bk wr w.heap.size 56 #[.slice ra nr rc,.slice wa nw wc,.slice aa na ac,.int .i64 F,.slice ca nc cc])∧Hid (wr.ownsRow (w.heap.size + 1) 74 8 (.slice bA (k) bc) (k) (blksW ((loadT l c).take (k))))) (fun ii _ _=>nr - (intOf ii).toNat)
 case atStart=>exact ⟨0,_,_,Nat.zero_le _,rfl,rfl,B1,C1,O1⟩
 case round=>
  clear B1 C1 O1
  obtain ⟨k,bA,bc,hk,rfl,rfl,HB,HC,HO⟩:=hrel
  obtain ⟨f0,f1,f2,f3,f4,ff⟩:=HC.out.cmd
  have fl:=HC.out.lt
  by_cases hlt:k < nr
  ·have d1:(k:Int) < (nr:Int):=by omega
   have d2:(k:Int) < (rc:Int):=by omega
   obtain ⟨i,a0,a1,a2,a3,a4,a5,a6,a7,hi,hin,hcl,hcel,hrng,htk⟩:=hK1.out k hlt wr HB.out
   obtain ⟨b,off,rfl,hbl,hv⟩:=hcel
   have HCL:=hid hcl
   have HRG:=hid hrng
   have HTK:=hid htk
   have HI:=hid hi
   clear hcl hrng htk hi
   obtain ⟨eg,eo,rfl,hrg⟩:=HRG.out
   have R2:=hid hrg
   clear hrg
   have e1:(i:Int) < (ln:Int):=by omega
   have e2:(i:Int) < (lc:Int):=by omega
   go_wp2_with (first
    | (refine wpList_load_mid rfl 74 _ rfl eg (eo + i * 9) rfl _ _ R2.out Tryz.underlying74 rfl infoBlk8 ?_)
    | (at_builtin;go_must (refine append_row rfl (.tmp 15) (.tmp 25) _ rfl (w.heap.size + 1) 74 iB _ 8 64 Tryz.underlying65 hib hb0 hbs hbb rfl (by decide) _ (k) _ rfl (own_below HO.out (below_alloc1 _ _)) wr.heap.size #[.int .i64 a0,.int .i64 a1,.int .i64 a2,.int .i64 a3,.int .i64 a4,.int .i64 a5,.int .i64 a6,.int .i64 a7] rfl (Bk.new wr _ _) rfl rfl (by unfold maxLen;omega) (by omega) (by have:=HB.out.size;rw [World.size_alloc];omega) ?_;intro gg cap w4 hown4 hgr)))
   go_roundw
   case rel=>
    have B3:Hid (Below wr.heap.size wr (wr.alloc (.cells #[.int .i64 a0,.int .i64 a1,.int .i64 a2,.int .i64 a3,.int .i64 a4,.int .i64 a5,.int .i64 a6,.int .i64 a7] 74))):=hid (below_alloc1 _ _)
    have C3:=hid (HC.out.below B3.out)
    refine ⟨k + 1,some ⟨gg,0,none⟩,cap,by omega,by go_num,by first | rfl | (congr 1;omega),hid ?_,hid ?_,hid ?_⟩
    ·exact (bnext HB.out B3.out).grown hgr (by have:=HB.out.size;rw [World.size_alloc];omega) (fun q hq=>by have:=own_ge HO.out hq;omega)
    ·exact C3.out.grown hgr (fun e=>HF.out _ _ _ _ HO.out e.symm)
    ·first | (rw [HTK.out];exact hown4) | (rw [show nr + (k + 1)=nr + k + 1 by omega,HTK.out];exact hown4)
   case measure=>simp [intOf];omega
  ·obtain rfl:nr=k:=by omega
   have d1:decide ((nr:Int) < (nr:Int))=false:=decide_eq_false (by omega)
   clear hlt
   have d1':=d1
   go_wp2
   clear d1
   go_loopw [7,5] (fun ii ss wr=>∃ (k:Nat) (bA:Option Addr) (bc:Nat),k≤nw∧ii=.int .i64 (k:Int)∧ss=.slice bA (nr + k) bc∧Hid (Below w.heap.size w wr)∧Hid (Bk wr w.heap.size 56 #[.slice ra nr rc,.slice wa nw wc,.slice aa na ac,.int .i64 F,.slice ca nc cc])∧Hid (wr.ownsRow (w.heap.size + 1) 74 8 (.slice bA (nr + k) bc) (nr + k) (blksW ((loadT l c).take (nr + k))))) (fun ii _ _=>nw - (intOf ii).toNat)
   case atStart=>exact ⟨0,_,_,Nat.zero_le _,rfl,rfl,HB,HC,HO⟩
   case round=>
    clear HB HC HO f0 f1 f2 f3 f4 ff fl
    obtain ⟨k,bA,bc,hk,rfl,rfl,HB,HC,HO⟩:=hrel
    obtain ⟨f0,f1,f2,f3,f4,ff⟩:=HC.out.cmd
    have fl:=HC.out.lt
    by_cases hlt:k < nw
    ·have d1:(k:Int) < (nw:Int):=by omega
     have d2:(k:Int) < (wc:Int):=by omega
     obtain ⟨i,a0,a1,a2,a3,a4,a5,a6,a7,hi,hin,hcl,hcel,hrng,htk⟩:=hK2.out k hlt wr HB.out
     obtain ⟨b,off,rfl,hbl,hv⟩:=hcel
     have HCL:=hid hcl
     have HRG:=hid hrng
     have HTK:=hid htk
     have HI:=hid hi
     clear hcl hrng htk hi
     obtain ⟨eg,eo,rfl,hrg⟩:=HRG.out
     have R2:=hid hrg
     clear hrg
     have e1:(i:Int) < (ln:Int):=by omega
     have e2:(i:Int) < (lc:Int):=by omega
     go_wp2_with (first
      | (refine wpList_load_mid rfl 74 _ rfl eg (eo + i * 9) rfl _ _ R2.out Tryz.underlying74 rfl infoBlk8 ?_)
      | (at_builtin;go_must (refine append_row rfl (.tmp 34) (.tmp 44) _ rfl (w.heap.size + 1) 74 iB _ 8 64 Tryz.underlying65 hib hb0 hbs hbb rfl (by decide) _ (nr + k) _ rfl (own_below HO.out (below_alloc1 _ _)) wr.heap.size #[.int .i64 a0,.int .i64 a1,.int .i64 a2,.int .i64 a3,.int .i64 a4,.int .i64 a5,.int .i64 a6,.int .i64 a7] rfl (Bk.new wr _ _) rfl rfl (by unfold maxLen;omega) (by omega) (by have:=HB.out.size;rw [World.size_alloc];omega) ?_;intro gg cap w4 hown4 hgr)))
     go_roundw
     case rel=>
      have B3:Hid (Below wr.heap.size wr (wr.alloc (.cells #[.int .i64 a0,.int .i64 a1,.int .i64 a2,.int .i64 a3,.int .i64 a4,.int .i64 a5,.int .i64 a6,.int .i64 a7] 74))):=hid (below_alloc1 _ _)
      have C3:=hid (HC.out.below B3.out)
      refine ⟨k + 1,some ⟨gg,0,none⟩,cap,by omega,by go_num,by first | rfl | (congr 1;omega),hid ?_,hid ?_,hid ?_⟩
      ·exact (bnext HB.out B3.out).grown hgr (by have:=HB.out.size;rw [World.size_alloc];omega) (fun q hq=>by have:=own_ge HO.out hq;omega)
      ·exact C3.out.grown hgr (fun e=>HF.out _ _ _ _ HO.out e.symm)
      ·first | (rw [HTK.out];exact hown4) | (rw [show nr + (k + 1)=nr + k + 1 by omega,HTK.out];exact hown4)
     case measure=>simp [intOf];omega
    ·obtain rfl:nw=k:=by omega
     have d1:decide ((nw:Int) < (nw:Int))=false:=decide_eq_false (by omega)
     clear hlt
     go_wp2
     go_ret
     refine ⟨bA,bc,rfl,?_,HB.out⟩
     have:=HO.out
     have:=own_lower this (Nat.le_succ w.heap.size)
     rwa [List.take_of_length_le (by rw [HLL.out];exact Nat.le_refl _)] at this
end
end
section
open Go.RowKit
def fromA (A:Option Addr) (c k size:Nat):Option Addr:=if c=k then A else A.map (·.add (k * size))
theorem run_slice_from {P:Program} (w:World) (t e:TypeId) (i:TypeInfo) (hu:P.underlying t=some (.slice e)) (hi:P.info? e=some i) (A:Option Addr) (n c k:Nat) (hk:k≤n) :
  (Instr.sliceAt t (.slice A n c) (some (.int .i64 (k:Int))) none none).run P w=.ok (.slice (fromA A c k i.size) (n - k) (c - k)) w:=by
 have hm:¬ n < k:=by omega
 unfold fromA
 simp [Instr.sliceAt,Instr.slice,Instr.sliceBounds,Instr.sliceBound,run_underlying hu,asIntOf,sizeOf,typeInfo,hi,go_sem,hm]
theorem Sl.from {w:World} {size n c k:Nat} {A:Option Addr} {xs:List Value} (h:Sl w size A n c xs) (hk:k≤n):Sl w size (fromA A c k size) (n - k) (c - k) (xs.drop (k * size)):=by
 have hnc:=h.2.1
 refine ⟨by rw [List.length_drop,h.1,Nat.sub_mul],by omega,fun e=>?_,fun h0=>?_⟩
 ·unfold fromA at e
  split at e
  next q=>exact ⟨by omega,by omega⟩
  next q=>
   cases A with
   | none=>
    have:=h.2.2.1 rfl
    exact ⟨by omega,by omega⟩
   | some a=>cases e
 ·obtain ⟨b,off,rfl,hb,hc⟩:=h.2.2.2 (by omega)
  refine ⟨b,off + k * size,?_,hb,fun j hj=>?_⟩
  ·unfold fromA
   rw [if_neg (by omega)]
   simp only [Option.map_some,Addr.add_lit]
  ·have hkn:k * size + (n - k) * size=n * size:=by rw [← Nat.add_mul];congr 1;omega
   rw [Nat.add_assoc,hc (k * size + j) (by omega),List.getElem?_drop]
theorem wpList_slice_from {P:Program} {ops:Array Oper} {rest:List Oper} {o:Oper} {a:Act} {w:World} {Q:Exit→Act→World→Prop} (x y:Operand) (t:TypeId) (s z v:Value)
  (hrun:∀ w,(Instr.sliceAt t s (some z) none none).run P w=.ok v w) (ho:o.op=.slice t x (some y) none none) (hx:a.eval x=s) (hy:a.eval y=z) (hw:Region.wanted o (yielded ops a.tmps)=true) (h:wpList P ops Q rest (a.put o.dst v) w):wpList P ops Q (o :: rest) a w:=
 BigFrame.wpList_want hw fun K hK=>by
  unfold Oper.wp execOp
  simp only [ho,hx,hy,Option.map_some,Option.map_none,Sem.run_bind,hrun,Sem.run_pure,Result.andThen_ok]
  exact hK _ _ h
theorem write_next {l:List Ent} {c:Cmd} {own:Blks} {s:Int} (hs:setsN c) (hf:fitsT c l.length) (h8o:∀ b∈own,b.length=8) (hle:c.reads.length + c.writes.length≤own.length) {k:Nat} (hk:k < c.writes.length) :
  ∃ (i:Nat) (a0 a1 a2 a3 a4 a5 a6 a7:Int),c.writes[k]?.getD 0=(i:Int)∧i < l.length∧own[c.reads.length + k]?.getD []=[a0,a1,a2,a3,a4,a5,a6,a7]∧stT l c own s (k + 1)=(stT l c own s k).set i ⟨[a0,a1,a2,a3,a4,a5,a6,a7],s⟩:=by
 have h1:=wAt_lt hs hf hk
 have h2:=wAt_cast hs hk
 have hb:(own[c.reads.length + k]?.getD []).length=8:=by
  rw [List.getElem?_eq_getElem (by omega)]
  exact h8o _ (List.getElem_mem _)
 obtain ⟨a0,a1,a2,a3,a4,a5,a6,a7,he⟩:=eight_is hb
 refine ⟨wAt c k,a0,a1,a2,a3,a4,a5,a6,a7,by rw [List.getElem?_eq_getElem hk,Option.getD_some,h2],h1,he,?_⟩
 rw [stT,he]
theorem st_eight {l:List Ent} {c:Cmd} {own:Blks} {s:Int} (h8:Eight l) (h8o:∀ b∈own,b.length=8) (hle:c.reads.length + c.writes.length≤own.length):∀ k,k≤c.writes.length→Eight (stT l c own s k)
 | 0,_=>h8
 | k + 1,hk=>by
  rw [stT]
  refine (st_eight h8 h8o hle k (by omega)).set _ ?_
  show (own[c.reads.length + k]?.getD []).length=8
  rw [List.getElem?_eq_getElem (by omega)]
  exact h8o _ (List.getElem_mem _)
def StorePost (l:List Ent) (n:Nat) (w:World) (e:Ending) (w':World):Prop:=
 ∃ A k,e=.returned (.slice A n k)∧w'.ownsRow w.heap.size 76 9 (.slice A n k) n (entsW l)∧Below w.heap.size w w'
section
variable (ra:Option Addr) (nr rc:Nat) (wa:Option Addr) (nw wc:Nat) (aa:Option Addr) (na ac:Nat) (ca:Option Addr) (nc cc:Nat)
theorem storable_yes (c:Cmd) (l:List Ent) (lA:Option Addr) (ln lc:Nat) (bA:Option Addr) (bn bc:Nat) (w:World) (hC:CmIn w c ra nr rc wa nw wc aa na ac ca nc cc) (hs:setsN c) (hf:fitsT c l.length) (hln:l.length=ln) (hle:nr + nw≤bn) (hbz:bn≤1099511627776) :
  Calls Tryz.prog 135 #[.slice lA ln lc,cmV ra nr rc wa nw wc aa na ac c.fuel ca nc cc,.slice bA bn bc] w fun e w'=>e=.returned (.bool true)∧Below w.heap.size w w':=by
 have hbr:=hC.br
 have hbw:=hC.bw
 have hwc:nw≤wc:=by have:=hC.writes.2.1;rw [hC.lw] at this;exact this
 have hK:Hid (∀ k,k < nw→∀ W,Below w.heap.size w W→∃ i:Nat,i < ln∧Calls Tryz.prog 110 #[.slice lA ln lc,.int .i64 (i:Int)] W (fun e w'=>e=.returned (.bool true)∧W=w') ∧
   (∃ b off,wa=some ⟨b,off,none⟩∧b < W.heap.size∧W.cell? ⟨b,off + k,none⟩=some (.int .i64 (i:Int)))):=hid (fun k hk W hW=>by
  have hkl:k < c.writes.length:=by rw [hC.lw];exact hk
  have h1:=wAt_lt hs hf hkl
  have h2:=wAt_cast hs hkl
  obtain ⟨b,o,eb,hb,hv⟩:=Sl.int (hC.writes.below hW) (j:=k) (by rw [hC.lw];exact hk)
  rw [List.getElem?_eq_getElem hkl,Option.getD_some,← h2] at hv
  exact ⟨wAt c k,by omega,has_yes lA ln lc _ W (by omega),b,o,eb,hb,hv⟩)
 have B0:=hid (below_alloc1 w (CmObj ra nr rc wa nw wc aa na ac c.fuel ca nc cc))
 have C0:Hid (Bk (w.alloc (CmObj ra nr rc wa nw wc aa na ac c.fuel ca nc cc)) w.heap.size 56 #[.slice ra nr rc,.slice wa nw wc,.slice aa na ac,.int .i64 c.fuel,.slice ca nc cc]):=hid (Bk.new w _ _)
 obtain ⟨f0,f1,f2,f3,f4,ff⟩:=C0.out.cmd
 have g0:decide ((bn:Int) < (nr:Int) + (nw:Int))=false:=decide_eq_false (by omega)
 clear hC hs hf hln
 generalize c.fuel=F at *
 go_enter Tryz.func135,Tryz.ntmps135
 go_wp2
 go_loopw [22] (fun ii wr=>∃ (k:Nat),k≤nw∧ii=.int .i64 (k:Int)∧Hid (Below w.heap.size w wr)) (fun ii _=>nw - (intOf ii).toNat)
 case atStart=>exact ⟨0,Nat.zero_le _,rfl,B0⟩
 case round=>
  clear f0 f1 f2 f3 f4 ff B0 C0
  obtain ⟨k,hk,rfl,HB⟩:=hrel
  by_cases hlt:k < nw
  ·have d1:(k:Int) < (nw:Int):=by omega
   have d2:(k:Int) < (wc:Int):=by omega
   obtain ⟨i,hin,hh,b,off,rfl,hbl,hv⟩:=hK.out k hlt wr HB.out
   have HH:=hid hh
   clear hh
   go_wp2_with (go_at_call 110;go_must ((with_reducible refine HH.out.mono ?_);rintro e w2 ⟨rfl,rfl⟩))
   go_roundw
   case rel=>exact ⟨k + 1,by omega,by go_num,HB⟩
   case measure=>simp [intOf];omega
  ·obtain rfl:nw=k:=by omega
   have d1:decide ((nw:Int) < (nw:Int))=false:=decide_eq_false (by omega)
   clear hlt
   go_wp2
   go_ret
   exact ⟨rfl,HB.out⟩
theorem store_any (c:Cmd) (l:List Ent) (lA:Option Addr) (ln lc:Nat) (own:Blks) (bA:Option Addr) (bn bc:Nat) (seq:Int) (w:World) (hC:CmIn w c ra nr rc wa nw wc aa na ac ca nc cc) (hL:Ents w lA lc l) (h8:Eight l) (hs:setsN c) (hf:fitsT c l.length) (hln:l.length=ln) (hO:Sl w 8 bA bn bc (blksW own)) (hbn:own.length=bn) (h8o:∀ b∈own,b.length=8) (hle:nr + nw≤bn) (hlz:ln≤1000) (hbz:bn≤1099511627776) :
  Calls Tryz.prog 115 #[.slice lA ln lc,cmV ra nr rc wa nw wc aa na ac c.fuel ca nc cc,.slice bA bn bc,.int .i64 seq] w (StorePost (storeT l c own seq) ln w):=by
 have hbr:=hC.br
 have hbw:=hC.bw
 have hlw:=hC.lw
 have hwc:nw≤wc:=by have:=hC.writes.2.1;rw [hC.lw] at this;exact this
 have hbc:bn≤bc:=hO.2.1
 have hcl:=hid (fun W (hW:Below w.heap.size w W)=>clone_ents lA ln lc (entsW l) W (by have:=hL.below hW;unfold Ents at this;rw [hln] at this;exact this) hlz (entsW_one l))
 have hsb:=hid (fun (W:World) (hW:Below w.heap.size w W) (A:Option Addr) (k:Nat)=>storable_yes ra nr rc wa nw wc aa na ac ca nc cc c l A ln k bA bn bc W (hC.below hW) hs hf hln hle hbz)
 obtain ⟨iB,hib,hb0,hbs,hbb⟩:=infoBlkZ
 have hfr:=hO.from (k:=nr) (by omega)
 have hrun:=hid (fun w=>run_slice_from (P:=Tryz.prog) w 65 74 iB Tryz.underlying65 hib bA bn bc nr (by omega))
 rw [hbs] at hrun
 generalize hoA:fromA bA bc nr 8=oA at *
 have hon:nw≤bn - nr:=by omega
 have hoc:bn - nr≤bc - nr:=by omega
 have hoz:bn - nr≤1099511627776:=by omega
 have hK:Hid (∀ k,k < nw→∀ W,Below w.heap.size w W→∃ (i:Nat) (a0 a1 a2 a3 a4 a5 a6 a7:Int),i < ln ∧
   (∃ b off,wa=some ⟨b,off,none⟩∧b < W.heap.size∧W.cell? ⟨b,off + k,none⟩=some (.int .i64 (i:Int))) ∧
   (∃ g off,oA=some ⟨g,off,none⟩∧g < W.heap.size∧W.rangeAt g (off + k * 8) (#[.int .i64 a0,.int .i64 a1,.int .i64 a2,.int .i64 a3,.int .i64 a4,.int .i64 a5,.int .i64 a6,.int .i64 a7]:Array Value).toList) ∧
   ∀ (xs:List Value),xs=entsW (stT l c own seq k)→xs.length=ln * 9∧setL xs (i * 9) (#[.int .i64 a0,.int .i64 a1,.int .i64 a2,.int .i64 a3,.int .i64 a4,.int .i64 a5,.int .i64 a6,.int .i64 a7,.int .i64 seq]:Array Value).toList=entsW (stT l c own seq (k + 1))):=hid (fun k hk W hW=>by
  obtain ⟨i,a0,a1,a2,a3,a4,a5,a6,a7,h1,h2,h3,h4⟩:=write_next (s:=seq) (k:=k) hs hf h8o (by rw [hC.lr,hC.lw];omega) (by rw [hC.lw];exact hk)
  obtain ⟨b,o,eb,hb,hv⟩:=Sl.int (hC.writes.below hW) (j:=k) (by rw [hC.lw];exact hk)
  rw [h1] at hv
  have h8k:=st_eight (s:=seq) h8 h8o (c:=c) (by rw [hC.lr,hC.lw];omega) k (by rw [hC.lw];omega)
  refine ⟨i,a0,a1,a2,a3,a4,a5,a6,a7,by omega,⟨b,o,eb,hb,hv⟩,?_,fun xs hx=>?_⟩
  ·obtain ⟨g,off,e,hg,hc⟩:=(hfr).2.2.2 (by omega)
   refine ⟨g,off,e,by have:=hW.size;omega,fun j v hv=>?_⟩
   have hj:j < 8:=by simpa using (List.getElem?_eq_some_iff.1 hv).1
   rw [hW.cell (p:=⟨g,off + k * 8 + j,none⟩) hg,show off + k * 8 + j=off + (k * 8 + j) by omega,hc (k * 8 + j) (by omega),List.getElem?_drop,show nr * 8 + (k * 8 + j)=(nr + k) * 8 + j by omega,blksW_at own h8o (nr + k) (by omega) j hj,← hC.lr,h3,← hv]
   rcases (show j=0∨j=1∨j=2∨j=3∨j=4∨j=5∨j=6∨j=7 by omega) with rfl | rfl | rfl | rfl | rfl | rfl | rfl | rfl <;> rfl
  ·subst hx
   have hil:i < (stT l c own seq k).length:=by rw [st_length];exact h2
   have hlk:(stT l c own seq k).length=ln:=by rw [st_length];exact hln
   refine ⟨by rw [entsW_length h8k,hlk],?_⟩
   rw [h4,← entsW_set h8k hil (e:=⟨[a0,a1,a2,a3,a4,a5,a6,a7],seq⟩) rfl]
   rfl)
 generalize bn - nr=on at *
 generalize bc - nr=oc at *
 have H0:Hid (entsW (stT l c own seq 0)=entsW l):=hid rfl
 have HF:Hid (stT l c own seq nw=storeT l c own seq):=hid (by unfold storeT;rw [hlw])
 have B0:=hid (below_alloc1 w (CmObj ra nr rc wa nw wc aa na ac c.fuel ca nc cc))
 have C0:Hid (Bk (w.alloc (CmObj ra nr rc wa nw wc aa na ac c.fuel ca nc cc)) w.heap.size 56 #[.slice ra nr rc,.slice wa nw wc,.slice aa na ac,.int .i64 c.fuel,.slice ca nc cc]):=hid (Bk.new w _ _)
 obtain ⟨f0,f1,f2,f3,f4,ff⟩:=C0.out.cmd
 clear hC hL h8 hs hf hln hO hbn h8o hfr hoA hlw
 generalize c.fuel=F at *
 go_enter Tryz.func115,Tryz.ntmps115
 go_wp2_with (first
  | (go_at_call 131;go_must ((with_reducible refine (hcl.out _ B0.out).mono ?_);rintro e w1 ⟨eA,ec,rfl,q,hb⟩;have B1:=hid (bnext B0.out hb);have C1:=hid (C0.out.below hb);have O1:=hid (own_lower q (by simp):w1.ownsRow (w.heap.size + 1) 76 9 (.slice eA ln ec) ln (entsW l));clear f0 f1 f2 f3 f4 ff;obtain ⟨f0,f1,f2,f3,f4,ff⟩:=C1.out.cmd;have fl:=C1.out.lt;clear q hb))
  | (go_at_call 135;go_must ((with_reducible refine (hsb.out _ B1.out _ _).mono ?_);rintro e w2 ⟨rfl,hb⟩;have B2:=hid (bnext B1.out hb);have C2:=hid (C1.out.below hb);have O2:=hid (own_below O1.out hb);clear f0 f1 f2 f3 f4 ff fl;obtain ⟨f0,f1,f2,f3,f4,ff⟩:=C2.out.cmd;have fl:=C2.out.lt;clear hb))
  | (refine wpList_slice_from _ _ _ _ _ _ hrun.out rfl rfl rfl rfl ?_))
 clear B0 C0 B1 C1 O1 f0 f1 f2 f3 f4 ff fl
 go_loopw [27] (fun ii wr=>∃ (k:Nat),k≤nw∧ii=.int .i64 (k:Int)∧Hid (Below w.heap.size w wr)∧Hid (wr.ownsRow (w.heap.size + 1) 76 9 (.slice eA ln ec) ln (entsW (stT l c own seq k)))) (fun ii _=>nw - (intOf ii).toNat)
 case atStart=>exact ⟨0,Nat.zero_le _,rfl,B2,O2⟩
 case round=>
  clear B2 O2 C2
  obtain ⟨k,hk,rfl,HB,HO⟩:=hrel
  by_cases hlt:k < nw
  ·have d1:(k:Int) < (nw:Int):=by omega
   have d2:(k:Int) < (wc:Int):=by omega
   obtain ⟨i,a0,a1,a2,a3,a4,a5,a6,a7,hi,hwr,hrg,hst⟩:=hK.out k hlt wr HB.out
   obtain ⟨hst1,hst2⟩:=hst _ rfl
   obtain ⟨b,off,rfl,hbl,hv⟩:=hwr
   obtain ⟨ob,oo,rfl,hol,hr⟩:=hrg
   obtain ⟨g,cur,rfl,hgB,hgk,hgc,-,hgs,hgt⟩:=own_pos HO.out (by omega)
   have d3:(i:Int) < (ln:Int):=by omega
   have d4:(i:Int) < (ec:Int):=by omega
   have d5:(k:Int) < (on:Int):=by omega
   have d6:(k:Int) < (oc:Int):=by omega
   have GT:Hid (∀ m,m=9→wr.there g (i * 9) m):=hid (fun m hm=>hgk.there (by rw [hgs,hm];omega))
   have HR:=hid hr
   obtain ⟨E,hE⟩:∃ E:Array Value,E = #[.int .i64 a0,.int .i64 a1,.int .i64 a2,.int .i64 a3,.int .i64 a4,.int .i64 a5,.int .i64 a6,.int .i64 a7,.int .i64 seq]:=⟨_,rfl⟩
   have HS:Hid (setL (entsW (stT l c own seq k)) (i * 9) E.toList=entsW (stT l c own seq (k + 1))):=hid (by rw [hE];exact hst2)
   have HE:=hid (congrArg Value.agg hE.symm)
   have E9:E.size=9:=by rw [hE];rfl
   have EI:(Tryz.prog.info? 76).map (·.size)=some E.size:=by rw [E9];exact infoEnt9
   have EA:E.all (·.oneCell')=true:=by rw [hE];simp [Value.oneCell']
   clear hE
   clear hr hst1 hst2 hgk hgs hgt
   go_wp2_with (first
    | (refine wpList_load_mid rfl 74 _ rfl ob (oo + k * 8) rfl _ _ HR.out Tryz.underlying74 rfl infoBlk8 ?_)
    | (refine wpList_store_mid rfl 76 _ _ rfl g (i * 9) E rfl HE.out (GT.out _ E9) EI EA ?_))
   go_roundw
   case rel=>
    refine ⟨k + 1,by omega,by go_num,hid (below_setCells HB.out (by omega) _ _),hid ?_⟩
    rw [← HS.out]
    exact own_setCells _ _ HO.out
   case measure=>simp [intOf];omega
  ·obtain rfl:nw=k:=by omega
   have d1:decide ((nw:Int) < (nw:Int))=false:=decide_eq_false (by omega)
   clear hlt
   go_wp2
   go_ret
   refine ⟨_,_,rfl,?_,HB.out⟩
   rw [← HF.out]
   exact own_lower HO.out (Nat.le_succ _)
end
end
end Go.Proofs.YtpaocjpjlogkgaaGreat
