/-
  Words and contracts of this claim, 4 texts laid into one, each under its own remark. No conditions but those that stand at each.
-/
import Derived.Test.YtpaocjpjlogkgaaGreatQQueE
import Derived.Shelf.Abstract
import Derived.Test.YtpaocjpjlogkgaaGreatQWords
import Derived.Lib.AppendZeros
import Derived.OwnWalk
import Derived.Lib.SliceRun
import Derived.Deep.QuietTactic
import Derived.BigQuiet
namespace Go.Proofs.YtpaocjpjlogkgaaGreat
set_option maxRecDepth 100000
set_option maxHeartbeats 32000000
open Go
open Go.Lib (hid)
section
open Go.RowKit Go.Shelf
theorem give1_any (x:Wnt) (s:Int) (g:Nat) (w:World) (hg:w.cell? ⟨g,0,none⟩=some (.int .i64 s)) (hl:g < w.heap.size):Calls Tryz.prog 136 #[.agg (wnV x.seq x.excl x.has),.pointer (some ⟨g,0,none⟩)] w fun e w'=>e=.returned (.bool (decide (x.seq=s)))∧Below w.heap.size w w':=by
 have B0:=hid (below_alloc1 w (.cells (wnV x.seq x.excl x.has) 136))
 have hne:g≠w.heap.size:=by omega
 go_enter Tryz.func136,Tryz.ntmps136
 go_wp2
 go_ret
 exact ⟨by simp [BEq.beq],B0.out⟩
theorem egGive:∀ args w,(callFunc 136 args).run Tryz.prog w=.ok (.enter 136 args) w:=enters_of Tryz.func136 (by kernel_rfl) rfl
end
section
open Go.RowKit Go.Shelf
theorem told_any (l:List Wnt) (A:Option Addr) (n c B:Nat) (w:World) (h:OwnW B w A n c l) (hB:B≤w.heap.size) (hz:n≤100000) :
  Calls Tryz.prog 102 #[.slice A n c] w fun e w'=>e=.returned (.slice A n c)∧OwnW B w' A n c (grK (keysN l))∧Below B w w':=by
 have hN:=h.1
 have hc:=h.cap
 have hh:=hid (having_any l A n c w (by have:=h.sl;exact this) hN hz)
 have H:=hid h
 have hN':=hid hN
 have hvl:=havW_le l
 rw [hN] at hvl
 obtain ⟨m,hm⟩:∃ m,m=havW l:=⟨_,rfl⟩
 have M:=hid hm
 rw [← hm] at hh hvl
 clear h hN hm
 go_enter Tryz.func102,Tryz.ntmps102
 go_wp2_with (go_at_call 121;go_must ((with_reducible refine hh.out.mono ?_);rintro e w1 ⟨rfl,hb1⟩;have B1:=hid (hb1.mono hB);have H1:=hid (H.out.below hb1);have Z1:B≤w1.heap.size:=Nat.le_trans hB hb1.size;clear hb1))
 go_loopw [9] (fun cc wr=>∃ i:Nat,i≤n∧cc=.int .i64 i∧Hid (OwnW B wr A n c (toldW l i))∧Hid (Below B w wr)) (fun cc _=>n - (intOf cc).toNat)
 case atStart=>exact ⟨0,Nat.zero_le _,rfl,hid (by rw [toldW_zero];exact H1.out),B1⟩
 case round=>
  obtain ⟨i,hi,rfl,HO,HB⟩:=hrel
  by_cases hlt:i < n
  ·have d1:(i:Int) < (n:Int):=by omega
   have d2:(i:Int) < (c:Int):=by omega
   obtain ⟨x,hx⟩:=wnt_at (l:=l) (i:=i) (by rw [hN'.out];exact hlt)
   obtain ⟨g,rfl,hg,hgl,hf,x0,x1,x2⟩:=HO.out.at (toldW_at hx)
   have hnx:=hid (HO.out.setHas (toldW_at hx) (decide (i < m)))
   rw [M.out,toldW_succ hx] at hnx
   rw [← M.out] at hnx
   have BN:=hid (HB.out.setCell (p:=⟨g,i * 3 + 2,none⟩) hg (.bool (decide (i < m))))
   clear hx
   go_wp2
   go_roundw
   case rel=>exact ⟨i + 1,by omega,by go_num,hnx,BN⟩
   case measure=>simp [intOf];omega
  ·obtain rfl:i=n:=by omega
   clear hlt
   go_wp2
   go_ret
   refine ⟨rfl,?_,HB.out⟩
   have:=HO.out
   rw [← hN'.out,toldW_all] at this
   rw [← hN'.out]
   exact this
theorem growW_any (n:Nat) (h0:0 < n) (hz:n≤100001) (w:World) :
  Calls Tryz.prog 122 #[.slice none 0 0,.int .i64 n] w fun e w'=>∃ A c,e=.returned (.slice A 0 c)∧OwnW w.heap.size w' A 0 c []∧Below w.heap.size w w':=by
 obtain ⟨i0,hi,hz0,hz1,hz2⟩:=infoWnt
 have hrz:∀ ty,(Builtin.append_ #[98,3] ty #[.slice none 0 0,.int .i64 n]).run Tryz.prog w=_:=fun ty=>
  Lib.run_append_nil_zeros w 98 3 ty 136 i0 _ .i64 .i64 Tryz.underlying98 Tryz.underlying3 hi hz0 n h0 (by omega) (by omega) (by rw [hz2];omega)
 have hG:n≤grownCap w n 0 136:=grownCap_ge w _ _ _
 have hG63:grownCap w n 0 136≤maxLen:=grownCap_le_maxLen w n 0 136 (by unfold maxLen;omega)
 have hown:∀ G,n≤G→G≤maxLen→OwnW w.heap.size (w.drew.alloc (.cells (Builtin.zeroCells (Value.agg (wnV 0 false false)).cells n ++ Builtin.zeroCells (Value.agg (wnV 0 false false)).cells (G - n)) 136)) (some ⟨w.heap.size,0,none⟩) 0 G []:=fun G h1 h2=>by
  refine ⟨rfl,rfl,.inr ⟨w.heap.size,G,_,rfl,Nat.le_refl _,heap_alloc_new w.drew _,Nat.zero_le _,h2,?_,by simp [wntsW]⟩⟩
  simp [Builtin.zeroCells,Value.cells]
  omega
 have HB:Hid (∀ o,Below w.heap.size w (w.drew.alloc o)):=hid (fun o=>(below_drew1 w).alloc (Nat.le_refl _) o)
 have h63:(grownCap w n 0 136:Int)≤9223372036854775807:=by unfold maxLen at hG63;omega
 generalize grownCap w n 0 136=G at *
 have HO:=hid (hown G hG hG63)
 clear hown
 go_enter Tryz.func122,Tryz.ntmps122
 go_wp2_with (at_builtin;refine Lib.wpList_append_run _ rfl _ _ _ _ rfl _ _ rfl rfl _ _ (hrz _) ?_)
 go_ret
 exact ⟨_,_,rfl,HO.out,HB.out _⟩
def catW (l:List Wnt) (x:Wnt) (i:Nat):List Wnt:=if i=0 then [] else if i=1 then l else l ++ [x]
def catN (n i:Nat):Nat:=if i=0 then 0 else if i=1 then n else n + 1
theorem concat_any (l:List Wnt) (x:Wnt) (lA xA:Option Addr) (n c g:Nat) (w:World) (hl:Wnts w lA c l) (hx:Wnts w xA 1 [x]) (hg:Bk w g 98 #[.slice lA n c,.slice xA 1 1]) (hN:l.length=n) (hz:n≤100000) :
  Calls Tryz.prog 103 #[.slice (some ⟨g,0,none⟩) 2 2] w fun e w'=>∃ A k,e=.returned (.slice A (n + 1) k)∧OwnW w.heap.size w' A (n + 1) k (l ++ [x])∧Below w.heap.size w w':=by
 obtain ⟨i0,hi,hz0,hz1,hz2⟩:=infoWnt
 have hc0:w.cell? ⟨g,0,none⟩=some (.slice lA n c):=hg.cell 0
 have hc1:w.cell? ⟨g,1,none⟩=some (.slice xA 1 1):=hg.cell 1
 have hgl:g < w.heap.size:=hg.lt
 have hnc:n≤c:=by have:=hl.2.1;omega
 have HL:=hid hl
 have HX:=hid hx
 have HN:=hid hN
 have hG:=growW_any (n + 1) (by omega) (by omega) w
 rw [Int.natCast_add,Int.natCast_one] at hG
 have HG:=hid hG
 clear hG
 have C0:=hid hc0
 have C1:=hid hc1
 clear hg hl hx hN
 go_enter Tryz.func103,Tryz.ntmps103
 go_wp2
 go_loop [3,11] (fun tot cc=>∃ i:Nat,i≤2∧cc=.int .i64 i∧tot=.int .i64 (catN n i)) (fun _ cc=>2 - (intOf cc).toNat)
 case atStart=>exact ⟨0,by omega,rfl,rfl⟩
 case round=>
  obtain ⟨i,hi2,rfl,rfl⟩:=hrel
  rcases (show i=0∨i=1∨i=2 by omega) with rfl | rfl | rfl
  ·have e0:catN n 0=0:=rfl
   go_wp2
   go_round
   case rel=>exact ⟨1,by omega,rfl,by simp [catN]⟩
   case measure=>simp [intOf]
  ·have e1:catN n 1=n:=rfl
   go_wp2
   go_round
   case rel=>exact ⟨2,by omega,rfl,by simp [catN]⟩
   case measure=>simp [intOf]
  ·have e2:catN n 2=n + 1:=rfl
   go_wp2_with (go_at_call 122;go_must ((with_reducible refine HG.out.mono ?_);rintro e w1 ⟨A1,k1,rfl,hO,hb1⟩;have O1:=hid hO;have B1:=hid hb1;clear hO hb1))
   go_loopw [6,27] (fun ns cc wr=>∃ (i:Nat) (A:Option Addr) (k:Nat),i≤2∧cc=.int .i64 i∧ns=.slice A (catN n i) k∧Hid (OwnW w.heap.size wr A (catN n i) k (catW l x i))∧Hid (Below w.heap.size w wr)) (fun _ cc _=>2 - (intOf cc).toNat)
   case atStart=>exact ⟨0,A1,k1,by omega,rfl,rfl,O1,B1⟩
   case round=>
    obtain ⟨i,A,k,hi2,rfl,rfl,HO,HB⟩:=hrel
    have c0:=(HB.out.cell (p:=⟨g,0,none⟩) hgl).trans C0.out
    have c1:=(HB.out.cell (p:=⟨g,1,none⟩) hgl).trans C1.out
    have hgw:g < wr.heap.size:=Nat.lt_of_lt_of_le hgl HB.out.size
    have SL:=hid (HL.out.below HB.out)
    have SX:=hid (HX.out.below HB.out)
    have hsz:=HB.out.size
    rcases (show i=0∨i=1∨i=2 by omega) with rfl | rfl | rfl
    ·have e0:catN n 0=0:=rfl
     rw [e0] at HO
     have hs:=SL.out
     unfold Wnts at hs
     rw [HN.out] at hs
     have SL':=hid hs
     clear hs
     go_wp2_with (at_builtin;go_must (refine append_sl rfl _ _ _ rfl w.heap.size 136 i0 _ 3 16 Tryz.underlying98 hi hz0 hz1 hz2 rfl (by decide) _ 0 _ rfl HO.out.2 lA n c _ rfl SL'.out (wntsW_one l) (by unfold maxLen;omega) (by omega) hsz ?_;intro v' w1 hown hgr))
     obtain ⟨A',k',rfl,-⟩:=Sl.own hown
     rw [Nat.zero_add] at hown
     go_roundw
     case rel=>exact ⟨1,A',k',by omega,rfl,by simp [catN],hid ⟨HN.out,by simpa [catW,catN,wntsW] using hown⟩,hid (HB.out.grown hgr hsz (fun b hb=>own_ge HO.out.2 hb))⟩
     case measure=>simp [intOf]
    ·have e1:catN n 1=n:=rfl
     rw [e1] at HO
     go_wp2_with (at_builtin;go_must (refine append_sl rfl _ _ _ rfl w.heap.size 136 i0 _ 3 16 Tryz.underlying98 hi hz0 hz1 hz2 rfl (by decide) _ n _ rfl HO.out.2 xA 1 1 _ rfl SX.out (wntsW_one [x]) (by unfold maxLen;omega) (by omega) hsz ?_;intro v' w1 hown hgr))
     obtain ⟨A',k',rfl,-⟩:=Sl.own hown
     go_roundw
     case rel=>exact ⟨2,A',k',by omega,rfl,by simp [catN],hid ⟨by simp [catW,catN,HN.out],by rw [show catW l x 2=l ++ [x] from rfl,wntsW_append];exact hown⟩,hid (HB.out.grown hgr hsz (fun b hb=>own_ge HO.out.2 hb))⟩
     case measure=>simp [intOf]
    ·go_wp2
     go_ret
     exact ⟨A,k,rfl,HO.out,HB.out⟩
theorem ask_any (l:List Wnt) (A:Option Addr) (n c:Nat) (s:Int) (ex:Bool) (w:World) (h:Wnts w A c l) (hN:l.length=n) (hz:n≤10000) :
  Calls Tryz.prog 63 #[.slice A n c,.int .i64 s,.bool ex] w (WnPost (askN l s ex) w):=by
 have H:=hid h
 have HN:=hid hN
 have hk:Bk (w.alloc (.cells (wnV s ex false) 136)) w.heap.size 136 (wnV s ex false):=Bk.new w _ _
 have hx:Wnts (w.alloc (.cells (wnV s ex false) 136)) (some ⟨w.heap.size,0,none⟩) 1 [⟨s,ex,false⟩]:=by
  refine ⟨rfl,Nat.le_refl _,fun h=>(by cases h),fun _=>⟨_,0,rfl,hk.lt,fun j hj=>?_⟩⟩
  have hj:j < 3:=hj
  rw [Nat.zero_add,hk.cell j]
  rcases j with _ | _ | _ | j
  all_goals first | rfl | omega
 have B0:=below_alloc1 w (.cells (wnV s ex false) 136)
 have B1:=below_alloc1 (w.alloc (.cells (wnV s ex false) 136)) (.cells #[.slice A n c,.slice (some ⟨w.heap.size,0,none⟩) 1 1] 98)
 have hc:=hid (concat_any l ⟨s,ex,false⟩ A _ n c _ _ ((h.below B0).below B1) (hx.below B1) (Bk.new _ _ _) hN (by omega))
 have BB:=hid (bnext B0 B1)
 rw [World.size_alloc] at hc
 clear h hN hk hx B0 B1
 go_enter Tryz.func63,Tryz.ntmps63
 go_wp2_with (first
  | (go_at_call 103;go_must (refine hc.out.mono ?_;rintro e w1 ⟨A1,k1,rfl,hO,hb1⟩;have O1:=hid (hO.lower BB.out.size);have C1:=hid (bnext BB.out hb1);clear hO hb1;have ht:=hid (told_any _ A1 (n + 1) k1 w.heap.size w1 O1.out C1.out.size (by omega))))
  | (go_at_call 102;go_must ((with_reducible refine ht.out.mono ?_);rintro e w2 ⟨rfl,hO,hb2⟩;have O2:=hid hO;have C2:=hid (C1.out.trans hb2);clear hO hb2)))
 go_ret
 refine ⟨_,_,_,rfl,?_,C2.out⟩
 rw [← askN_told]
 exact O2.out
end
section
open Go.RowKit Go.Shelf
theorem clone_wnts (A:Option Addr) (n c:Nat) (l:List Wnt) (w:World) (hA:Wnts w A c l) (hN:l.length=n) (hn:n≤100000) :
  Calls Tryz.prog 100 #[.slice A n c] w
   fun e w'=>∃ A' c',e=.returned (.slice A' n c')∧OwnW w.heap.size w' A' n c' l∧Below w.heap.size w w':=by
 obtain ⟨i0,hi,hz0,hz1,hz2⟩:=infoWnt
 unfold Wnts at hA
 rw [hN] at hA
 have HA:=hid hA
 have HN:=hid hN
 clear hA hN
 cases A with
 | none=>
  obtain ⟨rfl,rfl⟩:=HA.out.2.2.1 rfl
  have hq:=Lib.run_eql_slice_nil (P:=Tryz.prog) w 98 136 none 0 0 0 0 Tryz.underlying98
  go_enter Tryz.func100,Tryz.ntmps100
  go_wp2
  go_ret
  refine ⟨none,0,rfl,⟨HN.out,?_⟩,Below.refl _ _⟩
  exact ⟨HA.out.1,.inl ⟨rfl,rfl⟩⟩
 | some a=>
  have hq:=Lib.run_eql_slice_nil (P:=Tryz.prog) w 98 136 (some a) n c 0 0 Tryz.underlying98
  go_enter Tryz.func100,Tryz.ntmps100
  go_wp2_with (at_builtin;go_must (refine wpList_append_own _ rfl (.tmp 5) (.tmp 6) _ rfl w.heap.size 136 i0 _ 3 16 Tryz.underlying98 hi hz0 hz1 hz2 rfl (by decide) _ 0 [] rfl (World.ownsRow_lit w #[] 0 (Nat.le_refl _) (by decide) rfl) a n c (wntsW l) rfl HA.out.1 ((HA.out.alloc _).olds a rfl) (wntsW_one l) (by unfold maxLen;omega) (by omega) (by simp) ?_;intro v' w1 hown hg hnil))
  obtain ⟨A',c',rfl,hsl⟩:=Sl.own hown
  simp only [Nat.zero_add,List.nil_append] at hown
  go_wp2
  go_ret
  exact ⟨A',c',by simp,⟨HN.out,hown⟩,((Below.refl _ _).alloc (Nat.le_refl _) _).grown hg (by simp) (fun k hk=>by
   have hk':(Value.slice (some ⟨w.heap.size,0,none⟩) 0 0).ownBlock=some k:=hk
   simp [Value.ownBlock] at hk'
   omega)⟩
theorem run_clear_recs {P:Program} (w:World) (t e ty:TypeId) (z:Value) (ht:P.underlying t=some (.slice e)) (hv:∀ w,(zeroValue e).run P w=.ok z w) (b o n c:Nat) (h1:∀ u∈(Builtin.zeroCells z.cells (n + 1)).toList,u.oneCell'=true)
  (hc:∀ j,j < (Builtin.zeroCells z.cells (n + 1)).size→(w.cell? ⟨b,o + j,none⟩).isSome=true) (hf:∀ j,j < (Builtin.zeroCells z.cells (n + 1)).size→w.frozen? ⟨b,o + j,none⟩=false) :
  (Builtin.clear_ #[t] ty #[.slice (some ⟨b,o,none⟩) (n + 1) c]).run P w=.ok (.tuple #[]) (w.setCells b o (Builtin.zeroCells z.cells (n + 1)).toList):=by
 have hst:=run_storeCells_cells (P:=P) b o (Builtin.zeroCells z.cells (n + 1)).toList 0 w (by simpa using hc) (by simpa using hf) h1
 simp only [Nat.add_zero] at hst
 simp [Builtin.clear_,run_underlying ht,hv,hst]
theorem zeroWnt (w:World):(zeroValue 136).run Tryz.prog w=.ok (.agg (wnV 0 false false)) w:=by
 obtain ⟨i0,hi,hz0,-,-⟩:=infoWnt
 simp [zeroValue,typeInfo,hi,hz0]
theorem setL_take:∀ (vs xs:List Value) (o:Nat),(setL xs o vs).take o=xs.take o
 | [],_,_=>rfl
 | v :: r,xs,o=>by
  rw [setL]
  have h:=congrArg (List.take o) (setL_take r (xs.set o v) (o + 1))
  rw [List.take_take,List.take_take,Nat.min_eq_left (by omega)] at h
  rw [h,List.take_set_of_le (Nat.le_refl _)]
def KeptW (p:Wnt→Bool) (l d:List Wnt) (i j:Nat):Prop:=d.length=l.length∧i < j∧j≤l.length∧d.take i=(l.take j).filter (fun x=>!p x)∧∀ k,j≤k→d[k]? = l[k]?
theorem KeptW.start {p:Wnt→Bool} {l:List Wnt} {i:Nat} {x:Wnt} (hx:l[i]? = some x) (hp:p x=true) (h:∀ j y,j < i→l[j]? = some y→p y=false):KeptW p l l i (i + 1):=by
 have hi:i < l.length:=by
  rcases Nat.lt_or_ge i l.length with h | h
  ·exact h
  ·rw [List.getElem?_eq_none h] at hx;cases hx
 refine ⟨rfl,by omega,by omega,?_,fun _ _=>rfl⟩
 rw [List.take_add_one,hx,List.filter_append]
 have e1:(l.take i).filter (fun x=>!p x)=l.take i:=by
  rw [List.filter_eq_self]
  intro y hy
  obtain ⟨k,hk⟩:=List.getElem?_of_mem hy
  have hki:k < i:=by
   rcases Nat.lt_or_ge k i with h | h
   ·exact h
   ·rw [List.getElem?_eq_none (by rw [List.length_take];omega)] at hk;cases hk
  rw [List.getElem?_take,if_pos hki] at hk
  rw [h k y hki hk]
  rfl
 rw [e1]
 simp [hp]
theorem KeptW.skip {p:Wnt→Bool} {l d:List Wnt} {i j:Nat} (h:KeptW p l d i j) {x:Wnt} (hx:l[j]? = some x) (hp:p x=true):KeptW p l d i (j + 1):=by
 obtain ⟨h1,h2,h3,h4,h5⟩:=h
 have hj:j < l.length:=by
  rcases Nat.lt_or_ge j l.length with h | h
  ·exact h
  ·rw [List.getElem?_eq_none h] at hx;cases hx
 refine ⟨h1,by omega,by omega,?_,fun k hk=>h5 k (by omega)⟩
 rw [List.take_add_one,hx,List.filter_append,h4]
 simp [hp]
theorem KeptW.keep {p:Wnt→Bool} {l d:List Wnt} {i j:Nat} (h:KeptW p l d i j) {x:Wnt} (hx:l[j]? = some x) (hp:p x=false):KeptW p l (d.set i x) (i + 1) (j + 1):=by
 obtain ⟨h1,h2,h3,h4,h5⟩:=h
 have hj:j < l.length:=by
  rcases Nat.lt_or_ge j l.length with h | h
  ·exact h
  ·rw [List.getElem?_eq_none h] at hx;cases hx
 refine ⟨by rw [List.length_set];exact h1,by omega,by omega,?_,fun k hk=>by rw [List.getElem?_set_ne (by omega)];exact h5 k (by omega)⟩
 rw [List.take_add_one,List.getElem?_set_self (by omega),List.take_set_of_le (Nat.le_refl _),List.take_add_one (l:=l),hx,List.filter_append,h4]
 simp [hp]
theorem KeptW.fin {p:Wnt→Bool} {l d:List Wnt} {i:Nat} (h:KeptW p l d i l.length):d.take i=l.filter (fun x=>!p x):=by
 have:=h.2.2.2.1
 rwa [List.take_length] at this
theorem deleteW_any (l:List Wnt) (p:Wnt→Bool) (fn:Nat) (lb:Array Value) (eg:∀ args w,(callFunc fn args).run Tryz.prog w=.ok (.enter fn args) w) (A:Option Addr) (n c B:Nat) (w0 w:World) (h:OwnW B w A n c l) (h0:Below B w0 w) (hB:B≤w0.heap.size) (hz:n≤100000)
  (hp:∀ (x:Wnt) (W:World),Below B w0 W→Calls Tryz.prog fn (#[.agg (wnV x.seq x.excl x.has)] ++ lb) W fun e w'=>e=.returned (.bool (p x))∧Below W.heap.size W w') :
  Calls Tryz.prog 137 #[.slice A n c,.func (.func fn) #[] lb] w fun e w'=>∃ n',e=.returned (.slice A n' c)∧OwnW B w' A n' c (l.filter fun x=>!p x)∧Below B w0 w':=by
 have hN:=h.1
 have hc:=h.cap
 have hsz:B≤w.heap.size:=Nat.le_trans hB h0.size
 have hi:=hid (idxW_any l p fn lb eg A n c w h.sl hN hz (fun x W hW=>hp x W (h0.trans (hW.mono hsz))))
 have H:=hid h
 have H0:=hid h0
 have HN:=hid hN
 have HP:=hid hp
 rcases idxP_is p l with ⟨h1,h2⟩ | ⟨k,x,h1,h2,h3,h4,h5⟩
 ·have hf:(l.filter fun x=>!p x)=l:=by
   rw [List.filter_eq_self]
   intro x hx
   rw [h2 x hx]
   rfl
  rw [h1] at hi
  rw [hf]
  clear h h0 hN hp h1 h2 hf
  go_enter Tryz.func137,Tryz.ntmps137
  go_wp2_with (go_at_call 138;go_must ((with_reducible refine hi.out.mono ?_);rintro e w1 ⟨rfl,hb1⟩;have B1:=hid hb1;clear hb1))
  go_ret
  exact ⟨_,rfl,H.out.below B1.out,H0.out.trans (B1.out.mono hsz)⟩
 ·have K0:=hid (KeptW.start h3 h4 h5)
  have hne1:((k:Int) == -1)=false:=beq_eq_false_iff_ne.2 (by omega)
  have hkn:k < n:=by omega
  rw [h1] at hi
  clear h h0 hN hp h1 h2 h3 h4 h5
  go_enter Tryz.func137,Tryz.ntmps137
  go_wp2_with (go_at_call 138;go_must ((with_reducible refine hi.out.mono ?_);rintro e w1 ⟨rfl,hb1⟩;have O1:=hid (H.out.below hb1);have B1:=hid (H0.out.trans (hb1.mono hsz));clear hb1))
  go_loopw [5,6] (fun s5 s6 wr=>∃ (i j:Nat) (d:List Wnt),s5=.int .i64 i∧s6=.int .i64 j∧j≤n∧Hid (OwnW B wr A n c d)∧Hid (Below B w0 wr)∧Hid (KeptW p l d i j)) (fun _ s6 _=>n - (intOf s6).toNat)
  case atStart=>exact ⟨k,k + 1,l,rfl,by go_num,by omega,O1,B1,K0⟩
  case round=>
   obtain ⟨i,j,d,rfl,rfl,hj,HO,HB,HK⟩:=hrel
   have hij:=HK.out.2.1
   have hwz:B≤wr.heap.size:=Nat.le_trans hB HB.out.size
   by_cases hlt:j < n
   ·have d1:(j:Int) < (n:Int):=by omega
    have d2:(j:Int) < (c:Int):=by omega
    have d3:(i:Int) < (n:Int):=by omega
    obtain ⟨x,hx⟩:=wnt_at (l:=l) (i:=j) (by rw [HN.out];exact hlt)
    have hdx:d[j]? = some x:=by rw [HK.out.2.2.2.2 j (Nat.le_refl _)];exact hx
    obtain ⟨g,rfl,hg,hgl,hf,x0,x1,x2⟩:=HO.out.at hdx
    obtain ⟨y,hy⟩:=wnt_at (l:=d) (i:=i) (by rw [HO.out.1];omega)
    have BA:=hid (below_alloc1 wr (.cells (wnV x.seq x.excl x.has) 136))
    have hcall:=hid (HP.out x _ (HB.out.trans (BA.out.mono hwz)))
    have VA:=hid (Bk.new wr 136 (wnV x.seq x.excl x.has))
    cases hq:p x with
    | true=>
     rw [hq] at hcall
     have KN:=hid (HK.out.skip hx hq)
     clear hx hdx hy hq
     go_wp2_with (go_at_fn fn;go_must (refine hcall.out.mono ?_;rintro e w1 ⟨rfl,hb1⟩;have ON:=hid ((HO.out.below BA.out).below hb1);have BN:=hid ((HB.out.trans (BA.out.mono hwz)).trans (hb1.mono (Nat.le_trans hwz BA.out.size)));clear hb1))
     go_roundw
     case rel=>exact ⟨i,j + 1,d,rfl,by go_num,by omega,ON,BN,KN⟩
     case measure=>simp [intOf];omega
    | false=>
     rw [hq] at hcall
     have KN:=hid (HK.out.keep hx hq)
     have HY:=hid hy
     clear hx hdx hy hq
     go_wp2_with (go_at_fn fn;go_must (refine hcall.out.mono ?_;rintro e w1 ⟨rfl,hb1⟩;have ON:=hid ((HO.out.below BA.out).below hb1);have BN:=hid ((HB.out.trans (BA.out.mono hwz)).trans (hb1.mono (Nat.le_trans hwz BA.out.size)));obtain ⟨v0,v1,v2,vf⟩:=(VA.out.below hb1).three;obtain ⟨g',hg',-,hgl',hf',z0,z1,z2⟩:=ON.out.at HY.out;injection hg' with hg';injection hg' with hg';subst hg';clear hb1))
     go_roundw
     case rel=>exact ⟨i + 1,j + 1,d.set i x,by go_num,by go_num,by omega,hid (ON.out.setAll (by omega) x),hid (((BN.out.setCell (p:=⟨g,i * 3,none⟩) hg _).setCell (p:=⟨g,i * 3 + 1,none⟩) hg _).setCell (p:=⟨g,i * 3 + 2,none⟩) hg _),KN⟩
     case measure=>simp [intOf];omega
   ·obtain rfl:j=n:=by omega
    obtain ⟨y,hy⟩:=wnt_at (l:=d) (i:=i) (by rw [HO.out.1];omega)
    obtain ⟨g,rfl,hg,hgl,hf,-,-,-⟩:=HO.out.at hy
    obtain ⟨_,cur,hA,-,hk,-,-,hcs,-⟩:=own_pos HO.out.2 (by omega)
    injection hA with hA
    injection hA with hA
    subst hA
    obtain ⟨m,rfl⟩:∃ m,j=i + (m + 1):=⟨j - i - 1,by omega⟩
    have hzc:(Builtin.zeroCells (Value.agg (wnV 0 false false)).cells (m + 1)).size=(m + 1) * 3:=by simp [Builtin.zeroCells,Value.cells]
    have hz1:∀ u∈(Builtin.zeroCells (Value.agg (wnV 0 false false)).cells (m + 1)).toList,u.oneCell'=true:=by
     intro u hu
     simp only [Builtin.zeroCells,Value.cells,Array.toList_map,List.mem_map] at hu
     obtain ⟨q,-,rfl⟩:=hu
     have:q % 3 < 3:=Nat.mod_lt _ (by decide)
     show (wnV 0 false false)[q % 3]!.oneCell'=true
     rcases (show q % 3=0∨q % 3=1∨q % 3=2 by omega) with e | e | e <;> rw [e] <;> rfl
    have hcl:∀ ty,(Builtin.clear_ #[98] ty #[.slice (some ⟨g,i * 3,none⟩) (m + 1) (c - i)]).run Tryz.prog wr=.ok (.tuple #[]) (wr.setCells g (i * 3) (Builtin.zeroCells (Value.agg (wnV 0 false false)).cells (m + 1)).toList):=
     fun ty=>run_clear_recs wr _ 136 ty _ Tryz.underlying98 zeroWnt g (i * 3) m (c - i) hz1 (fun t ht=>by rw [hk.cell,Array.getElem?_eq_getElem (by omega)];rfl) (fun t _=>hf _)
    have HF:=hid (HK.out)
    have e1:i + (m + 1) - i=m + 1:=by omega
    have e2:¬ c=i:=by omega
    have BN:=hid (below_setCells HB.out hg (Builtin.zeroCells (Value.agg (wnV 0 false false)).cells (m + 1)).toList (i * 3))
    have OS:=hid (own_take (own_setCells (Builtin.zeroCells (Value.agg (wnV 0 false false)).cells (m + 1)).toList (i * 3) HO.out.2) (k:=i) (by omega))
    generalize (Builtin.zeroCells (Value.agg (wnV 0 false false)).cells (m + 1)).toList=zs at *
    clear hy hz1 hzc hcs hk
    go_wp2
    go_ret
    refine ⟨i,rfl,⟨?_,?_⟩,BN.out⟩
    ·have:=HF.out
     rw [HN.out.symm] at this
     have hn:=HN.out
     rw [← this.fin,List.length_take,this.1]
     omega
    ·have:=OS.out
     rw [setL_take,wntsW_take] at this
     have hK:=HF.out
     rw [HN.out.symm] at hK
     rwa [hK.fin] at this
theorem give_any (l:List Wnt) (A:Option Addr) (n c:Nat) (s:Int) (w:World) (h:Wnts w A c l) (hN:l.length=n) (hz:n≤10000) :
  Calls Tryz.prog 117 #[.slice A n c,.int .i64 s] w (WnPost (giveN l s) w):=by
 have B0:=hid (below_alloc1 w (.cells #[.int .i64 s] 3))
 have V0:=hid (Bk.new w 3 #[.int .i64 s])
 have hB0:w.heap.size + 1≤(w.alloc (.cells #[.int .i64 s] 3)).heap.size:=by rw [World.size_alloc];exact Nat.le_refl _
 have hcl:=hid (clone_wnts A n c l _ (h.below B0.out) hN (by omega))
 have hdel:Hid (∀ (A:Option Addr) (n c:Nat) (W:World),OwnW (w.heap.size + 1) W A n c l→Below (w.heap.size + 1) (w.alloc (.cells #[.int .i64 s] 3)) W→n≤100000→Calls Tryz.prog 137 #[.slice A n c,.func (.func 136) #[] #[.pointer (some ⟨w.heap.size,0,none⟩)]] W
   fun e w'=>∃ n',e=.returned (.slice A n' c)∧OwnW (w.heap.size + 1) w' A n' c (goneW l s)∧Below (w.heap.size + 1) (w.alloc (.cells #[.int .i64 s] 3)) w'):=hid (fun A n c W hO hW hn=>by
  have:=deleteW_any l (fun x=>decide (x.seq=s)) 136 #[.pointer (some ⟨w.heap.size,0,none⟩)] egGive A n c (w.heap.size + 1) _ W hO hW hB0 hn (fun x V hV=>give1_any x s w.heap.size V (((V0.out.below (hV.mono (by rw [World.size_alloc];exact Nat.le_refl _)))).cell 0) (Nat.lt_of_lt_of_le V0.out.lt hV.size))
  rw [show (l.filter fun x=>!decide (x.seq=s))=goneW l s by unfold goneW;congr 1;funext x;rw [decide_not]] at this
  exact this)
 have hlen:(goneW l s).length≤n:=by unfold goneW;rw [← hN];exact List.length_filter_le _ _
 clear h hN
 go_enter Tryz.func117,Tryz.ntmps117
 go_wp2_with (first
  | (go_at_call 100;go_must ((with_reducible refine hcl.out.mono ?_);rintro e w1 ⟨A1,c1,rfl,hO,hb1⟩;rw [World.size_alloc] at hO hb1;have O1:=hid hO;have C1:=hid hb1;clear hO hb1;have hd:=hid (hdel.out A1 n c1 w1 O1.out C1.out (by omega))))
  | (go_at_call 137;go_must ((with_reducible refine hd.out.mono ?_);rintro e w2 ⟨n2,rfl,hO,hb2⟩;have O2:=hid hO;have C2:=hid hb2;clear hO hb2;have ht:=hid (told_any _ A1 n2 c1 (w.heap.size + 1) w2 O2.out (Nat.le_trans hB0 C2.out.size) (by have:=O2.out.1;omega))))
  | (go_at_call 102;go_must ((with_reducible refine ht.out.mono ?_);rintro e w3 ⟨rfl,hO,hb3⟩;have O3:=hid hO;have C3:=hid (C2.out.trans hb3);clear hO hb3)))
 go_ret
 refine ⟨_,_,_,rfl,?_,B0.out.trans (C3.out.mono (Nat.le_succ _))⟩
 rw [← give_gone]
 exact O3.out.lower (Nat.le_succ _)
end
section
open Go.RowKit Go.Shelf
theorem rgive_any (l:List Wnt) (A:Option Addr) (n c:Nat) (s:Int) (w:World) (h:Wnts w A c l) (hN:l.length=n) (hz:n≤10000) :
  Calls Tryz.prog 119 #[.slice A n c,.int .i64 s] w (WnPost (giveN l s) w):=by
 obtain ⟨i0,hi,hz0,hz1,hz2⟩:=infoWnt
 have H:=hid h
 have HN:=hid hN
 have hnc:n≤c:=by have:=h.2.1;omega
 have ON:Hid (OwnW w.heap.size w none 0 0 (goneW (l.take 0) s)):=hid ⟨rfl,by simp [goneW,wntsW],.inl ⟨rfl,rfl⟩⟩
 clear h hN
 go_enter Tryz.func119,Tryz.ntmps119
 go_wp2
 go_loopw [5,6] (fun ou cc wr=>∃ (i m k:Nat) (A':Option Addr),i≤n∧m≤i∧cc=.int .i64 i∧ou=.slice A' m k∧Hid (OwnW w.heap.size wr A' m k (goneW (l.take i) s))∧Hid (Below w.heap.size w wr)) (fun _ cc _=>n - (intOf cc).toNat)
 case atStart=>exact ⟨0,0,0,none,Nat.zero_le _,Nat.le_refl _,rfl,rfl,ON,hid (Below.refl _ _)⟩
 case round=>
  obtain ⟨i,m,k,A',hin,hmi,rfl,rfl,HO,HB⟩:=hrel
  have hzw:=HB.out.size
  by_cases hlt:i < n
  ·have d1:(i:Int) < (n:Int):=by omega
   have d2:(i:Int) < (c:Int):=by omega
   obtain ⟨x,hx⟩:=wnt_at (l:=l) (i:=i) (by rw [HN.out];exact hlt)
   obtain ⟨bb,off,rfl,hbl,x0,x1,x2⟩:=Wnts.at (H.out.below HB.out) hx
   have ht:l.take (i + 1)=l.take i ++ [x]:=by rw [List.take_add_one,hx];rfl
   by_cases hs:x.seq=s
   ·have e1:(x.seq == s)=true:=by simp [hs]
    have hg:goneW (l.take (i + 1)) s=goneW (l.take i) s:=by
     unfold goneW
     rw [ht,List.filter_append]
     simp [hs]
    have HO2:Hid (OwnW w.heap.size wr A' m k (goneW (l.take (i + 1)) s)):=hid (by rw [hg];exact HO.out)
    clear hx ht hg hs
    go_wp2
    go_roundw
    case rel=>exact ⟨i + 1,m,k,A',by omega,by omega,by go_num,rfl,HO2,HB⟩
    case measure=>simp [intOf];omega
   ·have e1:(x.seq == s)=false:=beq_eq_false_iff_ne.2 hs
    have hg:goneW (l.take (i + 1)) s=goneW (l.take i) s ++ [x]:=by
     unfold goneW
     rw [ht,List.filter_append]
     simp [hs]
    have BA:=below_alloc1 wr (.cells (wnV x.seq x.excl x.has) 136)
    have O1:=hid (own_below HO.out.2 BA)
    have C1:=hid (HB.out.trans (BA.mono hzw))
    have V1:=hid (Bk.new wr 136 (wnV x.seq x.excl x.has))
    have Z1:=C1.out.size
    have HG:=hid hg
    have HL1:=HO.out.1
    have HL:=hid HL1
    clear hx ht hg hs BA HL1
    go_wp2_with (at_builtin;go_must (refine append_row rfl _ _ _ rfl w.heap.size 136 i0 _ 3 16 Tryz.underlying98 hi hz0 hz1 hz2 rfl (by decide) _ m _ rfl O1.out wr.heap.size (wnV x.seq x.excl x.has) rfl V1.out rfl rfl (by unfold maxLen;omega) (by omega) Z1 ?_;intro g2 k2 w2 hown hgr))
    have C2:=hid (C1.out.grown hgr Z1 (fun b hb=>own_ge O1.out hb))
    have O2:Hid (OwnW w.heap.size w2 (some ⟨g2,0,none⟩) (m + 1) k2 (goneW (l.take (i + 1)) s)):=hid ⟨by rw [HG.out,List.length_append,HL.out];rfl,by rw [HG.out,wntsW_append,wntsW_sing];exact hown⟩
    clear hown hgr
    go_roundw
    case rel=>exact ⟨i + 1,m + 1,k2,_,by omega,by omega,by go_num,by rfl,O2,C2⟩
    case measure=>simp [intOf];omega
  ·obtain rfl:i=n:=by omega
   have hO:=HO.out
   rw [← HN.out,List.take_length] at hO
   have hgw:=hid (grant_any (goneW l s) A' m k w.heap.size wr hO.sl hO.1 hzw (by omega))
   clear hlt hO
   go_wp2_with (go_at_call 104;go_must ((with_reducible refine hgw.out.mono ?_);rintro e w3 ⟨A3,k3,rfl,hO,hb3⟩;have O3:=hid hO;have C3:=hid (HB.out.trans hb3);clear hO hb3))
   go_ret
   refine ⟨_,_,_,rfl,?_,C3.out⟩
   rw [← give_gone]
   exact O3.out
theorem rsameW_yes (l:List Wnt) (A:Option Addr) (c:Nat) (B:Option Addr) (d n:Nat) (w:World) (h1:Wnts w A c l) (h2:Wnts w B d l) (hN:l.length=n) (hz:n≤100000) :
  Calls Tryz.prog 52 #[.slice A n c,.slice B n d] w fun e w'=>e=.returned (.bool true)∧Below w.heap.size w w':=by
 have H1:=hid h1
 have H2:=hid h2
 have HN:=hid hN
 have hnc:n≤c:=by have:=h1.2.1;omega
 have hnd:n≤d:=by have:=h2.2.1;omega
 clear h1 h2 hN
 go_enter Tryz.func52,Tryz.ntmps52
 go_wp2
 go_loopw [5] (fun cc wr=>∃ i k:Nat,i≤n∧cc=.int .i64 i∧wr=w.drewN k) (fun cc _=>n - (intOf cc).toNat)
 case atStart=>exact ⟨0,0,Nat.zero_le _,rfl,rfl⟩
 case round=>
  obtain ⟨i,k,hi,rfl,rfl⟩:=hrel
  by_cases hlt:i < n
  ·obtain ⟨x,hx⟩:=wnt_at (l:=l) (i:=i) (by rw [HN.out];exact hlt)
   obtain ⟨b,off,rfl,hbl,x0,x1,x2⟩:=Wnts.at H1.out hx
   obtain ⟨b2,off2,rfl,hbl2,y0,y1,y2⟩:=Wnts.at H2.out hx
   have d0:(i:Int) < (n:Int):=by omega
   have d1:(i:Int) < (c:Int):=by omega
   have d2:(i:Int) < (d:Int):=by omega
   clear hx
   go_wp2
   go_quiet (fail)
   go_wp2
   go_roundw
   case rel=>exact ⟨i + 1,_,by omega,by go_num,rfl⟩
   case measure=>simp [intOf];omega
  ·go_wp2
   go_ret
   exact ⟨rfl,drewN_below _ _⟩
end
end Go.Proofs.YtpaocjpjlogkgaaGreat
