/-
  Words and contracts of this claim, 2 texts laid into one, each under its own remark. No conditions but those that stand at each.
-/
import Derived.Test.YtpaocjpjlogkgaaGreatQWords
import Derived.Test.YtpaocjpjlogkgaaGreatQCelK
namespace Go.Proofs.YtpaocjpjlogkgaaGreat
set_option maxRecDepth 100000
set_option maxHeartbeats 32000000
open Go
open Go.Lib (hid)
section
open Go.RowKit
theorem neq_blk_same (w:World) {a:List Int} (ha:a.length=8):(binOp .neq 74 (.agg (bkC a)) (.agg (bkC a))).run Tryz.prog w=.ok (.bool false) w:=by
 have h:=eql_blk w ha ha
 rw [run_eql_struct] at h
 rw [run_neq_struct]
 cases hq:Sem.run Tryz.prog (Op.equalIn 10000 74 (Value.agg (bkC a)) (Value.agg (bkC a))) w with
 | ok b w'=>
  rw [hq] at h
  simp only [Result.andThen_ok,decide_true,Result.ok.injEq,Value.bool.injEq] at h ⊢
  obtain ⟨rfl,rfl⟩:=h
  exact ⟨rfl,rfl⟩
 | halt x w'=>rw [hq] at h;cases h
theorem quiet_neq_blk {C:World→Prop} {a:Act} {o:Oper} {K:Act→Prop} {cs cs':Array Value} (r:Bool) (hl:∀ w,(binOp .neq 74 (.agg cs) (.agg cs')).run Tryz.prog w=.ok (.bool r) w) (x y:Operand) (t:TypeId)
  (ho:o.op=.binOp .neq 74 x y t) (hx:a.eval x=.agg cs) (hy:a.eval y=.agg cs') (hk:K (a.put o.dst (.bool r))):o.quiet Tryz.prog a C K:=
 ⟨_,fun w hw=>by
  unfold Oper.quietAt execOp
  simp only [ho,hx,hy,Sem.run_bind,run_eqGuard_agg w _ _ _ _ _ _ eqGuardBlk,Sem.run_pure,Result.andThen_ok,hl w]
  exact ⟨rfl,rfl⟩,hk⟩
theorem Blocks.load {w:World} {A:Option Addr} {c:Nat} {own:Blks} (h:Blocks w A c own) (h8:∀ b∈own,b.length=8) {i:Nat} (hi:i < own.length) :
  ∃ g off,A=some ⟨g,off,none⟩∧∀ w',Below w.heap.size w w'→(loadVar 74 ⟨g,off + i * 8,none⟩).run Tryz.prog w'=.ok (.agg (bkC (own[i]?.getD []))) w':=by
 obtain ⟨g,off,rfl,hg,hr⟩:=h.range h8 hi
 have hl:(own[i]?.getD []).length=8:=by
  rw [List.getElem?_eq_getElem hi]
  exact h8 _ (List.getElem_mem _)
 exact ⟨g,off,rfl,fun w' hb=>run_loadVar_mid w' g (off + i * 8) 74 _ _ (fun j v hv=>(hb.cell (p:=⟨g,off + i * 8 + j,none⟩) hg).trans (hr j v hv)) Tryz.underlying74 rfl (by rw [List.length_map,hl];exact infoBlk8)⟩
theorem rsameB_yes (own:Blks) (h8:∀ b∈own,b.length=8) (A A':Option Addr) (n c c':Nat) (w:World) (h:Blocks w A c own) (h':Blocks w A' c' own) (hn:own.length=n) (hz:n≤1000000) :
  Calls Tryz.prog 69 #[.slice A n c,.slice A' n c'] w fun e w'=>e=.returned (.bool true)∧Below w.heap.size w w':=by
 have hc:=h.2.1
 have hc':=h'.2.1
 have H:=hid h
 have H':=hid h'
 have H8:=hid h8
 have HN:=hid hn
 rw [hn] at hc hc'
 clear h h' h8 hn
 go_enter Tryz.func69,Tryz.ntmps69
 go_wp2
 go_loopw [5] (fun cc wr=>∃ k:Nat,k≤n∧cc=.int .i64 k∧Hid (Below w.heap.size w wr)) (fun cc _=>n - (intOf cc).toNat)
 case atStart=>exact ⟨0,Nat.zero_le _,rfl,hid (Below.refl _ _)⟩
 case round=>
  obtain ⟨k,hk,rfl,HB⟩:=hrel
  by_cases hlt:k < n
  ·have d1:(k:Int) < (n:Int):=by omega
   have d2:(k:Int) < (c:Int):=by omega
   have d3:(k:Int) < (c':Int):=by omega
   obtain ⟨g,off,rfl,hl⟩:=H.out.load H8.out (i:=k) (by rw [HN.out];exact hlt)
   obtain ⟨g',off',rfl,hl'⟩:=H'.out.load H8.out (i:=k) (by rw [HN.out];exact hlt)
   have L:Hid (∀ w',(∃ n,w'=wr.drewN n)→(loadVar 74 ⟨g,off + k * 8,none⟩).run Tryz.prog w'=.ok (.agg (bkC (own[k]?.getD []))) w'):=hid (by
    rintro _ ⟨q,rfl⟩
    exact hl _ (bnext HB.out (drewN_below _ _)))
   have L':Hid (∀ w',(∃ n,w'=wr.drewN n)→(loadVar 74 ⟨g',off' + k * 8,none⟩).run Tryz.prog w'=.ok (.agg (bkC (own[k]?.getD []))) w'):=hid (by
    rintro _ ⟨q,rfl⟩
    exact hl' _ (bnext HB.out (drewN_below _ _)))
   have NE:=hid (fun W=>neq_blk_same W (a:=own[k]?.getD []) (by
    rw [List.getElem?_eq_getElem (by rw [HN.out];exact hlt)]
    exact H8.out _ (List.getElem_mem _)))
   clear hl hl'
   generalize bkC (own[k]?.getD [])=cs at *
   go_wp2
   try simp only [List.append_eq,List.cons_append,List.nil_append]
   refine wp_region_quiet_lit (by kernel_rfl) (by kernel_rfl) ?_
   repeat (first
    | (go_big_quiet_want;(first | refine quiet_load_at _ g (off + k * 8) L.out _ rfl rfl ?_ | refine quiet_load_at _ g' (off' + k * 8) L'.out _ rfl rfl ?_ | refine quiet_neq_blk false NE.out _ _ _ rfl rfl rfl ?_);go_simp;go_big_quiet_on)
    | go_big_quiet_step (fail))
   refine wpQuiet_nil ?_
   rintro _ ⟨nq,rfl⟩
   go_wp2
   go_roundw
   case rel=>exact ⟨k + 1,by omega,by go_num,hid (bnext HB.out (drewN_below _ _))⟩
   case measure=>simp [intOf];omega
  ·obtain rfl:k=n:=by omega
   clear hlt
   go_wp2
   go_ret
   exact ⟨rfl,HB.out⟩
end
section
open Go.RowKit
theorem infoFour:(Tryz.prog.info? 62).map (·.size)=some 4:=by kernel_rfl
theorem eqGuardFour:Tryz.prog.eqGuardType Tryz.prog.depth 62=false:=by kernel_rfl
theorem load_four {w:World} {g:Nat} {pc fuel:Int} {S:Value} {r0 r1 r2 r3:Int} {O:Value} {ov:Bool} {e0:Int} (hk:Bk w g 64 (mC pc fuel S r0 r1 r2 r3 O ov e0)) :
  (loadVar 62 ⟨g,3,none⟩).run Tryz.prog w=.ok (.agg #[.int .i64 r0,.int .i64 r1,.int .i64 r2,.int .i64 r3]) w:=
 run_loadVar_mid w g 3 62 [.int .i64 r0,.int .i64 r1,.int .i64 r2,.int .i64 r3] _ (fun j v hv=>by
  have hj:j < 4:=(List.getElem?_eq_some_iff.1 hv).1
  rw [hk.cell]
  rcases (show j=0∨j=1∨j=2∨j=3 by omega) with rfl | rfl | rfl | rfl <;> exact hv) Tryz.underlying62 rfl infoFour
theorem eql_four (w:World) (r0 r1 r2 r3:Int):(binOp .eql 62 (.agg #[.int .i64 r0,.int .i64 r1,.int .i64 r2,.int .i64 r3]) (.agg #[.int .i64 r0,.int .i64 r1,.int .i64 r2,.int .i64 r3])).run Tryz.prog w=.ok (.bool true) w:=by
 cases hi:Tryz.prog.info? 3 with
 | none=>
  have h:(Tryz.prog.info? 3).isSome=true:=by kernel_rfl
  rw [hi] at h
  cases h
 | some i=>
  have key:=items_blk w 9998 [r0,r1,r2,r3] [r0,r1,r2,r3] [0,1,2,3] (fun i hi=>by simp at hi;simp;omega)
  rw [show bkC [r0,r1,r2,r3] = #[.int .i64 r0,.int .i64 r1,.int .i64 r2,.int .i64 r3] from rfl] at key
  rw [run_eql_struct,run_equalIn_array w 9999 _ _ Tryz.underlying62 hi,cellsInt,show List.range 4=[0,1,2,3] from rfl,key]
  simp
section
variable {ops:Array Oper} {rest:List Oper} {o:Oper} {a:Act} {w:World} {Q:Exit→Act→World→Prop}
theorem wpList_eql_four {r0 r1 r2 r3:Int} (x y:Operand) (t:TypeId)
  (ho:o.op=.binOp .eql 62 x y t) (hx:a.eval x=.agg #[.int .i64 r0,.int .i64 r1,.int .i64 r2,.int .i64 r3]) (hy:a.eval y=.agg #[.int .i64 r0,.int .i64 r1,.int .i64 r2,.int .i64 r3]) (hw:Region.wanted o (yielded ops a.tmps)=true) (h:wpList Tryz.prog ops Q rest (a.put o.dst (.bool true)) w):wpList Tryz.prog ops Q (o :: rest) a w:=
 BigFrame.wpList_want hw fun K hK=>by
  unfold Oper.wp execOp
  simp only [ho,hx,hy,Sem.run_bind,run_eqGuard_agg w _ _ _ _ _ _ eqGuardFour,Sem.run_pure,Result.andThen_ok,eql_four w]
  exact hK _ _ h
end
abbrev sB2 (cs cs':Array Value) (w:World):World:=(w.alloc (.cells cs 64)).alloc (.cells cs' 64)
theorem sB2_box (cs cs':Array Value) (w:World):Bk (sB2 cs cs' w) w.heap.size 64 cs∧Bk (sB2 cs cs' w) (w.heap.size + 1) 64 cs'∧Below w.heap.size w (sB2 cs cs' w):=by
 refine ⟨(Bk.new w _ _).alloc _,?_,bnext (below_alloc1 _ _) (below_alloc1 _ _)⟩
 have:=Bk.new (w.alloc (.cells cs 64)) 64 cs'
 rwa [World.size_alloc] at this
theorem rsame_yes (pc fuel:Int) (st ou:List Int) (r0 r1 r2 r3:Int) (ov:Bool) (e0:Int) (sA sA':Option Addr) (sn sc sc':Nat) (oA oA':Option Addr) (on oc oc':Nat) (w:World) (hs:Sl w 1 sA sn sc (st.map (.int .i64))) (hs':Sl w 1 sA' sn sc' (st.map (.int .i64))) (ho:Sl w 1 oA on oc (ou.map (.int .i64))) (ho':Sl w 1 oA' on oc' (ou.map (.int .i64))) (h1:sn≤1000000) (h2:on≤1000000) :
  Calls Tryz.prog 23 #[.agg (mC pc fuel (.slice sA sn sc) r0 r1 r2 r3 (.slice oA on oc) ov e0),.agg (mC pc fuel (.slice sA' sn sc') r0 r1 r2 r3 (.slice oA' on oc') ov e0)] w fun e w'=>e=.returned (.bool true)∧Below w.heap.size w w':=by
 have q1:=hs.2.1
 have q2:=hs'.2.1
 have q3:=ho.2.1
 have q4:=ho'.2.1
 have HS:=hid hs
 have HS':=hid hs'
 have HO:=hid ho
 have HO':=hid ho'
 obtain ⟨x1,x2,x3⟩:=sB2_box (mC pc fuel (.slice sA sn sc) r0 r1 r2 r3 (.slice oA on oc) ov e0) (mC pc fuel (.slice sA' sn sc') r0 r1 r2 r3 (.slice oA' on oc') ov e0) w
 have X:=hid x1
 have Y:=hid x2
 have B0:=hid x3
 clear x1 x2 x3 hs hs' ho ho'
 go_enter Tryz.func23,Tryz.ntmps23
 go_wp2
 go_loopw [5] (fun cc wr=>∃ k:Nat,k≤sn∧cc=.int .i64 k∧Hid (Below w.heap.size w wr)∧Hid (Bk wr w.heap.size 64 (mC pc fuel (.slice sA sn sc) r0 r1 r2 r3 (.slice oA on oc) ov e0))∧Hid (Bk wr (w.heap.size + 1) 64 (mC pc fuel (.slice sA' sn sc') r0 r1 r2 r3 (.slice oA' on oc') ov e0))) (fun cc _=>sn - (intOf cc).toNat)
 case atStart=>exact ⟨0,Nat.zero_le _,rfl,B0,X,Y⟩
 case round=>
  obtain ⟨k,hk,rfl,HB,HX,HY⟩:=hrel
  have c0:=HX.out.cell 2
  have c1:=HY.out.cell 2
  have l1:=HY.out.lt
  simp only [List.getElem?_toArray,List.getElem?_cons_zero,List.getElem?_cons_succ] at c0 c1
  by_cases hlt:k < sn
  ·have d1:(k:Int) < (sn:Int):=by omega
   have d2:(k:Int) < (sc:Int):=by omega
   have d3:(k:Int) < (sc':Int):=by omega
   obtain ⟨b,off,rfl,hb,hv⟩:=(HS.out.below HB.out).int hlt
   obtain ⟨b',off',rfl,hb',hv'⟩:=(HS'.out.below HB.out).int hlt
   generalize st[k]?.getD 0=v at *
   go_wp2
   go_quiet (fail)
   go_wp2
   go_roundw
   case rel=>exact ⟨k + 1,by omega,by go_num,hid (bnext HB.out (drewN_below _ _)),hid (HX.out.drewN _),hid (HY.out.drewN _)⟩
   case measure=>simp [intOf];omega
  ·obtain rfl:sn=k:=by omega
   clear hlt
   go_wp2
   go_loopw [6] (fun cc wr=>∃ k:Nat,k≤on∧cc=.int .i64 k∧Hid (Below w.heap.size w wr)∧Hid (Bk wr w.heap.size 64 (mC pc fuel (.slice sA sn sc) r0 r1 r2 r3 (.slice oA on oc) ov e0))∧Hid (Bk wr (w.heap.size + 1) 64 (mC pc fuel (.slice sA' sn sc') r0 r1 r2 r3 (.slice oA' on oc') ov e0))) (fun cc _=>on - (intOf cc).toNat)
   case atStart=>exact ⟨0,Nat.zero_le _,rfl,HB,HX,HY⟩
   case round=>
    clear c0 c1 l1 HB HX HY
    obtain ⟨k,hk,rfl,HB,HX,HY⟩:=hrel
    have c0:=HX.out.cell 7
    have c1:=HY.out.cell 7
    have l1:=HY.out.lt
    simp only [List.getElem?_toArray,List.getElem?_cons_zero,List.getElem?_cons_succ] at c0 c1
    by_cases hlt:k < on
    ·have d1:(k:Int) < (on:Int):=by omega
     have d2:(k:Int) < (oc:Int):=by omega
     have d3:(k:Int) < (oc':Int):=by omega
     obtain ⟨b,off,rfl,hb,hv⟩:=(HO.out.below HB.out).int hlt
     obtain ⟨b',off',rfl,hb',hv'⟩:=(HO'.out.below HB.out).int hlt
     generalize ou[k]?.getD 0=v at *
     go_wp2
     go_quiet (fail)
     go_wp2
     go_roundw
     case rel=>exact ⟨k + 1,by omega,by go_num,hid (bnext HB.out (drewN_below _ _)),hid (HX.out.drewN _),hid (HY.out.drewN _)⟩
     case measure=>simp [intOf];omega
    ·obtain rfl:k=on:=by omega
     clear hlt
     have a0:=HX.out.cell 0
     have a1:=HX.out.cell 1
     have a8:=HX.out.cell 8
     have a9:=HX.out.cell 9
     have b0:=HY.out.cell 0
     have b1:=HY.out.cell 1
     have b8:=HY.out.cell 8
     have b9:=HY.out.cell 9
     simp only [List.getElem?_toArray,List.getElem?_cons_zero,List.getElem?_cons_succ] at a0 a1 a8 a9 b0 b1 b8 b9
     go_wp2_with (first
      | (refine wpList_load_at _ w.heap.size 3 (load_four HX.out) _ rfl rfl rfl ?_)
      | (refine wpList_load_at _ (w.heap.size + 1) 3 (load_four HY.out) _ rfl rfl rfl ?_)
      | (refine wpList_eql_four _ _ _ rfl rfl rfl rfl ?_))
     go_ret
     exact ⟨rfl,HB.out⟩
end
end Go.Proofs.YtpaocjpjlogkgaaGreat
