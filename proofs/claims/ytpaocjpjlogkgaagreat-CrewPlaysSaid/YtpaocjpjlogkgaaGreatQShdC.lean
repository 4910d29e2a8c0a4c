/-
  Words and contracts of this claim, 3 texts laid into one, each under its own remark. No conditions but those that stand at each.
-/
import Derived.Test.YtpaocjpjlogkgaaGreatQShdM
import Derived.Laws.AppendOwnNone
import Derived.Deep.QuietTactic
import Derived.BigQuiet
namespace Go.Proofs.YtpaocjpjlogkgaaGreat
set_option maxRecDepth 100000
set_option maxHeartbeats 32000000
open Go
open Go.Lib (hid)
section
open Go.RowKit
attribute [local go_sem] look findAt
attribute [local simp] depsOf depsE isV Region.binds
theorem Bk.all9 {w:World} {g:Nat} {t:TypeId} {a b c d e f x y z:Value} (h:Bk w g t #[a,b,c,d,e,f,x,y,z]) :
  w.cell? ⟨g,0,none⟩=some a∧w.cell? ⟨g,1,none⟩=some b∧w.cell? ⟨g,2,none⟩=some c∧w.cell? ⟨g,3,none⟩=some d∧w.cell? ⟨g,4,none⟩=some e∧w.cell? ⟨g,5,none⟩=some f∧w.cell? ⟨g,6,none⟩=some x∧w.cell? ⟨g,7,none⟩=some y∧w.cell? ⟨g,8,none⟩=some z∧∀ o,w.frozen? ⟨g,o,none⟩=false:=
 ⟨h.cell 0,h.cell 1,h.cell 2,h.cell 3,h.cell 4,h.cell 5,h.cell 6,h.cell 7,h.cell 8,fun o=>h.frozen o⟩
theorem own_var_ne {w:World} {B:Nat} {e t:TypeId} {s n c g b:Nat} {xs:List Value} {cs:Array Value} (h:w.ownsRow B e s (.slice (some ⟨g,0,none⟩) n c) n xs) (hb:Bk w b t cs) (hne:t≠e):b≠g:=by
 rintro rfl
 rcases h.2 with ⟨h0,_⟩ | ⟨g',cap,cur,hv,_,hg,_⟩
 ·cases h0
 ·injection hv with hA _ _
  injection hA with hA
  injection hA with hA
  subst hA
  exact hb.ne hg hne rfl
theorem below_draw {B:Nat} {w W:World} (h:Below B w W):Below B w W.drew:=⟨h.os,h.tape,h.output,h.size,h.block⟩
theorem keep_stores {B:Nat} {W:World} {old:List Ent} {kept:List Bool} {go no oc gk kc:Nat} (h:MkOwn B W old kept (some ⟨go,0,none⟩) no oc (some ⟨gk,0,none⟩) no kc) {j:Nat} (hj:j < no) {e:Ent} (he:e.cells.length=8) :
  MkOwn B ((W.setCells go (j * 9) (bkC (entI e)).toList).setCell ⟨gk,j,none⟩ (.bool true)) (old.set j e) (kept.set j true) (some ⟨go,0,none⟩) no oc (some ⟨gk,0,none⟩) no kc:=by
 have hne:∀ b,(Value.slice (some ⟨go,0,none⟩) no oc).ownBlock=some b→(Value.slice (some ⟨gk,0,none⟩) no kc).ownBlock≠some b:=own_apart h.oo h.ok (by decide)
 have hgg:gk≠go:=fun q=>hne go rfl (by rw [← q];rfl)
 have o1:=own_setCells (bkC (entI e)).toList (j * 9) h.oo
 rw [bkC_list,entsW_set h.e8 (by rw [h.lo];exact hj) he] at o1
 have k1:(W.setCells go (j * 9) (bkC (entI e)).toList).ownsRow B 4 1 (.slice (some ⟨gk,0,none⟩) no kc) no (bsW kept):=own_keep h.ok fun k _ hk=>heap_setCells _ _ _ k (by
  have:k=gk:=by simpa [Value.ownBlock] using hk.symm
  omega)
 have k2:=(k1.stored j (.bool true)).1
 rw [← bkC_list] at o1
 refine ⟨by rw [List.length_set,h.lo],by rw [List.length_set,h.lk],h.e8.set j he,own_keep o1 fun k _ hk=>Below.heap_setCell _ ⟨gk,j,none⟩ _ k (by
  have:k=go:=by simpa [Value.ownBlock] using hk.symm
  show k≠gk
  omega),?_⟩
 have:=bsW_set kept j true
 simp only [setL] at this
 rw [← this]
 exact k2
def kpV (box j:Nat) (O K L:Value) (gl ol go:Nat) (E:Array Value) (_:Unit):Nat→Value
 | 0=>.pointer (some ⟨box,7,none⟩)
 | 1=>O
 | 2=>.int .i64 (j:Int)
 | 3=>.pointer (some ⟨box,8,none⟩)
 | 4=>K
 | 5=>.int .i64 (j:Int)
 | 6=>L
 | 7=>.int .i64 (j:Int)
 | 8=>.pointer (some ⟨gl,ol + j * 9,none⟩)
 | 9=>.agg E
 | 10=>.pointer (some ⟨go,j * 9,none⟩)
 | _=>undef
def KpH (D S:World) (d:Nat→Bool) (_:Unit) (X:World):Prop:=X=if d 11=true then S else D
theorem KpH.is {D S:World} {d:Nat→Bool} {x:Unit} {X:World} (h:KpH D S d x X) {i:Nat} (hi:i≠11):KpH D S (updB d i) x X:=by
 unfold KpH at h ⊢
 rw [updB_ne d (Ne.symm hi)]
 exact h
theorem KpH.or {D S:World} {d:Nat→Bool} {x:Unit} {X:World} (h:KpH D S d x X):X=D∨X=S:=by
 unfold KpH at h
 cases hd:d 11 with
 | true=>rw [hd] at h;exact .inr h
 | false=>rw [hd] at h;exact .inl h
theorem op_st_mid {ρ:Operand→Value} {o:Oper} {w:World} (t:TypeId) (g off:Nat) (E:Array Value) (hr:w.there g off E.size) (hi:(Tryz.prog.info? t).map (·.size)=some E.size) (h1:E.all (·.oneCell')=true) (x y:Operand) (ho:o.op=.store t x y) (hx:ρ x=.pointer (some ⟨g,off,none⟩)) (hy:ρ y=.agg E) :
  (execOp ρ o).run Tryz.prog w=.ok .skip (w.setCells g off E.toList):=by
 have hl:=run_storeVar_mid (P:=Tryz.prog) w g off t E hr hi h1
 unfold execOp
 simp only [ho,hx,hy,Instr.storeAt,Instr.sureAddr,Sem.run_bind,Sem.run_pure,Result.andThen_ok,hl]
def noneW (B:Nat) (e:TypeId):Says:=fun v w=>∃ g,v=.slice (some ⟨g,0,none⟩) 0 0∧B≤g∧Bk w g e #[]
theorem noneW_keep {B:Nat} {e:TypeId} (v:Value) (x y:World) (hb:Below x.heap.size x y) (h:noneW B e v x):noneW B e v y:=by
 obtain ⟨g,rfl,hB,hk⟩:=h
 exact ⟨g,rfl,hB,hk.below hb⟩
theorem exec_noneE (ρ:Operand→Value) (w:World) (o:Oper) (ho:o.op=.buildSlice 26 0 #[]):(execOp ρ o).run Tryz.prog w=.ok (.value (.slice (some ⟨w.heap.size,0,none⟩) 0 0)) (w.alloc (.cells #[] 76)):=by
 unfold execOp
 simp only [ho]
 go_simp
theorem exec_noneB (ρ:Operand→Value) (w:World) (o:Oper) (ho:o.op=.buildSlice 30 0 #[]):(execOp ρ o).run Tryz.prog w=.ok (.value (.slice (some ⟨w.heap.size,0,none⟩) 0 0)) (w.alloc (.cells #[] 4)):=by
 unfold execOp
 simp only [ho]
 go_simp
theorem own_empty13 {w:World} {B g:Nat} {e:TypeId} {size:Nat} (hB:B≤g) (h:Bk w g e #[]):w.ownsRow B e size (.slice (some ⟨g,0,none⟩) 0 0) 0 []:=
 ⟨by simp,.inr ⟨g,0,#[],rfl,hB,h,Nat.le_refl _,by decide,by simp,by simp⟩⟩
theorem exec_appendW {ρ:Operand→Value} {w:World} {o:Oper} (s x:Operand) (t:TypeId) (ho:o.op=.call { callee:=.builtin .append,args:=#[s,x],argTypes:=#[t,t] })
  (B:Nat) (e:TypeId) (i:TypeInfo) (z:Value) (size bytes:Nat) (ht:Tryz.prog.underlying t=some (.slice e)) (hi:Tryz.prog.info? e=some i) (hz:i.zero=some z) (hsize:i.size=size) (hby:i.bytes=bytes) (hzs:z.cells.size=size)
  {v:Value} (hv:noneW B e v w) (hB:B≤w.heap.size) (hs:ρ s=v) (A:Option Addr) (n c:Nat) (xs:List Value) (hx:ρ x=.slice A n c) (hr:Sl w size A n c xs) (h1:∀ u∈xs,u.oneCell'=true) (hn:n≤maxLen) (hbytes:n * bytes≤140737488355328) :
  ∃ v' w',(execOp ρ o).run Tryz.prog w=.ok (.value v') w'∧Below w.heap.size w w'∧rowsV B e size n xs v' w':=by
 obtain ⟨g,rfl,hBg,hk⟩:=hv
 have key:∃ v' w',(Builtin.append_ #[t,t] o.type #[.slice (some ⟨g,0,none⟩) 0 0,.slice A n c]).run Tryz.prog w=.ok v' w'∧Below w.heap.size w w'∧rowsV B e size n xs v' w':=by
  by_cases h0:n=0
  ·subst h0
   obtain rfl:xs=[]:=List.eq_nil_of_length_eq_zero (by have:=hr.1;simpa using this)
   cases A with
   | none=>
    obtain ⟨_,rfl⟩:=hr.2.2.1 rfl
    refine ⟨.slice (some ⟨g,0,none⟩) 0 0,w,?_,Below.refl _ _,_,_,rfl,own_empty13 hBg hk⟩
    simp [Builtin.append_,run_underlying ht,sizeOf,typeInfo,hi,Builtin.lenOf,Builtin.firstCells,storeCells]
   | some a=>
    have hrun:=run_append_room (P:=Tryz.prog) w t o.type e i ht hi g 0 0 #[] hk a 0 c [] (by simp) (by simp) (by simp) (by simp) (by simp)
    refine ⟨_,_,hrun,?_,_,_,rfl,?_⟩
    ·have hb:Below w.heap.size w (w.setRow g #[]):=⟨rfl,rfl,rfl,by simp,fun k _=>by
      by_cases e':k=g
      ·subst e'
       exact (setRow_heap w k #[] #[] e _ hk).trans hk.symm
      ·exact setRow_other w g k _ e'⟩
     simpa using hb
    ·have hk2:Bk (w.setRow g #[]) g e #[]:=setRow_heap w g #[] #[] e _ hk
     simpa using own_empty13 hBg hk2
  ·obtain ⟨b,off,rfl,hb,hcell⟩:=hr.2.2.2 (by omega)
   have hbt:n * i.bytes≤140737488355328:=by rw [hby];exact hbytes
   have hrun:=run_append_grow (P:=Tryz.prog) w t o.type e i z ht hi hz ⟨g,0,none⟩ 0 0 [] (by simp) (by simp) ⟨b,off,none⟩ n c xs (by rw [hsize];exact hr.1) (fun j v hj=>hr.olds _ rfl j v hj) (by omega) (by unfold maxLen at hn;omega) (growslice_fits (by omega) (by simpa using hbt))
   rw [Nat.zero_add] at hrun
   have hge:=grownCap_ge w n 0 e
   have hcm:grownCap w n 0 e≤maxLen:=grownCap_le_maxLen w n 0 e hn
   have hl:=hr.1
   refine ⟨_,_,hrun,(below_drew1 w).alloc (by simp) _,_,_,rfl,⟨hl,.inr ⟨w.heap.size,_,_,rfl,hB,heap_alloc_new w.drew _,hge,hcm,?_,?_⟩⟩⟩
   ·simp only [Array.size_append,List.size_toArray,size_zeroCells,hzs,hl,List.length_nil]
    rw [Nat.zero_add,← Nat.add_mul]
    congr 1
    omega
   ·simp only [Array.toList_append,List.nil_append]
    rw [← hl]
    exact List.take_left
 obtain ⟨v',w',hrun,hb,hrow⟩:=key
 refine ⟨v',w',?_,hb,hrow⟩
 unfold execOp
 simp only [ho,resolve,invoke,builtin,Sem.run_bind,Sem.run_pure,Result.andThen_ok,List.map_toArray,List.map_cons,List.map_nil,hs,hx,hrun]
section
variable (on:Bool) (a1 a2 a3 a4 a5 a6:Int) (oA:Option Addr) (no oc:Nat) (kA:Option Addr) (kc:Nat)
theorem keep_any (old:List Ent) (kept:List Bool) (l:List Ent) (lA:Option Addr) (ln lc:Nat) (i:Int) (w:World) (hM:MkIn w old kept oA no oc kA no kc) (hL:Ents w lA lc l) (h8:Eight l) (hln:l.length=ln) (hno:no≤1000) :
  Calls Tryz.prog 114 #[.agg (mkC on a1 a2 a3 a4 a5 a6 (.slice oA no oc) (.slice kA no kc)),.slice lA ln lc,.int .i64 i] w (MkPost on a1 a2 a3 a4 a5 a6 no (keepS ⟨on,old,kept⟩ l i) w):=by
 have cl1:=hid (fun (W:World) (hW:Below w.heap.size w W)=>rowsV_call (B:=w.heap.size) hW.size (clone_ents oA no oc _ W (hM.so.below hW) hno (entsW_one old)))
 have cl2:=hid (fun (W:World) (hW:Below w.heap.size w W)=>rowsV_call (B:=w.heap.size) hW.size (clone_bools kA no kc _ W (hM.sk.below hW) hno (bsW_one kept)))
 obtain ⟨wr,hW⟩:∃ W,W=(w.alloc (.cells (mkC on a1 a2 a3 a4 a5 a6 (.slice oA no oc) (.slice kA no kc)) 32)).alloc (.cells mkZ 32):=⟨_,rfl⟩
 have B0:Hid (Below w.heap.size w wr):=hid (by rw [hW];exact kB_below _ _ _ _)
 have X0:Hid (Bk wr w.heap.size 32 (mkC on a1 a2 a3 a4 a5 a6 (.slice oA no oc) (.slice kA no kc))):=hid (by rw [hW];exact kB_box _ _ _ _)
 have R0:Hid (Bk wr (w.heap.size + 1) 32 mkZ):=hid (by rw [hW];exact kB_res _ _ _ _)
 have S0:Hid (w.heap.size + 1 + 1≤wr.heap.size):=hid (by rw [hW];simp)
 have hQ:Hid (∀ X,Below wr.heap.size wr X→X.cell? ⟨w.heap.size,7,none⟩=some (.slice oA no oc)∧X.cell? ⟨w.heap.size,8,none⟩=some (.slice kA no kc)):=hid (fun X hX=>⟨(X0.out.below hX).cell 7,(X0.out.below hX).cell 8⟩)
 have HM:=hid hM
 have HL:=hid hL
 have H8:=hid h8
 have hlc:ln≤lc:=by have:=hL.2.1;omega
 clear hM hL h8
 go_enter Tryz.func114,Tryz.ntmps114
 go_wp2
 rw [← hW]
 clear hW
 try simp only [List.append_eq,List.cons_append,List.nil_append]
 refine wp_region_saysK 7 (fun x y=>Below x.heap.size x y) (fun _ _ _ h k=>bnext h k) wr (below_drew1 wr) (by kernel_rfl) (by kernel_rfl) (by kernel_rfl) (by kernel_rfl) (by rfl) ?_
 simp only [List.take_succ_cons,List.take_zero,List.drop_succ_cons,List.drop_zero]
 iterate 2
  refine wkI ?_ (fun u X hX hd=>?_) ?_
  rotate_left
  ·obtain ⟨q7,q8⟩:=hQ.out X hX
   try simp at hd
   go_simp
   try rfl
 refine walkK_call (rowsV w.heap.size 76 9 no (entsW old)) 131 ?_ (by first | exact gs0 rfl | exact gs1 rfl rfl rfl) (fun v x y hb h=>rowsV_keep v x y hb h) (fun u X hX hd=>?_) (fun X hX=>?_) ?_
 rotate_left
 ·obtain ⟨q7,q8⟩:=hQ.out X hX
  try simp at hd
  go_simp
  try rfl
 ·exact cl1.out X (bnext B0.out hX)
 refine wkN ?_
 iterate 2
  refine wkI ?_ (fun u X hX hd=>?_) ?_
  rotate_left
  ·obtain ⟨q7,q8⟩:=hQ.out X hX
   try simp at hd
   go_simp
   try rfl
 refine walkK_call (rowsV w.heap.size 4 1 no (bsW kept)) 132 ?_ (by first | exact gs0 rfl | exact gs1 rfl rfl rfl) (fun v x y hb h=>rowsV_keep v x y hb h) (fun u X hX hd=>?_) (fun X hX=>?_) ?_
 rotate_left
 ·obtain ⟨q7,q8⟩:=hQ.out X hX
  try simp at hd
  go_simp
  try rfl
 ·exact cl2.out X (bnext B0.out hX)
 refine wkN ?_
 refine wkI ?_ (fun u X hX hd=>?_) ?_
 rotate_left
 ·obtain ⟨q7,q8⟩:=hQ.out X hX
  try simp at hd
  go_simp
  try rfl
 intro u X hX hsay
 simp only [sayAll,isV,rowsV] at hsay
 obtain ⟨v0,v1,⟨oA',oc',v2,ho⟩,v3,v4,⟨kA',kc',v5,hk⟩,v6,-⟩:=hsay
 simp only [putAll,Act.put,v0,v1,v2,v3,v4,v5,v6,List.setIfInBounds_toArray,List.set_cons_succ,List.set_cons_zero]
 clear v0 v1 v2 v3 v4 v5 v6 cl1 cl2 hQ
 have B1:=hid (bnext B0.out hX)
 have X1:=hid (X0.out.below hX)
 have R1:=hid (R0.out.below hX)
 have B3:=hid (Below.setCell (p:=⟨w.heap.size,7,none⟩) B1.out (Nat.le_refl _) (.slice oA' no oc'))
 have B4:=hid (Below.setCell (p:=⟨w.heap.size,8,none⟩) B3.out (Nat.le_refl _) (.slice kA' no kc'))
 have X3:=hid (X1.out.set 7 (.slice oA' no oc'))
 have X4:Hid (Bk ((X.setCell ⟨w.heap.size,7,none⟩ (.slice oA' no oc')).setCell ⟨w.heap.size,8,none⟩ (.slice kA' no kc')) w.heap.size 32 (mkC on a1 a2 a3 a4 a5 a6 (.slice oA' no oc') (.slice kA' no kc'))):=hid (by have:=X3.out.set 8 (.slice kA' no kc');simpa using this)
 have R3:=hid (R1.out.far (p:=⟨w.heap.size,7,none⟩) (by simp) (.slice oA' no oc'))
 have R4:=hid (R3.out.far (p:=⟨w.heap.size,8,none⟩) (by simp) (.slice kA' no kc'))
 have O4:=hid (own_varCell (own_varCell ho X1.out (by decide) 7 (.slice oA' no oc')) X3.out (by decide) 8 (.slice kA' no kc'))
 have K4:=hid (own_varCell (own_varCell hk X1.out (by decide) 7 (.slice oA' no oc')) X3.out (by decide) 8 (.slice kA' no kc'))
 have M4:Hid (MkOwn w.heap.size ((X.setCell ⟨w.heap.size,7,none⟩ (.slice oA' no oc')).setCell ⟨w.heap.size,8,none⟩ (.slice kA' no kc')) old kept oA' no oc' kA' no kc'):=hid ⟨HM.out.lo,HM.out.lk,HM.out.e8,O4.out,K4.out⟩
 have hlk:=HM.out.lk
 obtain ⟨c0,c1,c2,c3,c4,c5,c6,c7,c8,cf⟩:=X1.out.all9
 have cl:=X1.out.lt
 clear ho hk X3 R3 B3 O4 K4 HM B0 X0 R0 S0 R1 hX
 cases on with
 | false=>
  have hks:keepS ⟨false,old,kept⟩ l i=⟨false,old,kept⟩:=by
   rw [keepS,if_neg]
   rintro ⟨h,-⟩
   cases h
  clear hln hlk
  go_wp2_with (first
   | (with_reducible refine ld_mk w.heap.size X4.out _ rfl rfl rfl ?_)
   | (with_reducible refine st_mk (w.heap.size + 1) R4.out rfl rfl rfl _ _ rfl rfl rfl rfl ?_))
  exact bodyPost_ret (v:=.agg (mkC false a1 a2 a3 a4 a5 a6 (.slice oA' no oc') (.slice kA' no kc'))) (results_cell_row rfl _ _ (w.heap.size + 1) _ _ (0,0) _ rfl (Bk.setRow R4.out _) Tryz.underlying32 rfl infoMk) rfl ⟨_,_,_,_,rfl,by rw [hks];exact M4.out.varRow R4.out (by decide) (by decide) _,below_row B4.out (by omega) _⟩
 | true=>
  by_cases hi:0≤i∧i < (ln:Int)
  ·obtain ⟨j,rfl⟩:∃ j:Nat,i=(j:Int):=⟨i.toNat,by omega⟩
   have hj:j < ln:=by omega
   have hhas:=hid (fun W=>hasE_any lA ln lc (j:Int) true W ⟨fun _=>by omega,fun _=>rfl⟩)
   by_cases hjo:j < no
   ·have hfit:=hid (fun W=>fits_is true a1 a2 a3 a4 a5 a6 oA' no oc' kA' kc' (j:Int) true W ⟨fun _=>by omega,fun _=>rfl⟩)
    obtain ⟨go,curo,rfl,-,-,hco,-,-,-⟩:=own_pos M4.out.oo (by omega)
    obtain ⟨gk,curk,rfl,-,-,hck,-,-,-⟩:=own_pos M4.out.ok (by omega)
    obtain ⟨b,off,hboff,hbl,hv⟩:=M4.out.inn.sk.bool (j:=j) hjo
    obtain ⟨rfl,rfl⟩:gk=b∧0=off:=by injection hboff with h;injection h with h1 h2;exact ⟨h1,h2⟩
    clear hboff
    rw [Nat.zero_add] at hv
    have HV:=hid hv
    clear hv
    have d1:(j:Int) < (ln:Int):=by omega
    have d2:(j:Int) < (lc:Int):=by omega
    have d3:(j:Int) < (no:Int):=by omega
    have d4:(j:Int) < (kc':Int):=by omega
    have d5:(j:Int) < (oc':Int):=by omega
    cases hkj:kept[j]?.getD false with
    | true=>
     have hks:keepS ⟨true,old,kept⟩ l (j:Int)=⟨true,old,kept⟩:=by
      rw [keepS,if_neg]
      rintro ⟨-,-,-,-,h⟩
      rw [Int.toNat_natCast] at h;simp only at h;rw [h] at hkj;cases hkj
     go_wp2_with (first
      | (go_at_call 133;go_must ((with_reducible refine (hhas.out _).mono ?_);rintro e w1 ⟨rfl,rfl⟩))
      | (refine wpList_load_at 32 w.heap.size 0 (load_mk X4.out) _ rfl rfl rfl ?_)
      | (go_at_call 134;go_must ((with_reducible refine (hfit.out _).mono ?_);rintro e w5 ⟨rfl,hb5⟩;have B5:=hid (bnext B4.out hb5);have X5:=hid (X4.out.below hb5);have R5:=hid (R4.out.below hb5);have M5:=hid (M4.out.below hb5);obtain ⟨f0,f1,f2,f3,f4,f5,f6,f7,f8,ff⟩:=X5.out.all9;have fl:=X5.out.lt;have V5:=(hb5.cell (p:=⟨gk,j,none⟩) hbl).trans HV.out;rw [hkj] at V5;clear hb5))
      | (with_reducible refine ld_mk w.heap.size X5.out _ rfl rfl rfl ?_)
      | (with_reducible refine st_mk (w.heap.size + 1) R5.out rfl rfl rfl _ _ rfl rfl rfl rfl ?_))
     exact bodyPost_ret (v:=.agg (mkC true a1 a2 a3 a4 a5 a6 (.slice (some ⟨go,0,none⟩) no oc') (.slice (some ⟨gk,0,none⟩) no kc'))) (results_cell_row rfl _ _ (w.heap.size + 1) _ _ (0,0) _ rfl (Bk.setRow R5.out _) Tryz.underlying32 rfl infoMk) rfl ⟨_,_,_,_,rfl,by rw [hks];exact M5.out.varRow R5.out (by decide) (by decide) _,below_row B5.out (by omega) _⟩
    | false=>
     have hks:keepS ⟨true,old,kept⟩ l (j:Int)=⟨true,old.set j (l[j]?.getD entZ),kept.set j true⟩:=by
      have hk:keepsS ⟨true,old,kept⟩ l (j:Int):=⟨rfl,by omega,by omega,by show (j:Int) < (kept.length:Int);omega,by
       show kept[(j:Int).toNat]? = some false
       rw [Int.toNat_natCast]
       rw [List.getElem?_eq_getElem (by omega)] at hkj ⊢
       simpa using hkj⟩
      rw [keepS,if_pos hk]
      simp only [Int.toNat_natCast]
     have HKS:=hid hks
     clear hks
     obtain ⟨gl,ol,rfl,hgl,hll⟩:=HL.out.load H8.out (i:=j) (by omega)
     obtain ⟨E,hE⟩:∃ E:Array Value,E=bkC (entI (l[j]?.getD entZ)):=⟨_,rfl⟩
     have HLE:Hid (∀ X,Below w.heap.size w X→(loadVar 76 ⟨gl,ol + j * 9,none⟩).run Tryz.prog X=.ok (.agg E) X):=hid (fun X hX=>by rw [hE];exact (hll X hX).1)
     have HE8:=hid (H8.out.at j)
     have hEE:=hid hE
     have E9:E.size=9:=by rw [hE,bkC_size,entI_length HE8.out]
     have EI:(Tryz.prog.info? 76).map (·.size)=some E.size:=by rw [E9];exact infoEnt9
     have EA:E.all (·.oneCell')=true:=by rw [hE];simp [bkC,Value.oneCell']
     clear hE hll
     go_wp2_with (first
      | (go_at_call 133;go_must ((with_reducible refine (hhas.out _).mono ?_);rintro e w1 ⟨rfl,rfl⟩))
      | (refine wpList_load_at 32 w.heap.size 0 (load_mk X4.out) _ rfl rfl rfl ?_)
      | (go_at_call 134;go_must ((with_reducible refine (hfit.out _).mono ?_);rintro e w5 ⟨rfl,hb5⟩;have B5:=hid (bnext B4.out hb5);have X5:=hid (X4.out.below hb5);have R5:=hid (R4.out.below hb5);have M5:=hid (M4.out.below hb5);obtain ⟨f0,f1,f2,f3,f4,f5,f6,f7,f8,ff⟩:=X5.out.all9;have fl:=X5.out.lt;have V5:=(hb5.cell (p:=⟨gk,j,none⟩) hbl).trans HV.out;rw [hkj] at V5;clear hb5)))
     have hD:Hid (Below w.heap.size w w5.drew):=hid (below_draw B5.out)
     have XD:Hid (Bk w5.drew w.heap.size 32 (mkC true a1 a2 a3 a4 a5 a6 (.slice (some ⟨go,0,none⟩) no oc') (.slice (some ⟨gk,0,none⟩) no kc'))):=hid (X5.out.heap rfl)
     have RD:Hid (Bk w5.drew (w.heap.size + 1) 32 mkZ):=hid (R5.out.heap rfl)
     have OD:Hid (MkOwn w.heap.size w5.drew old kept (some ⟨go,0,none⟩) no oc' (some ⟨gk,0,none⟩) no kc'):=hid ⟨M5.out.lo,M5.out.lk,M5.out.e8,own_heap M5.out.oo rfl,own_heap M5.out.ok rfl⟩
     have hgo:w.heap.size≠go:=own_var_ne OD.out.oo XD.out (by decide)
     have hgr:w.heap.size + 1≠go:=own_var_ne OD.out.oo RD.out (by decide)
     have hgk:w.heap.size≠gk:=own_var_ne OD.out.ok XD.out (by decide)
     have hgs:w.heap.size + 1≠gk:=own_var_ne OD.out.ok RD.out (by decide)
     have hgg:go≠gk:=fun q=>own_apart OD.out.oo OD.out.ok (by decide) go rfl (by rw [q];rfl)
     have hBg:w.heap.size≤go:=own_ge OD.out.oo rfl
     have hBk:w.heap.size≤gk:=own_ge OD.out.ok rfl
     obtain ⟨gp,curo,hgp,-,hko,-,-,hso,-⟩:=own_pos OD.out.oo (by omega)
     obtain rfl:go=gp:=by injection hgp with hgp;injection hgp
     obtain ⟨gq,curk,hgq,-,hkk,-,-,hsk,-⟩:=own_pos OD.out.ok (by omega)
     obtain rfl:gk=gq:=by injection hgq with hgq;injection hgq
     obtain ⟨D,hDe⟩:∃ D,D=w5.drew:=⟨_,rfl⟩
     rw [← hDe] at hD XD RD OD hko hkk
     obtain ⟨S,hSe⟩:∃ S,S=D.setCells go (j * 9) E.toList:=⟨_,rfl⟩
     have hS:Hid (Below w.heap.size w S):=hid (by rw [hSe];exact below_setCells hD.out hBg _ _)
     have XS:Hid (Bk S w.heap.size 32 (mkC true a1 a2 a3 a4 a5 a6 (.slice (some ⟨go,0,none⟩) no oc') (.slice (some ⟨gk,0,none⟩) no kc'))):=hid (by rw [hSe];exact XD.out.setCells hgo _ _)
     have RS:Hid (Bk S (w.heap.size + 1) 32 mkZ):=hid (by rw [hSe];exact RD.out.setCells hgr _ _)
     have hQ:Hid (∀ X,X=D∨X=S→X.cell? ⟨w.heap.size,7,none⟩=some (.slice (some ⟨go,0,none⟩) no oc')∧X.cell? ⟨w.heap.size,8,none⟩=some (.slice (some ⟨gk,0,none⟩) no kc')):=hid (by
      rintro X (rfl | rfl)
      ·exact ⟨XD.out.cell 7,XD.out.cell 8⟩
      ·exact ⟨XS.out.cell 7,XS.out.cell 8⟩)
     have hLQ:Hid (∀ X,X=D∨X=S→(loadVar 76 ⟨gl,ol + j * 9,none⟩).run Tryz.prog X=.ok (.agg E) X):=hid (by
      rintro X (rfl | rfl)
      ·exact HLE.out _ hD.out
      ·exact HLE.out _ hS.out)
     have TH:Hid (D.there go (j * 9) E.size):=hid (hko.there (by rw [hso,E9];omega))
     have FIN:=hid (keep_stores (j:=j) OD.out hjo HE8.out)
     rw [← hEE.out,← hSe] at FIN
     have SKB:Hid (S.cell? ⟨gk,j,none⟩=curk[j]?∧S.frozen? ⟨gk,j,none⟩=false∧(curk[j]?).isSome=true∧gk < S.heap.size):=hid (by
      have hk2:Bk S gk 4 curk:=by rw [hSe];exact Bk.setCells hkk (Ne.symm hgg) _ _
      refine ⟨hk2.cell j,hk2.frozen j,?_,hk2.lt⟩
      rw [Array.getElem?_eq_getElem (by omega)]
      rfl)
     clear hko hkk hso hsk OD
     try simp only [List.append_eq,List.cons_append,List.nil_append]
     refine wp_region_saysE 12 (kpV w.heap.size j (.slice (some ⟨go,0,none⟩) no oc') (.slice (some ⟨gk,0,none⟩) no kc') (.slice (some ⟨gl,ol,none⟩) ln lc) gl ol go E) (KpH D S) () (by rw [hDe];rfl) (by kernel_rfl) (by kernel_rfl) (by kernel_rfl) (by kernel_rfl) (by rfl) ?_ ?_
     ·simp only [List.take_succ_cons,List.take_zero]
      iterate 2
       refine walkE_is (fun d x u X _ hh _=>hh.is (by decide)) (fun d x u X hh hd=>?_) ?_
       ·obtain ⟨q7,q8⟩:=hQ.out X hh.or
        clear hd
        go_simp
        try simp [hd]
        try rfl
       refine walkE_is (fun d x u X _ hh _=>hh.is (by decide)) (fun d x u X hh hd=>?_) ?_
       ·obtain ⟨q7,q8⟩:=hQ.out X hh.or
        simp [kpV] at hd
        go_simp
        try simp [hd]
        try rfl
       refine walkE_is (fun d x u X _ hh _=>hh.is (by decide)) (fun d x u X hh hd=>?_) ?_
       ·obtain ⟨q7,q8⟩:=hQ.out X hh.or
        clear hd
        go_simp
        try simp [hd]
        try rfl
      iterate 2
       refine walkE_is (fun d x u X _ hh _=>hh.is (by decide)) (fun d x u X hh hd=>?_) ?_
       ·obtain ⟨q7,q8⟩:=hQ.out X hh.or
        clear hd
        go_simp
        try simp [hd]
        try rfl
      refine walkE_is (fun d x u X _ hh _=>hh.is (by decide)) (fun d x u X hh hd=>?_) ?_
      ·obtain ⟨q7,q8⟩:=hQ.out X hh.or
       simp [kpV] at hd
       go_simp
       try simp [hd]
       try rfl
      refine walkE_is (fun d x u X _ hh _=>hh.is (by decide)) (fun d x u X hh hd=>?_) ?_
      ·simp [kpV] at hd
       exact op_load_at 76 gl (ol + j * 9) (hLQ.out X hh.or) _ rfl (by simp [look,findAt,hd])
      refine walkE_is (fun d x u X _ hh _=>hh.is (by decide)) (fun d x u X hh hd=>?_) ?_
      ·obtain ⟨q7,q8⟩:=hQ.out X hh.or
       simp [kpV] at hd
       go_simp
       try simp [hd]
       try rfl
      refine walkE_store (fun x=>rfl) (fun d x u X h1 hh hd=>?_) ?_
      ·simp [kpV] at hd
       have hX:X=D:=by
        unfold KpH at hh
        rw [h1] at hh
        exact hh
       subst hX
       exact ⟨_,op_st_mid 76 go (j * 9) E TH.out EI EA _ _ rfl (by simp [look,findAt,hd]) (by simp [look,findAt,hd]),by unfold KpH;rw [updB_self,hSe];rfl⟩
      exact trivial
     ·intro d x X hd hh
      have hX:X=S:=by
       have:=hd 11 (by decide)
       unfold KpH at hh
       rw [this] at hh
       exact hh
      subst hX
      clear hSe hDe hD XD RD TH hQ hLQ hh hd
      have Xf:Hid (Bk (X.setCell ⟨gk,j,none⟩ (.bool true)) w.heap.size 32 (mkC true a1 a2 a3 a4 a5 a6 (.slice (some ⟨go,0,none⟩) no oc') (.slice (some ⟨gk,0,none⟩) no kc'))):=hid (XS.out.far (p:=⟨gk,j,none⟩) hgk _)
      have Rf:Hid (Bk (X.setCell ⟨gk,j,none⟩ (.bool true)) (w.heap.size + 1) 32 mkZ):=hid (RS.out.far (p:=⟨gk,j,none⟩) hgs _)
      have Bf:Hid (Below w.heap.size w (X.setCell ⟨gk,j,none⟩ (.bool true))):=hid (Below.setCell (p:=⟨gk,j,none⟩) hS.out hBk _)
      obtain ⟨k1,k2,k3,k4⟩:=SKB.out
      obtain ⟨cv,hcv⟩:=Option.isSome_iff_exists.1 k3
      rw [hcv] at k1
      clear k3 hcv
      simp only [putAll,Act.put,kpV,List.take_succ_cons,List.take_zero,List.drop_succ_cons,List.drop_zero,List.setIfInBounds_toArray,List.set_cons_succ,List.set_cons_zero]
      go_wp2_with (first
       | (with_reducible refine ld_mk w.heap.size Xf.out _ rfl rfl rfl ?_)
       | (with_reducible refine st_mk (w.heap.size + 1) Rf.out rfl rfl rfl _ _ rfl rfl rfl rfl ?_))
      exact bodyPost_ret (v:=.agg (mkC true a1 a2 a3 a4 a5 a6 (.slice (some ⟨go,0,none⟩) no oc') (.slice (some ⟨gk,0,none⟩) no kc'))) (results_cell_row rfl _ _ (w.heap.size + 1) _ _ (0,0) _ rfl (Bk.setRow Rf.out _) Tryz.underlying32 rfl infoMk) rfl ⟨_,_,_,_,rfl,by rw [HKS.out];exact FIN.out.varRow Rf.out (by decide) (by decide) _,below_row Bf.out (by omega) _⟩
   ·have hfit:=hid (fun W=>fits_is true a1 a2 a3 a4 a5 a6 oA' no oc' kA' kc' (j:Int) false W ⟨(fun h=>by cases h),fun h=>absurd h.2 (by omega)⟩)
    have hks:keepS ⟨true,old,kept⟩ l (j:Int)=⟨true,old,kept⟩:=by
     rw [keepS,if_neg]
     rintro ⟨-,-,-,h,-⟩
     simp only at h;omega
    go_wp2_with (first
     | (go_at_call 133;go_must ((with_reducible refine (hhas.out _).mono ?_);rintro e w1 ⟨rfl,rfl⟩))
     | (refine wpList_load_at 32 w.heap.size 0 (load_mk X4.out) _ rfl rfl rfl ?_)
     | (go_at_call 134;go_must ((with_reducible refine (hfit.out _).mono ?_);rintro e w5 ⟨rfl,hb5⟩;have B5:=hid (bnext B4.out hb5);have X5:=hid (X4.out.below hb5);have R5:=hid (R4.out.below hb5);have M5:=hid (M4.out.below hb5);obtain ⟨f0,f1,f2,f3,f4,f5,f6,f7,f8,ff⟩:=X5.out.all9;have fl:=X5.out.lt;clear hb5))
     | (with_reducible refine ld_mk w.heap.size X5.out _ rfl rfl rfl ?_)
     | (with_reducible refine st_mk (w.heap.size + 1) R5.out rfl rfl rfl _ _ rfl rfl rfl rfl ?_))
    exact bodyPost_ret (v:=.agg (mkC true a1 a2 a3 a4 a5 a6 (.slice oA' no oc') (.slice kA' no kc'))) (results_cell_row rfl _ _ (w.heap.size + 1) _ _ (0,0) _ rfl (Bk.setRow R5.out _) Tryz.underlying32 rfl infoMk) rfl ⟨_,_,_,_,rfl,by rw [hks];exact M5.out.varRow R5.out (by decide) (by decide) _,below_row B5.out (by omega) _⟩
  ·have hhas:=hid (fun W=>hasE_any lA ln lc i false W ⟨(fun h=>by cases h),fun h=>absurd h hi⟩)
   have hks:keepS ⟨true,old,kept⟩ l i=⟨true,old,kept⟩:=by
    rw [keepS,if_neg]
    rintro ⟨-,h1,h2,-,-⟩
    exact hi ⟨h1,by omega⟩
   go_wp2_with (first
    | (go_at_call 133;go_must ((with_reducible refine (hhas.out _).mono ?_);rintro e w1 ⟨rfl,rfl⟩))
    | (with_reducible refine ld_mk w.heap.size X4.out _ rfl rfl rfl ?_)
    | (with_reducible refine st_mk (w.heap.size + 1) R4.out rfl rfl rfl _ _ rfl rfl rfl rfl ?_))
   exact bodyPost_ret (v:=.agg (mkC true a1 a2 a3 a4 a5 a6 (.slice oA' no oc') (.slice kA' no kc'))) (results_cell_row rfl _ _ (w.heap.size + 1) _ _ (0,0) _ rfl (Bk.setRow R4.out _) Tryz.underlying32 rfl infoMk) rfl ⟨_,_,_,_,rfl,by rw [hks];exact M4.out.varRow R4.out (by decide) (by decide) _,below_row B4.out (by omega) _⟩
end
end
section
open Go.RowKit
attribute [local go_sem] look findAt
attribute [local simp] depsOf depsE isV Region.binds
section
variable (on:Bool) (a1 a2 a3 a4 a5 a6:Int) (oA:Option Addr) (no oc:Nat) (kA:Option Addr) (kc:Nat)
theorem rkeep_no (old:List Ent) (kept:List Bool) (l:List Ent) (lA:Option Addr) (ln lc:Nat) (i:Int) (w:World) (hM:MkIn w old kept oA no oc kA no kc) (hln:l.length=ln) (hnk:¬ keepsS ⟨on,old,kept⟩ l i) :
  Calls Tryz.prog 92 #[.agg (mkC on a1 a2 a3 a4 a5 a6 (.slice oA no oc) (.slice kA no kc)),.slice lA ln lc,.int .i64 i] w fun e w'=>e=.returned (.agg (mkC on a1 a2 a3 a4 a5 a6 (.slice oA no oc) (.slice kA no kc)))∧Below w.heap.size w w':=by
 have B0:=hid (kB_below (mkC on a1 a2 a3 a4 a5 a6 (.slice oA no oc) (.slice kA no kc)) mkZ 32 w)
 have X0:=hid (kB_box (mkC on a1 a2 a3 a4 a5 a6 (.slice oA no oc) (.slice kA no kc)) mkZ 32 w)
 have R0:=hid (kB_res (mkC on a1 a2 a3 a4 a5 a6 (.slice oA no oc) (.slice kA no kc)) mkZ 32 w)
 have HM:=hid hM
 have hlk:=hM.lk
 clear hM
 cases on with
 | false=>
  clear hnk hln hlk
  go_enter Tryz.func92,Tryz.ntmps92
  go_wp2_with (first
   | (with_reducible refine ld_mk w.heap.size X0.out _ rfl rfl rfl ?_)
   | (with_reducible refine st_mk (w.heap.size + 1) R0.out rfl rfl rfl _ _ rfl rfl rfl rfl ?_))
  exact bodyPost_ret (v:=.agg (mkC false a1 a2 a3 a4 a5 a6 (.slice oA no oc) (.slice kA no kc))) (results_cell_row rfl _ _ (w.heap.size + 1) _ _ (0,0) _ rfl (Bk.setRow R0.out _) Tryz.underlying32 rfl infoMk) rfl ⟨rfl,below_row B0.out (by omega) _⟩
 | true=>
  by_cases h0:i < 0
  ·clear hnk hln hlk
   go_enter Tryz.func92,Tryz.ntmps92
   go_wp2_with (first
    | (with_reducible refine ld_mk w.heap.size X0.out _ rfl rfl rfl ?_)
    | (with_reducible refine st_mk (w.heap.size + 1) R0.out rfl rfl rfl _ _ rfl rfl rfl rfl ?_))
   exact bodyPost_ret (v:=.agg (mkC true a1 a2 a3 a4 a5 a6 (.slice oA no oc) (.slice kA no kc))) (results_cell_row rfl _ _ (w.heap.size + 1) _ _ (0,0) _ rfl (Bk.setRow R0.out _) Tryz.underlying32 rfl infoMk) rfl ⟨rfl,below_row B0.out (by omega) _⟩
  ·by_cases h1:(ln:Int)≤i
   ·clear hnk hln hlk
    go_enter Tryz.func92,Tryz.ntmps92
    go_wp2_with (first
     | (with_reducible refine ld_mk w.heap.size X0.out _ rfl rfl rfl ?_)
     | (with_reducible refine st_mk (w.heap.size + 1) R0.out rfl rfl rfl _ _ rfl rfl rfl rfl ?_))
    exact bodyPost_ret (v:=.agg (mkC true a1 a2 a3 a4 a5 a6 (.slice oA no oc) (.slice kA no kc))) (results_cell_row rfl _ _ (w.heap.size + 1) _ _ (0,0) _ rfl (Bk.setRow R0.out _) Tryz.underlying32 rfl infoMk) rfl ⟨rfl,below_row B0.out (by omega) _⟩
   ·by_cases h2:(no:Int)≤i
    ·clear hnk hln hlk
     go_enter Tryz.func92,Tryz.ntmps92
     go_wp2_with (first
      | (with_reducible refine ld_mk w.heap.size X0.out _ rfl rfl rfl ?_)
      | (with_reducible refine st_mk (w.heap.size + 1) R0.out rfl rfl rfl _ _ rfl rfl rfl rfl ?_))
     exact bodyPost_ret (v:=.agg (mkC true a1 a2 a3 a4 a5 a6 (.slice oA no oc) (.slice kA no kc))) (results_cell_row rfl _ _ (w.heap.size + 1) _ _ (0,0) _ rfl (Bk.setRow R0.out _) Tryz.underlying32 rfl infoMk) rfl ⟨rfl,below_row B0.out (by omega) _⟩
    ·obtain ⟨j,rfl⟩:∃ j:Nat,i=(j:Int):=⟨i.toNat,by omega⟩
     have hjo:j < no:=by omega
     obtain ⟨b,off,rfl,hb,hv⟩:=HM.out.sk.bool (j:=j) hjo
     have hk:kept[j]?.getD false=true:=by
      cases hq:kept[j]?.getD false with
      | true=>rfl
      | false=>
       refine absurd ?_ hnk
       refine ⟨rfl,by omega,by omega,by show (j:Int) < (kept.length:Int);omega,?_⟩
       show kept[(j:Int).toNat]? = some false
       rw [Int.toNat_natCast]
       rw [List.getElem?_eq_getElem (by omega)] at hq ⊢
       simpa using hq
     rw [hk] at hv
     have hkc:no≤kc:=HM.out.sk.2.1
     have hv:=(B0.out.cell (p:=⟨b,off + j,none⟩) hb).trans hv
     have d3:(j:Int) < (no:Int):=by omega
     have d4:(j:Int) < (kc:Int):=by omega
     have hb':b < w.heap.size + 1 + 1:=by omega
     clear hnk hln hlk hk HM
     go_enter Tryz.func92,Tryz.ntmps92
     go_wp2_with (first
      | (with_reducible refine ld_mk w.heap.size X0.out _ rfl rfl rfl ?_)
      | (with_reducible refine st_mk (w.heap.size + 1) R0.out rfl rfl rfl _ _ rfl rfl rfl rfl ?_))
     exact bodyPost_ret (v:=.agg (mkC true a1 a2 a3 a4 a5 a6 (.slice oA no oc) (.slice (some ⟨b,off,none⟩) no kc))) (results_cell_row rfl _ _ (w.heap.size + 1) _ _ (0,0) _ rfl (Bk.setRow R0.out _) Tryz.underlying32 rfl infoMk) rfl ⟨rfl,below_row B0.out (by omega) _⟩
theorem rkeep_yes (old:List Ent) (kept:List Bool) (l:List Ent) (lA:Option Addr) (ln lc:Nat) (j:Nat) (w:World) (hM:MkIn w old kept oA no oc kA no kc) (hL:Ents w lA lc l) (h8:Eight l) (hln:l.length=ln) (hno:no≤1000) (hy:keepsS ⟨true,old,kept⟩ l (j:Int)) :
  Calls Tryz.prog 92 #[.agg (mkC true a1 a2 a3 a4 a5 a6 (.slice oA no oc) (.slice kA no kc)),.slice lA ln lc,.int .i64 (j:Int)] w (MkPost true a1 a2 a3 a4 a5 a6 no (keepS ⟨true,old,kept⟩ l (j:Int)) w):=by
 obtain ⟨wr,hW⟩:∃ W,W=(w.alloc (.cells (mkC true a1 a2 a3 a4 a5 a6 (.slice oA no oc) (.slice kA no kc)) 32)).alloc (.cells mkZ 32):=⟨_,rfl⟩
 have B0:Hid (Below w.heap.size w wr):=hid (by rw [hW];exact kB_below _ _ _ _)
 have X0:Hid (Bk wr w.heap.size 32 (mkC true a1 a2 a3 a4 a5 a6 (.slice oA no oc) (.slice kA no kc))):=hid (by rw [hW];exact kB_box _ _ _ _)
 have R0:Hid (Bk wr (w.heap.size + 1) 32 mkZ):=hid (by rw [hW];exact kB_res _ _ _ _)
 have S0:Hid (w.heap.size + 1 + 1≤wr.heap.size):=hid (by rw [hW];simp)
 have hQ:Hid (∀ X,Below wr.heap.size wr X→X.cell? ⟨w.heap.size,7,none⟩=some (.slice oA no oc)∧X.cell? ⟨w.heap.size,8,none⟩=some (.slice kA no kc)):=hid (fun X hX=>⟨(X0.out.below hX).cell 7,(X0.out.below hX).cell 8⟩)
 have HM:=hid hM
 have HL:=hid hL
 have H8:=hid h8
 have hlc:ln≤lc:=by have:=hL.2.1;omega
 have HKS:Hid (keepS ⟨true,old,kept⟩ l (j:Int)=⟨true,old.set j (l[j]?.getD entZ),kept.set j true⟩):=hid (by
  rw [keepS,if_pos hy]
  simp only [Int.toNat_natCast])
 have hlk:=hM.lk
 obtain ⟨-,-,y1,y2,y3⟩:=hy
 simp only [Int.toNat_natCast] at y2 y3
 have hj:j < ln:=by omega
 have hjo:j < no:=by omega
 obtain ⟨b,off,rfl,hb,hv⟩:=HM.out.sk.bool (j:=j) hjo
 rw [y3] at hv
 have hkc:no≤kc:=HM.out.sk.2.1
 have hvr:=(B0.out.cell (p:=⟨b,off + j,none⟩) hb).trans hv
 simp only [Option.getD_some] at hvr
 have hb':b < wr.heap.size:=Nat.lt_of_lt_of_le hb B0.out.size
 have hv2:=((kB_below (mkC true a1 a2 a3 a4 a5 a6 (.slice oA no oc) (.slice (some ⟨b,off,none⟩) no kc)) mkZ 32 w).cell (p:=⟨b,off + j,none⟩) hb).trans hv
 simp only [Option.getD_some] at hv2
 have e1:decide ((j:Int) < 0)=false:=decide_eq_false (by omega)
 have e2:decide (ln≤j)=false:=decide_eq_false (by omega)
 have e3:decide (no≤j)=false:=decide_eq_false (by omega)
 have d1:(j:Int) < (ln:Int):=by omega
 have d2:(j:Int) < (lc:Int):=by omega
 have d3:(j:Int) < (no:Int):=by omega
 have d4:(j:Int) < (kc:Int):=by omega
 obtain ⟨c0,c1,c2,c3,c4,c5,c6,c7,c8,cf⟩:=X0.out.all9
 have cl:=X0.out.lt
 obtain ⟨i0,hi,hz0,hz1,hz2⟩:=infoEntZ
 obtain ⟨ib,hib,hy0,hy1,hy2⟩:=infoBool
 clear hM hL h8 y1 y2 y3 hv
 go_enter Tryz.func92,Tryz.ntmps92
 try rw [← hW]
 go_wp2
 try rw [← hW]
 try simp only [List.append_eq,List.cons_append,List.nil_append]
 clear hW
 refine wp_region_saysK 9 (fun x y=>Below x.heap.size x y) (fun _ _ _ h k=>bnext h k) wr (below_drew1 wr) (by kernel_rfl) (by kernel_rfl) (by kernel_rfl) (by kernel_rfl) (by rfl) ?_
 simp only [List.take_succ_cons,List.take_zero,List.drop_succ_cons,List.drop_zero]
 refine walkK_new (noneW w.heap.size 76) (by first | exact gs0 rfl | exact gs1 rfl rfl rfl) (fun v x y hb h=>noneW_keep v x y hb h) (fun u X hX hd=>⟨_,_,exec_noneE _ _ _ rfl,below_alloc1 _ _,_,rfl,Nat.le_trans B0.out.size hX.size,Bk.new _ _ _⟩) ?_
 refine wkN ?_
 iterate 2
  refine wkI ?_ (fun u X hX hd=>?_) ?_
  rotate_left
  ·obtain ⟨q7,q8⟩:=hQ.out X hX
   try simp at hd
   go_simp
   try rfl
 refine walkK_new (rowsV w.heap.size 76 9 no (entsW old)) (by first | exact gs0 rfl | exact gs1 rfl rfl rfl) (fun v x y hb h=>rowsV_keep v x y hb h) (fun u X hX hd=>?_) ?_
 ·simp at hd
  obtain ⟨h0,h2⟩:=hd
  exact exec_appendW _ _ _ rfl w.heap.size 76 i0 _ 9 72 Tryz.underlying26 hi hz0 hz1 hz2 rfl h0 (Nat.le_trans B0.out.size hX.size) (by simp [look,findAt]) oA no oc (entsW old) (by simp [look,findAt,h2]) (HM.out.so.below (bnext B0.out hX)) (entsW_one old) (by unfold maxLen;omega) (by omega)
 refine wkN ?_
 refine walkK_new (noneW w.heap.size 4) (by first | exact gs0 rfl | exact gs1 rfl rfl rfl) (fun v x y hb h=>noneW_keep v x y hb h) (fun u X hX hd=>⟨_,_,exec_noneB _ _ _ rfl,below_alloc1 _ _,_,rfl,Nat.le_trans B0.out.size hX.size,Bk.new _ _ _⟩) ?_
 refine wkN ?_
 iterate 2
  refine wkI ?_ (fun u X hX hd=>?_) ?_
  rotate_left
  ·obtain ⟨q7,q8⟩:=hQ.out X hX
   try simp at hd
   go_simp
   try rfl
 refine walkK_new (rowsV w.heap.size 4 1 no (bsW kept)) (by first | exact gs0 rfl | exact gs1 rfl rfl rfl) (fun v x y hb h=>rowsV_keep v x y hb h) (fun u X hX hd=>?_) ?_
 ·simp at hd
  obtain ⟨h0,h2⟩:=hd
  exact exec_appendW _ _ _ rfl w.heap.size 4 ib _ 1 1 Tryz.underlying30 hib hy0 hy1 hy2 rfl h0 (Nat.le_trans B0.out.size hX.size) (by simp [look,findAt]) (some ⟨b,off,none⟩) no kc (bsW kept) (by simp [look,findAt,h2]) (HM.out.sk.below (bnext B0.out hX)) (bsW_one kept) (by unfold maxLen;omega) (by omega)
 refine wkN ?_
 refine wkI ?_ (fun u X hX hd=>?_) ?_
 rotate_left
 ·obtain ⟨q7,q8⟩:=hQ.out X hX
  try simp at hd
  go_simp
  try rfl
 intro u X hX hsay
 simp only [sayAll,isV,rowsV] at hsay
 obtain ⟨-,v1,v2,⟨oA',oc',v3,ho⟩,-,v5,v6,⟨kA',kc',v7,hk⟩,v8,-⟩:=hsay
 obtain ⟨go,curo,rfl,-,-,hco,-,-,-⟩:=own_pos ho (by omega)
 obtain ⟨gk,curk,rfl,-,-,hck,-,-,-⟩:=own_pos hk (by omega)
 simp only [putAll,Act.put,v1,v2,v3,v5,v6,v7,v8,List.setIfInBounds_toArray,List.set_cons_succ,List.set_cons_zero]
 clear v1 v2 v3 v5 v6 v7 v8 hQ
 have B1:=hid (bnext B0.out hX)
 have X1:=hid (X0.out.below hX)
 have R1:=hid (R0.out.below hX)
 have B3:=hid (Below.setCell (p:=⟨w.heap.size,7,none⟩) B1.out (Nat.le_refl _) (.slice (some ⟨go,0,none⟩) no oc'))
 have B4:=hid (Below.setCell (p:=⟨w.heap.size,8,none⟩) B3.out (Nat.le_refl _) (.slice (some ⟨gk,0,none⟩) no kc'))
 have X3:=hid (X1.out.set 7 (.slice (some ⟨go,0,none⟩) no oc'))
 have X4:Hid (Bk ((X.setCell ⟨w.heap.size,7,none⟩ (.slice (some ⟨go,0,none⟩) no oc')).setCell ⟨w.heap.size,8,none⟩ (.slice (some ⟨gk,0,none⟩) no kc')) w.heap.size 32 (mkC true a1 a2 a3 a4 a5 a6 (.slice (some ⟨go,0,none⟩) no oc') (.slice (some ⟨gk,0,none⟩) no kc'))):=hid (by have:=X3.out.set 8 (.slice (some ⟨gk,0,none⟩) no kc');simpa using this)
 have R3:=hid (R1.out.far (p:=⟨w.heap.size,7,none⟩) (by simp) (.slice (some ⟨go,0,none⟩) no oc'))
 have R4:=hid (R3.out.far (p:=⟨w.heap.size,8,none⟩) (by simp) (.slice (some ⟨gk,0,none⟩) no kc'))
 have O4:=hid (own_varCell (own_varCell ho X1.out (by decide) 7 (.slice (some ⟨go,0,none⟩) no oc')) X3.out (by decide) 8 (.slice (some ⟨gk,0,none⟩) no kc'))
 have K4:=hid (own_varCell (own_varCell hk X1.out (by decide) 7 (.slice (some ⟨go,0,none⟩) no oc')) X3.out (by decide) 8 (.slice (some ⟨gk,0,none⟩) no kc'))
 have M4:Hid (MkOwn w.heap.size ((X.setCell ⟨w.heap.size,7,none⟩ (.slice (some ⟨go,0,none⟩) no oc')).setCell ⟨w.heap.size,8,none⟩ (.slice (some ⟨gk,0,none⟩) no kc')) old kept (some ⟨go,0,none⟩) no oc' (some ⟨gk,0,none⟩) no kc'):=hid ⟨HM.out.lo,HM.out.lk,HM.out.e8,O4.out,K4.out⟩
 clear c0 c1 c2 c3 c4 c5 c6 c7 c8 cf cl
 obtain ⟨c0,c1,c2,c3,c4,c5,c6,c7,c8,cf⟩:=X1.out.all9
 have cl:=X1.out.lt
 have d6:(j:Int) < (oc':Int):=by omega
 have d7:(j:Int) < (kc':Int):=by omega
 clear ho hk X3 R3 B3 O4 K4 HM B0 X0 R0 S0 R1 hX hvr hv2 hb' i0 hi hz0 hz1 hz2 ib hib hy0 hy1 hy2
 obtain ⟨gl,ol,rfl,hgl,hll⟩:=HL.out.load H8.out (i:=j) (by omega)
 obtain ⟨E,hE⟩:∃ E:Array Value,E=bkC (entI (l[j]?.getD entZ)):=⟨_,rfl⟩
 have HLE:Hid (∀ X,Below w.heap.size w X→(loadVar 76 ⟨gl,ol + j * 9,none⟩).run Tryz.prog X=.ok (.agg E) X):=hid (fun X hX=>by rw [hE];exact (hll X hX).1)
 have HE8:=hid (H8.out.at j)
 have hEE:=hid hE
 have E9:E.size=9:=by rw [hE,bkC_size,entI_length HE8.out]
 have EI:(Tryz.prog.info? 76).map (·.size)=some E.size:=by rw [E9];exact infoEnt9
 have EA:E.all (·.oneCell')=true:=by rw [hE];simp [bkC,Value.oneCell']
 clear hE hll
 obtain ⟨w5,hw5⟩:∃ w5,w5=(X.setCell ⟨w.heap.size,7,none⟩ (.slice (some ⟨go,0,none⟩) no oc')).setCell ⟨w.heap.size,8,none⟩ (.slice (some ⟨gk,0,none⟩) no kc'):=⟨_,rfl⟩
 have HW5:=hid hw5
 rw [← hw5] at B4 X4 R4 M4
 clear hw5
 go_wp2
 rw [← HW5.out]
 have hD:Hid (Below w.heap.size w w5.drew):=hid (below_draw B4.out)
 have XD:Hid (Bk w5.drew w.heap.size 32 (mkC true a1 a2 a3 a4 a5 a6 (.slice (some ⟨go,0,none⟩) no oc') (.slice (some ⟨gk,0,none⟩) no kc'))):=hid (X4.out.heap rfl)
 have RD:Hid (Bk w5.drew (w.heap.size + 1) 32 mkZ):=hid (R4.out.heap rfl)
 have OD:Hid (MkOwn w.heap.size w5.drew old kept (some ⟨go,0,none⟩) no oc' (some ⟨gk,0,none⟩) no kc'):=hid ⟨M4.out.lo,M4.out.lk,M4.out.e8,own_heap M4.out.oo rfl,own_heap M4.out.ok rfl⟩
 have hgo:w.heap.size≠go:=own_var_ne OD.out.oo XD.out (by decide)
 have hgr:w.heap.size + 1≠go:=own_var_ne OD.out.oo RD.out (by decide)
 have hgk:w.heap.size≠gk:=own_var_ne OD.out.ok XD.out (by decide)
 have hgs:w.heap.size + 1≠gk:=own_var_ne OD.out.ok RD.out (by decide)
 have hgg:go≠gk:=fun q=>own_apart OD.out.oo OD.out.ok (by decide) go rfl (by rw [q];rfl)
 have hBg:w.heap.size≤go:=own_ge OD.out.oo rfl
 have hBk:w.heap.size≤gk:=own_ge OD.out.ok rfl
 obtain ⟨gp,curo,hgp,-,hko,-,-,hso,-⟩:=own_pos OD.out.oo (by omega)
 obtain rfl:go=gp:=by injection hgp with hgp;injection hgp
 obtain ⟨gq,curk,hgq,-,hkk,-,-,hsk,-⟩:=own_pos OD.out.ok (by omega)
 obtain rfl:gk=gq:=by injection hgq with hgq;injection hgq
 obtain ⟨D,hDe⟩:∃ D,D=w5.drew:=⟨_,rfl⟩
 rw [← hDe] at hD XD RD OD hko hkk
 obtain ⟨S,hSe⟩:∃ S,S=D.setCells go (j * 9) E.toList:=⟨_,rfl⟩
 have hS:Hid (Below w.heap.size w S):=hid (by rw [hSe];exact below_setCells hD.out hBg _ _)
 have XS:Hid (Bk S w.heap.size 32 (mkC true a1 a2 a3 a4 a5 a6 (.slice (some ⟨go,0,none⟩) no oc') (.slice (some ⟨gk,0,none⟩) no kc'))):=hid (by rw [hSe];exact XD.out.setCells hgo _ _)
 have RS:Hid (Bk S (w.heap.size + 1) 32 mkZ):=hid (by rw [hSe];exact RD.out.setCells hgr _ _)
 have hQ:Hid (∀ X,X=D∨X=S→X.cell? ⟨w.heap.size,7,none⟩=some (.slice (some ⟨go,0,none⟩) no oc')∧X.cell? ⟨w.heap.size,8,none⟩=some (.slice (some ⟨gk,0,none⟩) no kc')):=hid (by
  rintro X (rfl | rfl)
  ·exact ⟨XD.out.cell 7,XD.out.cell 8⟩
  ·exact ⟨XS.out.cell 7,XS.out.cell 8⟩)
 have hLQ:Hid (∀ X,X=D∨X=S→(loadVar 76 ⟨gl,ol + j * 9,none⟩).run Tryz.prog X=.ok (.agg E) X):=hid (by
  rintro X (rfl | rfl)
  ·exact HLE.out _ hD.out
  ·exact HLE.out _ hS.out)
 have TH:Hid (D.there go (j * 9) E.size):=hid (hko.there (by rw [hso,E9];omega))
 have FIN:=hid (keep_stores (j:=j) OD.out hjo HE8.out)
 rw [← hEE.out,← hSe] at FIN
 have SKB:Hid (S.cell? ⟨gk,j,none⟩=curk[j]?∧S.frozen? ⟨gk,j,none⟩=false∧(curk[j]?).isSome=true∧gk < S.heap.size):=hid (by
  have hk2:Bk S gk 4 curk:=by rw [hSe];exact Bk.setCells hkk (Ne.symm hgg) _ _
  refine ⟨hk2.cell j,hk2.frozen j,?_,hk2.lt⟩
  rw [Array.getElem?_eq_getElem (by omega)]
  rfl)
 clear hko hkk hso hsk OD
 try simp only [List.append_eq,List.cons_append,List.nil_append]
 refine wp_region_saysE 12 (kpV w.heap.size j (.slice (some ⟨go,0,none⟩) no oc') (.slice (some ⟨gk,0,none⟩) no kc') (.slice (some ⟨gl,ol,none⟩) ln lc) gl ol go E) (KpH D S) () (by rw [hDe];rfl) (by kernel_rfl) (by kernel_rfl) (by kernel_rfl) (by kernel_rfl) (by rfl) ?_ ?_
 ·simp only [List.take_succ_cons,List.take_zero]
  iterate 2
   refine walkE_is (fun d x u X _ hh _=>hh.is (by decide)) (fun d x u X hh hd=>?_) ?_
   ·obtain ⟨q7,q8⟩:=hQ.out X hh.or
    clear hd
    go_simp
    try simp [hd]
    try rfl
   refine walkE_is (fun d x u X _ hh _=>hh.is (by decide)) (fun d x u X hh hd=>?_) ?_
   ·obtain ⟨q7,q8⟩:=hQ.out X hh.or
    simp [kpV] at hd
    go_simp
    try simp [hd]
    try rfl
   refine walkE_is (fun d x u X _ hh _=>hh.is (by decide)) (fun d x u X hh hd=>?_) ?_
   ·obtain ⟨q7,q8⟩:=hQ.out X hh.or
    clear hd
    go_simp
    try simp [hd]
    try rfl
  iterate 2
   refine walkE_is (fun d x u X _ hh _=>hh.is (by decide)) (fun d x u X hh hd=>?_) ?_
   ·obtain ⟨q7,q8⟩:=hQ.out X hh.or
    clear hd
    go_simp
    try simp [hd]
    try rfl
  refine walkE_is (fun d x u X _ hh _=>hh.is (by decide)) (fun d x u X hh hd=>?_) ?_
  ·obtain ⟨q7,q8⟩:=hQ.out X hh.or
   simp [kpV] at hd
   go_simp
   try simp [hd]
   try rfl
  refine walkE_is (fun d x u X _ hh _=>hh.is (by decide)) (fun d x u X hh hd=>?_) ?_
  ·simp [kpV] at hd
   exact op_load_at 76 gl (ol + j * 9) (hLQ.out X hh.or) _ rfl (by simp [look,findAt,hd])
  refine walkE_is (fun d x u X _ hh _=>hh.is (by decide)) (fun d x u X hh hd=>?_) ?_
  ·obtain ⟨q7,q8⟩:=hQ.out X hh.or
   simp [kpV] at hd
   go_simp
   try simp [hd]
   try rfl
  refine walkE_store (fun x=>rfl) (fun d x u X h1 hh hd=>?_) ?_
  ·simp [kpV] at hd
   have hX:X=D:=by
    unfold KpH at hh
    rw [h1] at hh
    exact hh
   subst hX
   exact ⟨_,op_st_mid 76 go (j * 9) E TH.out EI EA _ _ rfl (by simp [look,findAt,hd]) (by simp [look,findAt,hd]),by unfold KpH;rw [updB_self,hSe];rfl⟩
  exact trivial
 ·intro d x X hd hh
  have hX:X=S:=by
   have:=hd 11 (by decide)
   unfold KpH at hh
   rw [this] at hh
   exact hh
  subst hX
  clear hSe hDe hD XD RD TH hQ hLQ hh hd
  have Xf:Hid (Bk (X.setCell ⟨gk,j,none⟩ (.bool true)) w.heap.size 32 (mkC true a1 a2 a3 a4 a5 a6 (.slice (some ⟨go,0,none⟩) no oc') (.slice (some ⟨gk,0,none⟩) no kc'))):=hid (XS.out.far (p:=⟨gk,j,none⟩) hgk _)
  have Rf:Hid (Bk (X.setCell ⟨gk,j,none⟩ (.bool true)) (w.heap.size + 1) 32 mkZ):=hid (RS.out.far (p:=⟨gk,j,none⟩) hgs _)
  have Bf:Hid (Below w.heap.size w (X.setCell ⟨gk,j,none⟩ (.bool true))):=hid (Below.setCell (p:=⟨gk,j,none⟩) hS.out hBk _)
  obtain ⟨k1,k2,k3,k4⟩:=SKB.out
  obtain ⟨cv,hcv⟩:=Option.isSome_iff_exists.1 k3
  rw [hcv] at k1
  clear k3 hcv
  simp only [putAll,Act.put,kpV,List.take_succ_cons,List.take_zero,List.drop_succ_cons,List.drop_zero,List.setIfInBounds_toArray,List.set_cons_succ,List.set_cons_zero]
  go_wp2_with (first
   | (with_reducible refine ld_mk w.heap.size Xf.out _ rfl rfl rfl ?_)
   | (with_reducible refine st_mk (w.heap.size + 1) Rf.out rfl rfl rfl _ _ rfl rfl rfl rfl ?_))
  exact bodyPost_ret (v:=.agg (mkC true a1 a2 a3 a4 a5 a6 (.slice (some ⟨go,0,none⟩) no oc') (.slice (some ⟨gk,0,none⟩) no kc'))) (results_cell_row rfl _ _ (w.heap.size + 1) _ _ (0,0) _ rfl (Bk.setRow Rf.out _) Tryz.underlying32 rfl infoMk) rfl ⟨_,_,_,_,rfl,by rw [HKS.out];exact FIN.out.varRow Rf.out (by decide) (by decide) _,below_row Bf.out (by omega) _⟩
end
end
section
open Go.RowKit
section
variable (on:Bool) (a1 a2 a3 a4 a5 a6:Int) (oA:Option Addr) (no oc:Nat) (kA:Option Addr) (kc:Nat) (oB:Option Addr) (od:Nat) (kB':Option Addr) (kd:Nat)
theorem rsameM_yes (old:List Ent) (kept:List Bool) (w:World) (hM:MkIn w old kept oA no oc kA no kc) (hN:MkIn w old kept oB no od kB' no kd) (hz:no≤1000) :
  Calls Tryz.prog 32 #[.agg (mkC on a1 a2 a3 a4 a5 a6 (.slice oA no oc) (.slice kA no kc)),.agg (mkC on a1 a2 a3 a4 a5 a6 (.slice oB no od) (.slice kB' no kd))] w fun e w'=>e=.returned (.bool true)∧Below w.heap.size w w':=by
 have h1:no≤oc:=hM.so.2.1
 have h2:no≤kc:=hM.sk.2.1
 have h3:no≤od:=hN.so.2.1
 have h4:no≤kd:=hN.sk.2.1
 have H8:=hid hM.e8
 have HN:=hid hM.lo
 have HK:=hid hM.lk
 obtain ⟨wz,hW⟩:∃ W,W=(w.alloc (.cells (mkC on a1 a2 a3 a4 a5 a6 (.slice oA no oc) (.slice kA no kc)) 32)).alloc (.cells (mkC on a1 a2 a3 a4 a5 a6 (.slice oB no od) (.slice kB' no kd)) 32):=⟨_,rfl⟩
 have B0:Hid (Below w.heap.size w wz):=hid (by rw [hW];exact bnext (below_alloc1 _ _) (below_alloc1 _ _))
 have X0:Hid (Bk wz w.heap.size 32 (mkC on a1 a2 a3 a4 a5 a6 (.slice oA no oc) (.slice kA no kc))):=hid (by rw [hW];exact (Bk.new w _ _).alloc _)
 have Y0:Hid (Bk wz (w.heap.size + 1) 32 (mkC on a1 a2 a3 a4 a5 a6 (.slice oB no od) (.slice kB' no kd))):=hid (by
  rw [hW]
  have:=Bk.new (w.alloc (.cells (mkC on a1 a2 a3 a4 a5 a6 (.slice oA no oc) (.slice kA no kc)) 32)) 32 (mkC on a1 a2 a3 a4 a5 a6 (.slice oB no od) (.slice kB' no kd))
  rwa [World.size_alloc] at this)
 have HM:=hid (hM.below B0.out)
 have HM':=hid (hN.below B0.out)
 clear hM hN
 go_enter Tryz.func32,Tryz.ntmps32
 go_wp2
 rw [← hW]
 clear hW
 go_loopw [5] (fun cc wr=>∃ k:Nat,k≤no∧cc=.int .i64 k∧Hid (Below wz.heap.size wz wr)) (fun cc _=>no - (intOf cc).toNat)
 case atStart=>exact ⟨0,Nat.zero_le _,rfl,hid (Below.refl _ _)⟩
 case round=>
  obtain ⟨k,hk,rfl,HB⟩:=hrel
  have XB:=hid (X0.out.below HB.out)
  have YB:=hid (Y0.out.below HB.out)
  obtain ⟨c0,c1,c2,c3,c4,c5,c6,c7,c8,cf⟩:=XB.out.all9
  have cl:=XB.out.lt
  obtain ⟨e0,e1,e2,e3,e4,e5,e6,e7,e8,ef⟩:=YB.out.all9
  have el:=YB.out.lt
  by_cases hlt:k < no
  ·have d1:(k:Int) < (no:Int):=by omega
   have d2:(k:Int) < (oc:Int):=by omega
   have d3:(k:Int) < (od:Int):=by omega
   obtain ⟨g,off,rfl,hg,hl⟩:=HM.out.ents.load H8.out (i:=k) (by rw [HN.out];exact hlt)
   obtain ⟨g',off',rfl,hg',hl'⟩:=HM'.out.ents.load H8.out (i:=k) (by rw [HN.out];exact hlt)
   have L:Hid (∀ w',(∃ n,w'=wr.drewN n)→(loadVar 76 ⟨g,off + k * 9,none⟩).run Tryz.prog w'=.ok (.agg (bkC (entI (old[k]?.getD entZ)))) w'):=hid (by
    rintro _ ⟨q,rfl⟩
    exact (hl _ (bnext HB.out (drewN_below _ _))).1)
   have L':Hid (∀ w',(∃ n,w'=wr.drewN n)→(loadVar 76 ⟨g',off' + k * 9,none⟩).run Tryz.prog w'=.ok (.agg (bkC (entI (old[k]?.getD entZ)))) w'):=hid (by
    rintro _ ⟨q,rfl⟩
    exact (hl' _ (bnext HB.out (drewN_below _ _))).1)
   have NE:Hid (∀ W,(binOp .neq 76 (.agg (bkC (entI (old[k]?.getD entZ)))) (.agg (bkC (entI (old[k]?.getD entZ))))).run Tryz.prog W=.ok (.bool false) W):=hid (fun W=>by rw [neq_ent W (H8.out.at k) (H8.out.at k),decide_eq_true rfl];rfl)
   clear hl hl'
   generalize bkC (entI (old[k]?.getD entZ))=cs at *
   go_wp2
   try simp only [List.append_eq,List.cons_append,List.nil_append]
   refine wp_region_quiet_lit (by kernel_rfl) (by kernel_rfl) ?_
   repeat (first
    | (go_big_quiet_want;(first | refine quiet_load_at _ g (off + k * 9) L.out _ rfl rfl ?_ | refine quiet_load_at _ g' (off' + k * 9) L'.out _ rfl rfl ?_ | refine quiet_neq_at _ false eqGuardEnt NE.out _ _ _ rfl rfl rfl ?_);go_simp;go_big_quiet_on)
    | go_big_quiet_step (fail))
   refine wpQuiet_nil ?_
   rintro _ ⟨nq,rfl⟩
   go_wp2
   go_roundw
   case rel=>exact ⟨k + 1,by omega,by go_num,hid (bnext HB.out (drewN_below _ _))⟩
   case measure=>simp [intOf];omega
  ·obtain rfl:k=no:=by omega
   clear hlt
   obtain ⟨k0,hk0⟩:∃ k0,k0=k:=⟨_,rfl⟩
   subst hk0
   go_wp2
   go_loopw [6] (fun cc wr=>∃ k:Nat,k≤k0∧cc=.int .i64 k∧Hid (Below wz.heap.size wz wr)) (fun cc _=>k0 - (intOf cc).toNat)
   case atStart=>exact ⟨0,Nat.zero_le _,rfl,HB⟩
   case round=>
    clear HB XB YB c0 c1 c2 c3 c4 c5 c6 c7 c8 cf cl e0 e1 e2 e3 e4 e5 e6 e7 e8 ef el
    obtain ⟨k,hk,rfl,HB⟩:=hrel
    have XB:=hid (X0.out.below HB.out)
    have YB:=hid (Y0.out.below HB.out)
    obtain ⟨c0,c1,c2,c3,c4,c5,c6,c7,c8,cf⟩:=XB.out.all9
    have cl:=XB.out.lt
    obtain ⟨e0,e1,e2,e3,e4,e5,e6,e7,e8,ef⟩:=YB.out.all9
    have el:=YB.out.lt
    by_cases hlt:k < k0
    ·have d1:(k:Int) < (k0:Int):=by omega
     have d2:(k:Int) < (kc:Int):=by omega
     have d3:(k:Int) < (kd:Int):=by omega
     obtain ⟨b,off,rfl,hb,hv⟩:=(HM.out.below HB.out).sk.bool (j:=k) hlt
     obtain ⟨b',off',rfl,hb',hv'⟩:=(HM'.out.below HB.out).sk.bool (j:=k) hlt
     generalize kept[k]?.getD false=q at *
     go_wp2
     try simp only [List.append_eq,List.cons_append,List.nil_append]
     refine wp_region_quiet_lit (by kernel_rfl) (by kernel_rfl) ?_
     repeat (first
      | go_big_quiet_step (fail))
     refine wpQuiet_nil ?_
     rintro _ ⟨nq,rfl⟩
     go_wp2
     go_roundw
     case rel=>exact ⟨k + 1,by omega,by go_num,hid (bnext HB.out (drewN_below _ _))⟩
     case measure=>simp [intOf];omega
    ·obtain rfl:k=k0:=by omega
     clear hlt
     go_wp2
     go_ret
     exact ⟨rfl,bnext B0.out HB.out⟩
end
end
end Go.Proofs.YtpaocjpjlogkgaaGreat
