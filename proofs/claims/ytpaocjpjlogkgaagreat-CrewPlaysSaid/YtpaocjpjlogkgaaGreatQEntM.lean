/-
  Words and contracts of this claim, 2 texts laid into one, each under its own remark. No conditions but those that stand at each.
-/
import Derived.Test.YtpaocjpjlogkgaaGreatZSetL
import Derived.Test.YtpaocjpjlogkgaaGreatQCelK
import Derived.Test.YtpaocjpjlogkgaaGreatQQueP
import Derived.OwnWalk
namespace Go.Proofs.YtpaocjpjlogkgaaGreat
set_option maxRecDepth 100000
set_option maxHeartbeats 32000000
open Go
open Go.Lib (hid)
section
open Go.RowKit
theorem rowsW_length {k:Nat}:∀ (own:Blks),(∀ b∈own,b.length=k)→(blksW own).length=own.length * k
 | [],_=>by simp [blksW]
 | b :: l,h=>by
  have ih:=rowsW_length l (fun x hx=>h x (by simp [hx]))
  have hb:=h b (by simp)
  unfold blksW at ih ⊢
  rw [List.flatMap_cons,List.length_append,List.length_map,ih,List.length_cons,hb,Nat.add_mul]
  omega
theorem rowsW_at {k:Nat}:∀ (own:Blks),(∀ b∈own,b.length=k)→∀ i,i < own.length→∀ j,j < k→(blksW own)[i * k + j]? = some (.int .i64 ((own[i]?.getD [])[j]?.getD 0))
 | [],_,i,hi,_,_=>by simp at hi
 | b :: l,h,0,_,j,hj=>by
  have hb:=h b (by simp)
  unfold blksW
  rw [List.flatMap_cons,List.getElem?_append_left (by simp;omega)]
  simp [show j < b.length by omega]
 | b :: l,h,i + 1,hi,j,hj=>by
  have hb:=h b (by simp)
  have ih:=rowsW_at l (fun x hx=>h x (by simp [hx])) i (by simpa using hi) j hj
  unfold blksW at ih ⊢
  rw [List.flatMap_cons,Nat.add_mul,Nat.one_mul,List.getElem?_append_right (by simp;omega),List.length_map,show i * k + k + j - b.length=i * k + j by omega,ih]
  simp
theorem rowsW_set {k:Nat} (hk:0 < k) (own:Blks) (h8:∀ b∈own,b.length=k) {j:Nat} (hj:j < own.length) {y:List Int} (hy:y.length=k):setL (blksW own) (j * k) (y.map (.int .i64))=blksW (own.set j y):=by
 have h8':∀ b∈own.set j y,b.length=k:=fun b hb=>by
  rcases List.mem_or_eq_of_mem_set hb with hb | rfl
  ·exact h8 b hb
  ·exact hy
 have hl:(setL (blksW own) (j * k) (y.map (.int .i64))).length=own.length * k:=by rw [setL_length,rowsW_length own h8]
 have hl':(blksW (own.set j y)).length=own.length * k:=by rw [rowsW_length _ h8',List.length_set]
 apply List.ext_getElem?
 intro i
 by_cases hi:i < own.length * k
 ·have hp:i / k < own.length:=Nat.div_lt_of_lt_mul (by rw [Nat.mul_comm];exact hi)
  have hq:i % k < k:=Nat.mod_lt _ hk
  have e:i=i / k * k + i % k:=by rw [Nat.mul_comm];exact (Nat.div_add_mod i k).symm
  rw [setL_at _ _ _ _ (by rw [rowsW_length own h8];exact hi)]
  have e1:=rowsW_at own h8 (i / k) hp (i % k) hq
  have e2:=rowsW_at (own.set j y) h8' (i / k) (by simpa using hp) (i % k) hq
  rw [← e] at e1 e2
  rw [e2]
  by_cases hij:i / k=j
  ·rw [hij] at e
   rw [if_pos (by rw [List.length_map];omega),hij,List.getElem?_set_self hj,List.getElem?_map,show i - j * k=i % k by omega,List.getElem?_eq_getElem (by omega)]
   simp
   rw [List.getElem?_eq_getElem (by omega)]
   rfl
  ·rw [if_neg,e1,List.getElem?_set_ne (Ne.symm hij)]
   rw [List.length_map,hy]
   rintro ⟨h1,h2⟩
   apply hij
   refine Nat.div_eq_of_lt_le h1 ?_
   rw [Nat.add_mul,Nat.one_mul]
   exact h2
 ·rw [List.getElem?_eq_none (by omega),List.getElem?_eq_none (by omega)]
def entI (e:Ent):List Int:=e.cells ++ [e.seq]
def entsW (l:List Ent):List Value:=blksW (l.map entI)
def Eight (l:List Ent):Prop:=∀ e∈l,e.cells.length=8
theorem entI_length {e:Ent} (h:e.cells.length=8):(entI e).length=9:=by simp [entI,h]
theorem Eight.rows {l:List Ent} (h:Eight l):∀ b∈l.map entI,b.length=9:=fun b hb=>by
 obtain ⟨e,he,rfl⟩:=List.mem_map.1 hb
 exact entI_length (h e he)
theorem Eight.at {l:List Ent} (h:Eight l) (i:Nat):(l[i]?.getD entZ).cells.length=8:=by
 by_cases hi:i < l.length
 ·rw [List.getElem?_eq_getElem hi]
  exact h _ (List.getElem_mem _)
 ·rw [List.getElem?_eq_none (by omega)]
  rfl
theorem Eight.set {l:List Ent} (h:Eight l) (i:Nat) {e:Ent} (he:e.cells.length=8):Eight (l.set i e):=fun x hx=>by
 rcases List.mem_or_eq_of_mem_set hx with hx | rfl
 ·exact h x hx
 ·exact he
theorem entsW_length {l:List Ent} (h:Eight l):(entsW l).length=l.length * 9:=by
 unfold entsW
 rw [rowsW_length _ h.rows,List.length_map]
theorem entsW_at {l:List Ent} (h:Eight l) {i:Nat} (hi:i < l.length) {j:Nat} (hj:j < 9):(entsW l)[i * 9 + j]? = some (.int .i64 ((entI (l[i]?.getD entZ))[j]?.getD 0)):=by
 unfold entsW
 rw [rowsW_at _ h.rows i (by simpa using hi) j hj,List.getElem?_map,List.getElem?_eq_getElem hi]
 rfl
theorem entsW_one (l:List Ent):∀ u∈entsW l,u.oneCell'=true:=blksW_one _
theorem entsW_set {l:List Ent} (h:Eight l) {j:Nat} (hj:j < l.length) {e:Ent} (he:e.cells.length=8):setL (entsW l) (j * 9) ((entI e).map (.int .i64))=entsW (l.set j e):=by
 unfold entsW
 rw [rowsW_set (by decide) _ h.rows (by simpa using hj) (entI_length he),List.map_set]
theorem bkC_list (b:List Int):(bkC b).toList=b.map (Value.int .i64):=by simp [bkC]
theorem infoEnt9:(Tryz.prog.info? 76).map (·.size)=some 9:=by kernel_rfl
theorem eqGuardEnt:Tryz.prog.eqGuardType Tryz.prog.depth 76=false:=by kernel_rfl
theorem infoEntZ:∃ i,Tryz.prog.info? 76=some i∧i.zero=some (.agg (bkC (entI entZ)))∧i.size=9∧i.bytes=72:=by
 have h:(Tryz.prog.info? 76).map (fun i=>(i.zero,i.size,i.bytes))=some (some (.agg (bkC (entI entZ))),9,72):=by kernel_rfl
 cases hi:Tryz.prog.info? 76 with
 | none=>rw [hi] at h;cases h
 | some i=>
  rw [hi] at h
  simp only [Option.map_some,Option.some.injEq,Prod.mk.injEq] at h
  exact ⟨i,rfl,h.1,h.2.1,h.2.2⟩
def Ents (w:World) (A:Option Addr) (c:Nat) (l:List Ent):Prop:=Sl w 9 A l.length c (entsW l)
theorem Ents.below {w w':World} {A:Option Addr} {c:Nat} {l:List Ent} (h:Ents w A c l) (hb:Below w.heap.size w w'):Ents w' A c l:=Sl.below h hb
theorem Ents.range {w:World} {A:Option Addr} {c:Nat} {l:List Ent} (h:Ents w A c l) (h8:Eight l) {i:Nat} (hi:i < l.length) :
  ∃ b off,A=some ⟨b,off,none⟩∧b < w.heap.size∧∀ W,Below w.heap.size w W→W.rangeAt b (off + i * 9) ((entI (l[i]?.getD entZ)).map (.int .i64))∧W.rangeAt b (off + i * 9) ((l[i]?.getD entZ).cells.map (.int .i64))∧W.cell? ⟨b,off + i * 9 + 8,none⟩=some (.int .i64 (l[i]?.getD entZ).seq):=by
 obtain ⟨b,off,rfl,hb,hc⟩:=h.2.2.2 (by omega)
 have hl:=h8.at i
 generalize hx:l[i]?.getD entZ=x at *
 have key:∀ W,Below w.heap.size w W→∀ j,j < 9→W.cell? ⟨b,off + i * 9 + j,none⟩=some (.int .i64 ((entI x)[j]?.getD 0)):=fun W hW j hj=>by
  rw [hW.cell (p:=⟨b,off + i * 9 + j,none⟩) hb,Nat.add_assoc,hc (i * 9 + j) (by omega),entsW_at h8 hi hj,hx]
 refine ⟨b,off,rfl,hb,fun W hW=>⟨fun j v hv=>?_,fun j v hv=>?_,?_⟩⟩
 ·have hj:j < 9:=by
   have:=(List.getElem?_eq_some_iff.1 hv).1
   rw [List.length_map,entI_length hl] at this
   exact this
  rw [key W hW j hj]
  rw [List.getElem?_map,List.getElem?_eq_getElem (by rw [entI_length hl];exact hj)] at hv
  simp only [Option.map_some,Option.some.injEq] at hv
  rw [← hv,List.getElem?_eq_getElem (by rw [entI_length hl];exact hj)]
  rfl
 ·have hj:j < 8:=by
   have:=(List.getElem?_eq_some_iff.1 hv).1
   rw [List.length_map,hl] at this
   exact this
  rw [key W hW j (by omega)]
  rw [List.getElem?_map,List.getElem?_eq_getElem (by omega)] at hv
  simp only [Option.map_some,Option.some.injEq] at hv
  rw [← hv]
  unfold entI
  rw [List.getElem?_append_left (by omega),List.getElem?_eq_getElem (by omega)]
  rfl
 ·rw [key W hW 8 (by omega)]
  unfold entI
  rw [List.getElem?_append_right (by omega)]
  simp [hl]
theorem Ents.load {w:World} {A:Option Addr} {c:Nat} {l:List Ent} (h:Ents w A c l) (h8:Eight l) {i:Nat} (hi:i < l.length) :
  ∃ g off,A=some ⟨g,off,none⟩∧g < w.heap.size∧∀ W,Below w.heap.size w W →
   (loadVar 76 ⟨g,off + i * 9,none⟩).run Tryz.prog W=.ok (.agg (bkC (entI (l[i]?.getD entZ)))) W ∧
   (loadVar 74 ⟨g,off + i * 9,none⟩).run Tryz.prog W=.ok (.agg (bkC (l[i]?.getD entZ).cells)) W ∧
   W.cell? ⟨g,off + i * 9 + 8,none⟩=some (.int .i64 (l[i]?.getD entZ).seq):=by
 obtain ⟨g,off,rfl,hg,hr⟩:=h.range h8 hi
 have hl:=h8.at i
 refine ⟨g,off,rfl,hg,fun W hW=>?_⟩
 obtain ⟨r1,r2,r3⟩:=hr W hW
 exact ⟨run_loadVar_mid W g (off + i * 9) 76 _ _ r1 Tryz.underlying76 rfl (by rw [List.length_map,entI_length hl];exact infoEnt9),
  run_loadVar_mid W g (off + i * 9) 74 _ _ r2 Tryz.underlying74 rfl (by rw [List.length_map,hl];exact infoBlk8),r3⟩
theorem part_blk {e:Ent} (h:e.cells.length=8) (w:World):(part 74 (bkC (entI e)) 0).run Tryz.prog w=.ok (.agg (bkC e.cells)) w:=by
 have hs:(bkC (entI e)).extract 0 8=bkC e.cells:=by
  apply Array.ext'
  simp [bkC,entI,h]
 cases hi:Tryz.prog.info? 74 with
 | none=>have:=infoBlk8;rw [hi] at this;cases this
 | some i=>
  have h8:i.size=8:=by have:=infoBlk8;rw [hi] at this;simpa using this
  simp [part,isAgg,run_underlying Tryz.underlying74,sizeOf,typeInfo,hi,h8,hs]
theorem part_seq {e:Ent} (h:e.cells.length=8) (w:World):(part 3 (bkC (entI e)) 8).run Tryz.prog w=.ok (.int .i64 e.seq) w:=by
 have hs:(bkC (entI e))[8]? = some (.int .i64 e.seq):=by
  rw [bkC_at (by rw [entI_length h];decide)]
  unfold entI
  rw [List.getElem?_append_right (by omega)]
  simp [h]
 simp [part,isAgg,run_underlying Tryz.underlying3,hs]
theorem equalIn_blk (w:World) {a b:List Int} (ha:a.length=8) (hb:b.length=8) (d:Nat) :
  (Op.equalIn (d + 2) 74 (.agg (bkC a)) (.agg (bkC b))).run Tryz.prog w=.ok (decide (a=b)) w:=by
 cases hi:Tryz.prog.info? 3 with
 | none=>
  have h:(Tryz.prog.info? 3).isSome=true:=by kernel_rfl
  rw [hi] at h
  cases h
 | some i=>
  rw [run_equalIn_array w (d + 1) (bkC a) (bkC b) Tryz.underlying74 hi,cellsInt,items_blk w d a b _ (fun i hi=>by simp at hi;omega)]
  have:((List.range 8).all fun i=>decide (a[i]?.getD 0=b[i]?.getD 0))=decide (a=b):=by
   rw [Bool.eq_iff_iff]
   simp only [List.all_eq_true,List.mem_range,decide_eq_true_eq]
   constructor
   ·intro h
    apply List.ext_getElem?
    intro j
    by_cases hj:j < 8
    ·have:=h j hj
     rw [List.getElem?_eq_getElem (by omega),List.getElem?_eq_getElem (by omega)] at this ⊢
     simpa using this
    ·rw [List.getElem?_eq_none (by omega),List.getElem?_eq_none (by omega)]
   ·rintro rfl j _
    rfl
  rw [this]
theorem equalIn_ent (w:World) {a b:Ent} (ha:a.cells.length=8) (hb:b.cells.length=8) :
  (Op.equalIn 10000 76 (.agg (bkC (entI a))) (.agg (bkC (entI b)))).run Tryz.prog w=.ok (decide (a=b)) w:=by
 have hS:Tryz.prog.underlying 76=some (.struct (Tryz.prog.fieldsOf 76)):=by kernel_rfl
 have hp:Tryz.prog.stoodInHeld 76=false:=by kernel_rfl
 rw [show (10000:Nat)=9999 + 1 from rfl,run_equalIn_struct w 9999 76 _ _ hS hp]
 simp only [Program.fieldsOf,Tryz.underlying76]
 simp only [Op.eqFields,Sem.run_bind,Sem.run_ite,part_blk ha,part_blk hb,part_seq ha,part_seq hb,Result.andThen_ok,equalIn_blk w ha hb 9997,run_equalIn_int w 9998 3 .i64 .i64 _ _ Tryz.underlying3,Sem.run_pure]
 have key:decide (a=b)=(decide (a.cells=b.cells) && (a.seq == b.seq)):=by
  rw [Bool.eq_iff_iff]
  simp only [decide_eq_true_eq,Bool.and_eq_true,beq_iff_eq]
  obtain ⟨c,s⟩:=a
  obtain ⟨d,t⟩:=b
  simp
 rw [key]
 cases decide (a.cells=b.cells) <;> cases (a.seq == b.seq) <;> simp
theorem neq_ent (w:World) {a b:Ent} (ha:a.cells.length=8) (hb:b.cells.length=8) :
  (binOp .neq 76 (.agg (bkC (entI a))) (.agg (bkC (entI b)))).run Tryz.prog w=.ok (.bool (!decide (a=b))) w:=by
 rw [run_neq_struct,equalIn_ent w ha hb]
 rfl
theorem quiet_neq_at {C:World→Prop} {a:Act} {o:Oper} {K:Act→Prop} {cs cs':Array Value} (ty:TypeId) (r:Bool) (hg:Tryz.prog.eqGuardType Tryz.prog.depth ty=false) (hl:∀ w,(binOp .neq ty (.agg cs) (.agg cs')).run Tryz.prog w=.ok (.bool r) w) (x y:Operand) (t:TypeId)
  (ho:o.op=.binOp .neq ty x y t) (hx:a.eval x=.agg cs) (hy:a.eval y=.agg cs') (hk:K (a.put o.dst (.bool r))):o.quiet Tryz.prog a C K:=
 ⟨_,fun w hw=>by
  unfold Oper.quietAt execOp
  simp only [ho,hx,hy,Sem.run_bind,run_eqGuard_agg w _ _ _ _ _ _ hg,Sem.run_pure,Result.andThen_ok,hl w]
  exact ⟨rfl,rfl⟩,hk⟩
end
section
open Go.RowKit
theorem clone_ents (A:Option Addr) (n c:Nat) (xs:List Value) (w:World) (hA:Sl w 9 A n c xs) (hn:n≤1000) (h1:∀ u∈xs,u.oneCell'=true) :
  Calls Tryz.prog 131 #[.slice A n c] w
   fun e w'=>∃ A' c',e=.returned (.slice A' n c')∧w'.ownsRow w.heap.size 76 9 (.slice A' n c') n xs∧Below w.heap.size w w':=by
 obtain ⟨i0,hi,hz0,hz1,hz2⟩:=infoEntZ
 have HA:=hid hA
 have H1:=hid h1
 clear hA h1
 cases A with
 | none=>
  obtain ⟨rfl,rfl⟩:=HA.out.2.2.1 rfl
  have hq:=Lib.run_eql_slice_nil (P:=Tryz.prog) w 26 76 none 0 0 0 0 Tryz.underlying26
  go_enter Tryz.func131,Tryz.ntmps131
  go_wp2
  go_ret
  refine ⟨none,0,rfl,?_,Below.refl _ _⟩
  have:=HA.out.1
  exact ⟨this,.inl ⟨rfl,rfl⟩⟩
 | some a=>
  have hq:=Lib.run_eql_slice_nil (P:=Tryz.prog) w 26 76 (some a) n c 0 0 Tryz.underlying26
  go_enter Tryz.func131,Tryz.ntmps131
  go_wp2_with (at_builtin;go_must (refine wpList_append_own _ rfl (.tmp 5) (.tmp 6) _ rfl w.heap.size 76 i0 _ 9 72 Tryz.underlying26 hi hz0 hz1 hz2 rfl (by decide) _ 0 [] rfl (World.ownsRow_lit w #[] 0 (Nat.le_refl _) (by decide) rfl) a n c xs rfl HA.out.1 ((HA.out.alloc _).olds a rfl) H1.out (by unfold maxLen;omega) (by omega) (by simp) ?_;intro v' w1 hown hg hnil))
  obtain ⟨A',c',rfl,hsl⟩:=Sl.own hown
  simp only [Nat.zero_add,List.nil_append] at hown
  go_wp2
  go_ret
  exact ⟨A',c',by simp,hown,((Below.refl _ _).alloc (Nat.le_refl _) _).grown hg (by simp) (fun k hk=>by
   have hk':(Value.slice (some ⟨w.heap.size,0,none⟩) 0 0).ownBlock=some k:=hk
   simp [Value.ownBlock] at hk'
   omega)⟩
theorem made_ents (n:Nat):(madeCells (bkC (entI entZ)) (n * 9)).toList=entsW (List.replicate n entZ):=by
 have h8:Eight (List.replicate n entZ):=fun e he=>by
  rw [(List.mem_replicate.1 he).2]
  rfl
 apply List.ext_getElem?
 intro j
 by_cases hj:j < n * 9
 ·have e:j=j / 9 * 9 + j % 9:=by omega
  have h1:=entsW_at h8 (i:=j / 9) (by simp;omega) (j:=j % 9) (by omega)
  rw [← e] at h1
  rw [h1,List.getElem?_replicate,if_pos (by omega),Option.getD_some]
  have h2:(bkC (entI entZ)).size=9:=rfl
  have h3:(madeCells (bkC (entI entZ)) (n * 9)).toList[j]? = some ((bkC (entI entZ))[j % 9]!):=by
   simp [madeCells,h2,hj]
  rw [h3]
  have h4:∀ k,k < 9→(bkC (entI entZ))[k]! = .int .i64 ((entI entZ)[k]?.getD 0):=by
   intro k hk
   rcases (show k=0∨k=1∨k=2∨k=3∨k=4∨k=5∨k=6∨k=7∨k=8 by omega) with rfl | rfl | rfl | rfl | rfl | rfl | rfl | rfl | rfl <;> rfl
  rw [h4 _ (by omega)]
 ·have h2:(entsW (List.replicate n entZ)).length=n * 9:=by rw [entsW_length h8];simp
  rw [List.getElem?_eq_none (by simp [size_madeCells];omega),List.getElem?_eq_none (by omega)]
theorem nilRow (w:World) (B:Nat) (e:TypeId) (size:Nat):w.ownsRow B e size (.slice none 0 0) 0 []:=⟨by simp,.inl ⟨rfl,rfl⟩⟩
end
end Go.Proofs.YtpaocjpjlogkgaaGreat
