/-
  Words and contracts of this claim, 2 texts laid into one, each under its own remark. No conditions but those that stand at each.
-/
import Derived.Test.YtpaocjpjlogkgaaGreatQPooWt
import Derived.Test.YtpaocjpjlogkgaaGreatQMchK
import Derived.Test.YtpaocjpjlogkgaaGreatQRstE
import Derived.Test.YtpaocjpjlogkgaaGreatQRely

/-
  What holds while the first statement of Apply is done, in whatever order: a command's own blocks are loaded, it runs on them, its machine comes to lie in a variable. No conditions but those that stand there.
-/
namespace Go.Proofs.YtpaocjpjlogkgaaGreat
open Go.RowKit
attribute [local go_sem] look findAt
attribute [local simp] depsOf depsE isV Region.binds
structure ApE where
 A3:Option Addr
 k3:Nat
 sA:Option Addr
 sn:Nat
 sc:Nat
 oA:Option Addr
 on:Nat
 oc:Nat
 bA:Option Addr
 bn:Nat
 bc:Nat
 G:Nat
abbrev apM (pc f r0 r1 r2 r3:Int) (ov:Bool) (e0:Int) (x:ApE):Array Value:=mC pc f (.slice x.sA x.sn x.sc) r0 r1 r2 r3 (.slice x.oA x.on x.oc) ov e0
def apV (C L:Value) (n3:Nat) (pc f r0 r1 r2 r3:Int) (ov:Bool) (e0:Int) (n:Int) (x:ApE):Nat→Value
 | 0=>C
 | 1=>L
 | 2=>C
 | 3=>.slice x.A3 n3 x.k3
 | 4=>.tuple #[.agg (apM pc f r0 r1 r2 r3 ov e0 x),.slice x.bA x.bn x.bc,.int .i64 n]
 | 5=>.tuple #[.agg (apM pc f r0 r1 r2 r3 ov e0 x),.slice x.bA x.bn x.bc,.int .i64 n]
 | 6=>.agg (apM pc f r0 r1 r2 r3 ov e0 x)
 | 7=>.slice x.bA x.bn x.bc
 | 8=>.int .i64 n
 | 9=>.pointer (some ⟨x.G,0,none⟩)
 | 11=>.slice x.bA x.bn x.bc
 | _=>undef
def ApH (wr:World) (own:Blks) (n3:Nat) (st ou:List Int) (bl:Blks) (pc f r0 r1 r2 r3:Int) (ov:Bool) (e0:Int) (d:Nat→Bool) (x:ApE) (X:World):Prop:=
 Below wr.heap.size wr X∧(d 5=true→d 4=true)∧(d 6=true→d 5=true)∧(d 7=true→d 5=true)∧(d 11=true→d 7=true)∧(d 10=true→d 9=true)∧(d 10=true→d 6=true) ∧
 (d 3=true→Sl X 8 x.A3 n3 x.k3 (blksW own)∧(∀ g,g < wr.heap.size→offA g x.A3 n3)∧(d 9=true→offA x.G x.A3 n3)) ∧
 (d 4=true→MIn X st ou bl x.sA x.sn x.sc x.oA x.on x.oc x.bA x.bn x.bc∧(∀ g,g < wr.heap.size→off3 g x.sA x.sn x.oA x.on x.bA x.bn)∧(d 9=true→off3 x.G x.sA x.sn x.oA x.on x.bA x.bn)) ∧
 (d 9=true→wr.heap.size≤x.G∧Bk X x.G 64 (if d 10=true then apM pc f r0 r1 r2 r3 ov e0 x else mZ))
theorem op_st_mach {ρ:Operand→Value} {o:Oper} {w:World} (g:Nat) {pc fuel:Int} {S:Value} {r0 r1 r2 r3:Int} {O:Value} {ov:Bool} {e0:Int} {pc' fuel':Int} {S':Value} {r0' r1' r2' r3':Int} {O':Value} {ov':Bool} {e0':Int} (hk:Bk w g 64 (mC pc' fuel' S' r0' r1' r2' r3' O' ov' e0'))
  (hS:S.oneCell'=true) (hO:O.oneCell'=true) (x y:Operand) (ho:o.op=.store 64 x y) (hx:ρ x=.pointer (some ⟨g,0,none⟩)) (hy:ρ y=.agg (mC pc fuel S r0 r1 r2 r3 O ov e0)) :
  (execOp ρ o).run Tryz.prog w=.ok .skip (w.setRow g (mC pc fuel S r0 r1 r2 r3 O ov e0)):=by
 have hl:=run_storeVar_row (P:=Tryz.prog) w g _ 64 _ (mC pc fuel S r0 r1 r2 r3 O ov e0) hk infoMc rfl (by simp [Value.oneCell'];exact ⟨hS,hO⟩)
 unfold execOp
 simp only [ho,hx,hy,Instr.storeAt,Instr.sureAddr,Sem.run_bind,Sem.run_pure,Result.andThen_ok,hl]
theorem run_alloc_mach12 (ρ:Operand→Value) (w:World) (o:Oper) (ho:o.op=.alloc 64):(execOp ρ o).run Tryz.prog w=.ok (.value (.pointer (some ⟨w.heap.size,0,none⟩))) (w.alloc (.cells mZ 64)):=by
 unfold execOp
 simp only [ho]
 go_simp
def ApPost (l:List Ent) (ln:Nat) (seq e0:Int) (ou:List Int) (w:World) (e:Ending) (w':World):Prop:=
 ∃ A k oA on oc,e=.returned (.tuple #[.slice A ln k,.agg (rC seq e0 (.slice oA on oc))])∧Sl w' 9 A ln k (entsW l)∧Sl w' 1 oA on oc (ou.map (.int .i64))∧Below w.heap.size w w'
theorem res2_rs {fn:Func} {p q:Tmp} (hf:fn.results = #[.tmp q,.cell p 51]) (tmps:Array Value) (w:World) (g:Nat) {seq told:Int} {S:Value} (x:Value)
  (hp:tmps.getD p undef=.pointer (some ⟨g,0,none⟩)) (hq:tmps.getD q undef=x) (hk:Bk w g 51 (rC seq told S)):(results fn tmps).run Tryz.prog w=.ok (.tuple #[x,.agg (rC seq told S)]) w:=by
 have hp':tmps[p]?.getD undef=.pointer (some ⟨g,0,none⟩):=by simpa using hp
 have hq':tmps[q]?.getD undef=x:=by simpa using hq
 have hl:=run_loadVar_row w g 51 51 _ (0,0) _ hk Tryz.underlying51 rfl infoRs
 simp [results,hf,hp',hq',asAddr,hl]
abbrev apW (C:Obj) (w:World):World:=(w.alloc C).alloc (.cells rsZ 51)
theorem apW_is (ra:Option Addr) (nr rc:Nat) (wa:Option Addr) (nw wc:Nat) (aa:Option Addr) (na ac:Nat) (fuel:Int) (ca:Option Addr) (nc cc:Nat) (w:World) :
  Below w.heap.size w (apW (CmObj ra nr rc wa nw wc aa na ac fuel ca nc cc) w)∧Bk (apW (CmObj ra nr rc wa nw wc aa na ac fuel ca nc cc) w) w.heap.size 56 #[.slice ra nr rc,.slice wa nw wc,.slice aa na ac,.int .i64 fuel,.slice ca nc cc]∧Bk (apW (CmObj ra nr rc wa nw wc aa na ac fuel ca nc cc) w) (w.heap.size + 1) 51 rsZ:=by
 refine ⟨bnext (below_alloc1 _ _) (below_alloc1 _ _),(Bk.new w _ _).alloc _,?_⟩
 have:=Bk.new (w.alloc (CmObj ra nr rc wa nw wc aa na ac fuel ca nc cc)) 51 rsZ
 rwa [World.size_alloc] at this
section
variable {wr:World} {own:Blks} {n3:Nat} {st ou:List Int} {bl:Blks} {pc f r0 r1 r2 r3:Int} {ov:Bool} {e0:Int} {d:Nat→Bool} {x:ApE} {X:World}
theorem ApH.step0 (h:ApH wr own n3 st ou bl pc f r0 r1 r2 r3 ov e0 d x X):ApH wr own n3 st ou bl pc f r0 r1 r2 r3 ov e0 (updB d 0) x X:=by
 obtain ⟨b,c5,c6,c7,c11,c10,c10',h3,h4,h9⟩:=h
 exact ⟨b,c5,c6,c7,c11,c10,c10',h3,h4,h9⟩
theorem ApH.step1 (h:ApH wr own n3 st ou bl pc f r0 r1 r2 r3 ov e0 d x X):ApH wr own n3 st ou bl pc f r0 r1 r2 r3 ov e0 (updB d 1) x X:=by
 obtain ⟨b,c5,c6,c7,c11,c10,c10',h3,h4,h9⟩:=h
 exact ⟨b,c5,c6,c7,c11,c10,c10',h3,h4,h9⟩
theorem ApH.step2 (h:ApH wr own n3 st ou bl pc f r0 r1 r2 r3 ov e0 d x X):ApH wr own n3 st ou bl pc f r0 r1 r2 r3 ov e0 (updB d 2) x X:=by
 obtain ⟨b,c5,c6,c7,c11,c10,c10',h3,h4,h9⟩:=h
 exact ⟨b,c5,c6,c7,c11,c10,c10',h3,h4,h9⟩
theorem ApH.step8 (h:ApH wr own n3 st ou bl pc f r0 r1 r2 r3 ov e0 d x X):ApH wr own n3 st ou bl pc f r0 r1 r2 r3 ov e0 (updB d 8) x X:=by
 obtain ⟨b,c5,c6,c7,c11,c10,c10',h3,h4,h9⟩:=h
 exact ⟨b,c5,c6,c7,c11,c10,c10',h3,h4,h9⟩
theorem ApH.step5 (h:ApH wr own n3 st ou bl pc f r0 r1 r2 r3 ov e0 d x X) (hd:d 4=true):ApH wr own n3 st ou bl pc f r0 r1 r2 r3 ov e0 (updB d 5) x X:=by
 obtain ⟨b,c5,c6,c7,c11,c10,c10',h3,h4,h9⟩:=h
 exact ⟨b,fun _=>hd,fun _=>rfl,fun _=>rfl,c11,c10,c10',h3,h4,h9⟩
theorem ApH.step6 (h:ApH wr own n3 st ou bl pc f r0 r1 r2 r3 ov e0 d x X) (hd:d 5=true):ApH wr own n3 st ou bl pc f r0 r1 r2 r3 ov e0 (updB d 6) x X:=by
 obtain ⟨b,c5,c6,c7,c11,c10,c10',h3,h4,h9⟩:=h
 exact ⟨b,c5,fun _=>hd,c7,c11,c10,fun _=>rfl,h3,h4,h9⟩
theorem ApH.step7 (h:ApH wr own n3 st ou bl pc f r0 r1 r2 r3 ov e0 d x X) (hd:d 5=true):ApH wr own n3 st ou bl pc f r0 r1 r2 r3 ov e0 (updB d 7) x X:=by
 obtain ⟨b,c5,c6,c7,c11,c10,c10',h3,h4,h9⟩:=h
 exact ⟨b,c5,c6,fun _=>hd,fun _=>rfl,c10,c10',h3,h4,h9⟩
theorem ApH.step11 (h:ApH wr own n3 st ou bl pc f r0 r1 r2 r3 ov e0 d x X) (hd:d 7=true):ApH wr own n3 st ou bl pc f r0 r1 r2 r3 ov e0 (updB d 11) x X:=by
 obtain ⟨b,c5,c6,c7,c11,c10,c10',h3,h4,h9⟩:=h
 exact ⟨b,c5,c6,c7,fun _=>hd,c10,c10',h3,h4,h9⟩
theorem ApH.step3 (h:ApH wr own n3 st ou bl pc f r0 r1 r2 r3 ov e0 d x X) {A:Option Addr} {k:Nat} {X':World} (ho:X'.ownsRow X.heap.size 74 8 (.slice A n3 k) n3 (blksW own)) (hb:Below X.heap.size X X') :
  ApH wr own n3 st ou bl pc f r0 r1 r2 r3 ov e0 (updB d 3) { x with A3:=A,k3:=k } X':=by
 obtain ⟨b,c5,c6,c7,c11,c10,c10',h3,h4,h9⟩:=h
 have hz:=b.size
 exact ⟨bnext b hb,c5,c6,c7,c11,c10,c10',fun _=>⟨Sl.own' ho,fun g hg=>own_offA ho (by omega),fun h=>own_offA ho (h9 h).2.lt⟩,fun h=>⟨(h4 h).1.below hb,(h4 h).2⟩,fun h=>⟨(h9 h).1,(h9 h).2.below hb⟩⟩
theorem ApH.step4 (h:ApH wr own n3 st ou bl pc f r0 r1 r2 r3 ov e0 d x X) (hf:d 4=false) (hd:d 3=true) {sA:Option Addr} {sn sc:Nat} {oA:Option Addr} {on oc:Nat} {bA:Option Addr} {bn bc:Nat} {X':World} (hM:MIn X' st ou bl sA sn sc oA on oc bA bn bc) (hb:Below X.heap.size X X')
  (ho:∀ g,g < X.heap.size→offA g x.A3 n3→off3 g sA sn oA on bA bn) :
  ApH wr own n3 st ou bl pc f r0 r1 r2 r3 ov e0 (updB d 4) ⟨x.A3,x.k3,sA,sn,sc,oA,on,oc,bA,bn,bc,x.G⟩ X':=by
 obtain ⟨b,c5,c6,c7,c11,c10,c10',h3,h4,h9⟩:=h
 have hz:=b.size
 obtain ⟨p1,p2,p3⟩:=h3 hd
 have n5:d 5=false:=by cases hq:d 5 with | false=>rfl | true=>rw [c5 hq] at hf;cases hf
 have n6:d 6=false:=by cases hq:d 6 with | false=>rfl | true=>rw [c6 hq] at n5;cases n5
 have n10:d 10=false:=by cases hq:d 10 with | false=>rfl | true=>rw [c10' hq] at n6;cases n6
 refine ⟨bnext b hb,fun _=>rfl,c6,c7,c11,c10,c10',fun _=>⟨p1.below hb,p2,p3⟩,fun _=>⟨hM,fun g hg=>ho g (by omega) (p2 g hg),fun h=>ho _ (h9 h).2.lt (p3 h)⟩,fun h=>⟨(h9 h).1,?_⟩⟩
 have k:=(h9 h).2.below hb
 rw [n10] at k
 show Bk X' x.G 64 (if d 10=true then _ else mZ)
 rw [n10]
 exact k
theorem ApH.same4 (h:ApH wr own n3 st ou bl pc f r0 r1 r2 r3 ov e0 d x X) (hf:d 4=false) {C L:Value} {n:Int} {sA:Option Addr} {sn sc:Nat} {oA:Option Addr} {on oc:Nat} {bA:Option Addr} {bn bc:Nat} :
  ∀ j,d j=true→apV C L n3 pc f r0 r1 r2 r3 ov e0 n ⟨x.A3,x.k3,sA,sn,sc,oA,on,oc,bA,bn,bc,x.G⟩ j=apV C L n3 pc f r0 r1 r2 r3 ov e0 n x j:=by
 obtain ⟨b,c5,c6,c7,c11,c10,c10',h3,h4,h9⟩:=h
 have n5:d 5=false:=by cases hq:d 5 with | false=>rfl | true=>rw [c5 hq] at hf;cases hf
 have n6:d 6=false:=by cases hq:d 6 with | false=>rfl | true=>rw [c6 hq] at n5;cases n5
 have n7:d 7=false:=by cases hq:d 7 with | false=>rfl | true=>rw [c7 hq] at n5;cases n5
 have n11:d 11=false:=by cases hq:d 11 with | false=>rfl | true=>rw [c11 hq] at n7;cases n7
 intro j hj
 match j,hj with
 | 0,_=>rfl
 | 1,_=>rfl
 | 2,_=>rfl
 | 3,_=>rfl
 | 4,hj=>rw [hf] at hj;cases hj
 | 5,hj=>rw [n5] at hj;cases hj
 | 6,hj=>rw [n6] at hj;cases hj
 | 7,hj=>rw [n7] at hj;cases hj
 | 8,_=>rfl
 | 9,_=>rfl
 | 10,_=>rfl
 | 11,hj=>rw [n11] at hj;cases hj
 | (j + 12),_=>rfl
theorem apV_same3 {C L:Value} {n:Int} (hf:d 3=false) {A:Option Addr} {k:Nat}:∀ j,d j=true→apV C L n3 pc f r0 r1 r2 r3 ov e0 n { x with A3:=A,k3:=k } j=apV C L n3 pc f r0 r1 r2 r3 ov e0 n x j:=by
 intro j hj
 match j,hj with
 | 0,_=>rfl
 | 1,_=>rfl
 | 2,_=>rfl
 | 3,hj=>rw [hf] at hj;cases hj
 | 4,_=>rfl
 | 5,_=>rfl
 | 6,_=>rfl
 | 7,_=>rfl
 | 8,_=>rfl
 | 9,_=>rfl
 | 10,_=>rfl
 | 11,_=>rfl
 | (j + 12),_=>rfl
theorem apV_same9 {C L:Value} {n:Int} (hf:d 9=false) {G:Nat}:∀ j,d j=true→apV C L n3 pc f r0 r1 r2 r3 ov e0 n { x with G:=G } j=apV C L n3 pc f r0 r1 r2 r3 ov e0 n x j:=by
 intro j hj
 match j,hj with
 | 0,_=>rfl
 | 1,_=>rfl
 | 2,_=>rfl
 | 3,_=>rfl
 | 4,_=>rfl
 | 5,_=>rfl
 | 6,_=>rfl
 | 7,_=>rfl
 | 8,_=>rfl
 | 9,hj=>rw [hf] at hj;cases hj
 | 10,_=>rfl
 | 11,_=>rfl
 | (j + 12),_=>rfl
theorem ApH.step9 (h:ApH wr own n3 st ou bl pc f r0 r1 r2 r3 ov e0 d x X) (hf:d 9=false):ApH wr own n3 st ou bl pc f r0 r1 r2 r3 ov e0 (updB d 9) { x with G:=X.heap.size } (X.alloc (.cells mZ 64)):=by
 obtain ⟨b,c5,c6,c7,c11,c10,c10',h3,h4,h9⟩:=h
 have hz:=b.size
 have hb:=below_alloc1 X (.cells mZ 64)
 have n10:d 10=false:=by cases hq:d 10 with | false=>rfl | true=>rw [c10 hq] at hf;cases hf
 refine ⟨bnext b hb,c5,c6,c7,c11,fun _=>rfl,c10',fun h=>⟨(h3 h).1.below hb,(h3 h).2.1,fun _=>(h3 h).1.offNew (Nat.le_refl _)⟩,fun h=>⟨(h4 h).1.below hb,(h4 h).2.1,fun _=>(h4 h).1.offNew (Nat.le_refl _)⟩,fun _=>⟨hz,?_⟩⟩
 show Bk _ X.heap.size 64 (if d 10=true then _ else mZ)
 rw [n10]
 exact Bk.new _ _ _
theorem ApH.bk (h:ApH wr own n3 st ou bl pc f r0 r1 r2 r3 ov e0 d x X) (hd:d 9=true):∃ pc' f' S' r0' r1' r2' r3' O' ov' e0',Bk X x.G 64 (mC pc' f' S' r0' r1' r2' r3' O' ov' e0'):=by
 obtain ⟨b,c5,c6,c7,c11,c10,c10',h3,h4,h9⟩:=h
 have k:=(h9 hd).2
 split at k
 ·exact ⟨_,_,_,_,_,_,_,_,_,_,k⟩
 ·exact ⟨_,_,_,_,_,_,_,_,_,_,k⟩
theorem ApH.step10 (h:ApH wr own n3 st ou bl pc f r0 r1 r2 r3 ov e0 d x X) (hd:d 9=true) (hd6:d 6=true):ApH wr own n3 st ou bl pc f r0 r1 r2 r3 ov e0 (updB d 10) x (X.setRow x.G (apM pc f r0 r1 r2 r3 ov e0 x)):=by
 obtain ⟨pc',f',S',r0',r1',r2',r3',O',ov',e0',k⟩:=h.bk hd
 obtain ⟨b,c5,c6,c7,c11,c10,c10',h3,h4,h9⟩:=h
 have hg:=(h9 hd).1
 refine ⟨below_row b hg _,c5,c6,c7,c11,fun _=>hd,fun _=>hd6,fun h=>⟨(h3 h).1.offSet ((h3 h).2.2 hd) (by simp) (fun k hk _=>setRow_other X x.G k _ hk),(h3 h).2⟩,fun h=>⟨(h4 h).1.setRow ((h4 h).2.2 hd) _,(h4 h).2⟩,fun _=>⟨hg,?_⟩⟩
 show Bk _ x.G 64 (apM pc f r0 r1 r2 r3 ov e0 x)
 exact Bk.setRow k _
theorem ApH.all (h:ApH wr own n3 st ou bl pc f r0 r1 r2 r3 ov e0 d x X) (hd:∀ i,i < 12→d i=true):Below wr.heap.size wr X∧wr.heap.size≤x.G∧Bk X x.G 64 (apM pc f r0 r1 r2 r3 ov e0 x)∧MIn X st ou bl x.sA x.sn x.sc x.oA x.on x.oc x.bA x.bn x.bc∧(∀ g,g < wr.heap.size→off3 g x.sA x.sn x.oA x.on x.bA x.bn):=by
 obtain ⟨b,c5,c6,c7,c11,c10,c10',h3,h4,h9⟩:=h
 obtain ⟨g1,g2⟩:=h9 (hd 9 (by omega))
 rw [if_pos (hd 10 (by omega))] at g2
 obtain ⟨m1,m2,-⟩:=h4 (hd 4 (by omega))
 exact ⟨b,g1,g2,m1,m2⟩
theorem ApH.start (wr:World) (own:Blks) (n3:Nat) (st ou:List Int) (bl:Blks) (pc f r0 r1 r2 r3:Int) (ov:Bool) (e0:Int) (x:ApE):ApH wr own n3 st ou bl pc f r0 r1 r2 r3 ov e0 (fun _=>false) x wr.drew:=
 ⟨below_drew1 wr,nofun,nofun,nofun,nofun,nofun,nofun,nofun,nofun,nofun⟩
end
end Go.Proofs.YtpaocjpjlogkgaaGreat

/-
  What foremanref12.Apply answers of a command that may be and whose blocks are there, in whatever memory. No conditions but those that stand there.
-/
namespace Go.Proofs.YtpaocjpjlogkgaaGreat
open Go.RowKit
set_option maxRecDepth 100000
attribute [local go_sem] look findAt
attribute [local simp] depsOf depsE isV Region.binds
section
variable (ra:Option Addr) (nr rc:Nat) (wa:Option Addr) (nw wc:Nat) (aa:Option Addr) (na ac:Nat) (ca:Option Addr) (nc cc:Nat)
set_option maxHeartbeats 8000000 in
set_option maxRecDepth 100000 in
theorem rapply_any (c:Cmd) (l:List Ent) (lA:Option Addr) (ln lc:Nat) (seq:Int) (hm:MayBe c) (h8:Eight l) (hf:fitsT c l.length) (hln:l.length=ln) (hlz:ln≤1000)
  {n:Nat} {pc f:Int} {st regs ou:List Int} {to:Nat} {bl:Blks} (hE:Ends c (newM c,loadT l c) n) (hn:n≤201) (hR:RunsTo c (loadT l c) n pc f st regs ou true to bl)
  (w:World) (hC:CmIn w c ra nr rc wa nw wc aa na ac ca nc cc) (hL:Ents w lA lc l) :
  Calls Tryz.prog 18 #[.slice lA ln lc,cmV ra nr rc wa nw wc aa na ac c.fuel ca nc cc,.int .i64 seq] w (ApPost (if (to:Int)=0 then storeT l c bl seq else l) ln seq to ou w):=by
 have hs:=hm.sets
 have hown:(loadT l c).length=c.reads.length + c.writes.length:=load_length
 have hlr:=hC.lr
 have hlw:=hC.lw
 have h8o:∀ b∈loadT l c,b.length=8:=fun b hb=>by
  obtain ⟨i,_,rfl⟩:=List.mem_map.1 hb
  exact h8.at _
 have hbz:nr + nw≤1000:=by
  obtain ⟨f1,f2,-,-,-,-⟩:=hm.few
  omega
 have hbl:bl.length=nr + nw:=by rw [hR.many,hown,hlr,hlw]
 have hLs:Sl w 9 lA ln lc (entsW l):=by
  have:=hL
  unfold Ents at this
  rwa [hln] at this
 have ld:=Lib.hid (fun (W:World) (hW:Below w.heap.size w W)=>rload_any ra nr rc wa nw wc aa na ac ca nc cc c l lA ln lc W (hC.below hW) (hL.below hW) h8 hs hf hln)
 have wh:=Lib.hid (fun (W:World) (hW:Below w.heap.size w W) (A:Option Addr) (k:Nat) (hO:Sl W 8 A (nr + nw) k (blksW (loadT l c)))=>rwhole_runs_off ra nr rc wa nw wc aa na ac ca nc cc hm hown h8o hE hn hR W (hC.below hW) hO)
 have so:=Lib.hid (fun (W:World) (hW:Below w.heap.size w W) (A:Option Addr) (bn k:Nat) (hbn:bn=nr + nw) (hO:Sl W 8 A bn k (blksW bl))=>rstore_any ra nr rc wa nw wc aa na ac ca nc cc c l lA ln lc bl A bn k seq W (hC.below hW) (hL.below hW) h8 hs hf hln hO (by rw [hbl,hbn]) hR.cells (by omega) hlz (by omega))
 have HB8:=Lib.hid hR.cells
 have HBL:=Lib.hid hbl
 have HLS:=Lib.hid hLs
 have hOU:=hR.out
 obtain ⟨t1,t2,t3⟩:=apW_is ra nr rc wa nw wc aa na ac c.fuel ca nc cc w
 obtain ⟨wr,hW⟩:∃ W,W=(w.alloc (CmObj ra nr rc wa nw wc aa na ac c.fuel ca nc cc)).alloc (.cells #[.int .i64 0,.int .i64 0,.slice none 0 0] 51):=⟨_,rfl⟩
 rw [show apW (CmObj ra nr rc wa nw wc aa na ac c.fuel ca nc cc) w=wr from hW.symm] at t1 t2 t3
 have B0:=Lib.hid t1
 have C0:=Lib.hid t2
 have R0:=Lib.hid t3
 have la:Hid (∀ X,Below wr.heap.size wr X→X.cell? ⟨w.heap.size,0,none⟩=some (.slice ra nr rc)∧X.cell? ⟨w.heap.size,1,none⟩=some (.slice wa nw wc)∧X.cell? ⟨w.heap.size,2,none⟩=some (.slice aa na ac)∧X.cell? ⟨w.heap.size,3,none⟩=some (.int .i64 c.fuel)∧X.cell? ⟨w.heap.size,4,none⟩=some (.slice ca nc cc)):=Lib.hid (fun X hX=>by
  obtain ⟨q0,q1,q2,q3,q4,-⟩:=(C0.out.below hX).cmd
  exact ⟨q0,q1,q2,q3,q4⟩)
 clear t1 t2 t3 hE hR hC hL h8 h8o hf hs hm hown hln hbl hLs hlr hlw
 generalize c.fuel=F at *
 generalize hto:(to:Int)=e0 at *
 generalize rg regs 0=r0 at *
 generalize rg regs 1=r1 at *
 generalize rg regs 2=r2 at *
 generalize rg regs 3=r3 at *
 clear hto
 obtain ⟨l',hl',hl1,hl2⟩:∃ l',l'=(if e0=0 then storeT l c bl seq else l)∧(e0=0→l'=storeT l c bl seq)∧(e0≠0→l'=l):=⟨_,rfl,fun h=>if_pos h,fun h=>if_neg h⟩
 rw [← hl']
 have HL1:=Lib.hid hl1
 have HL2:=Lib.hid hl2
 clear hl' hl1 hl2
 go_enter Tryz.func18,Tryz.ntmps18
 go_wp2
 rw [← hW]
 clear hW
 try simp only [List.append_eq,List.cons_append,List.nil_append]
 refine wp_region_saysE 12 (apV (cmV ra nr rc wa nw wc aa na ac F ca nc cc) (.slice lA ln lc) (nr + nw) pc f r0 r1 r2 r3 true e0 n) (ApH wr (loadT l c) (nr + nw) st ou bl pc f r0 r1 r2 r3 true e0) ⟨none,0,none,0,0,none,0,0,none,0,0,0⟩ (ApH.start _ _ _ _ _ _ _ _ _ _ _ _ _ _ _) (by kernel_rfl) (by kernel_rfl) (by kernel_rfl) (by kernel_rfl) (by rfl) ?_ ?_
 ·simp only [List.take_succ_cons,List.take_zero]
  -- 0: the command
  refine walkE_is (fun d x u X _ hh _=>hh.step0) (fun d x u X hh hd=>?_) ?_
  ·obtain ⟨q0,q1,q2,q3,q4⟩:=la.out X hh.1
   clear hd
   go_simp
   try rfl
  -- 1: the table
  refine walkE_is (fun d x u X _ hh _=>hh.step1) (fun d x u X hh hd=>?_) ?_
  ·clear hd
   go_simp
   try rfl
  -- 2: the command
  refine walkE_is (fun d x u X _ hh _=>hh.step2) (fun d x u X hh hd=>?_) ?_
  ·obtain ⟨q0,q1,q2,q3,q4⟩:=la.out X hh.1
   clear hd
   go_simp
   try rfl
  -- 3: its own blocks
  refine walkE_call 42 (fun d x u X h1 hh hd=>?_) ?_
  ·simp [apV] at hd
   refine ⟨#[.slice lA ln lc,cmV ra nr rc wa nw wc aa na ac F ca nc cc],?_,?_⟩
   ·clear ld wh so la
    go_simp
    try simp [hd]
   ·refine (ld.out X (bnext B0.out hh.1)).mono ?_
    rintro e X' ⟨A,k,rfl,ho,hb⟩
    exact ⟨{ x with A3:=A,k3:=k },rfl,apV_same3 h1,hh.step3 ho hb⟩
  -- 4: the run
  refine walkE_call 49 (fun d x u X h1 hh hd=>?_) ?_
  ·simp [apV] at hd
   refine ⟨#[cmV ra nr rc wa nw wc aa na ac F ca nc cc,.slice x.A3 (nr + nw) x.k3],?_,?_⟩
   ·clear ld wh so la
    go_simp
    try simp [hd]
   ·have hd3:d 3=true:=by simp [hd]
    refine (wh.out X (bnext B0.out hh.1) x.A3 x.k3 (hh.2.2.2.2.2.2.2.1 hd3).1).mono ?_
    rintro e X' ⟨sA,sn,sc,oA,on,oc,bA,bn,bc,rfl,hM,hb,ho⟩
    exact ⟨⟨x.A3,x.k3,sA,sn,sc,oA,on,oc,bA,bn,bc,x.G⟩,rfl,hh.same4 h1,hh.step4 h1 hd3 hM hb ho⟩
  -- 5
  refine walkE_is (fun d x u X _ hh hd=>hh.step5 (by simp at hd;simp [hd])) (fun d x u X hh hd=>?_) ?_
  ·simp [apV] at hd
   clear ld wh so la
   go_simp
   try simp [hd]
   rfl
  -- 6
  refine walkE_is (fun d x u X _ hh hd=>hh.step6 (by simp at hd;simp [hd])) (fun d x u X hh hd=>?_) ?_
  ·simp [apV] at hd
   clear ld wh so la
   go_simp
   try simp [hd]
   rfl
  -- 7
  refine walkE_is (fun d x u X _ hh hd=>hh.step7 (by simp at hd;simp [hd])) (fun d x u X hh hd=>?_) ?_
  ·simp [apV] at hd
   clear ld wh so la
   go_simp
   try simp [hd]
   rfl
  -- 8
  refine walkE_is (fun d x u X _ hh hd=>hh.step8) (fun d x u X hh hd=>?_) ?_
  ·simp [apV] at hd
   clear ld wh so la
   go_simp
   try simp [hd]
   rfl
  -- 9: the variable
  refine walkE_new (fun d x u X h1 hh hd=>⟨_,{ x with G:=X.heap.size },run_alloc_mach12 _ X _ rfl,apV_same9 h1,hh.step9 h1⟩) ?_
  -- 10: what lies in it
  refine walkE_store (fun x=>rfl) (fun d x u X h1 hh hd=>?_) ?_
  ·simp [apV] at hd
   obtain ⟨pc',f',S',r0',r1',r2',r3',O',ov',e0',k⟩:=hh.bk (by simp [hd])
   exact ⟨_,op_st_mach x.G k rfl rfl _ _ rfl (by simp [look,findAt,hd]) (by simp [look,findAt,hd]),hh.step10 (by simp [hd]) (by simp [hd])⟩
  -- 11
  refine walkE_is (fun d x u X _ hh hd=>hh.step11 (by simp at hd;simp [hd])) (fun d x u X hh hd=>?_) ?_
  ·simp [apV] at hd
   clear ld wh so la
   go_simp
   try simp [hd]
   rfl
  exact trivial
 ·intro d x X hd hh
  obtain ⟨hX,hG,hk,hM,hoff⟩:=hh.all hd
  clear hh hd
  obtain ⟨A3,k3,sA,sn,sc,oA,on,oc,bA,bn,bc,G⟩:=x
  simp only at hG hk hM hoff
  simp only [List.take_succ_cons,List.take_zero,List.drop_succ_cons,List.drop_zero,putAll,Act.put,apV,List.setIfInBounds_toArray,List.set_cons_succ,List.set_cons_zero]
  have BX:=Lib.hid (bnext B0.out hX)
  have RX:=Lib.hid (R0.out.below hX)
  have KX:=Lib.hid hk
  have MX:=Lib.hid hM
  have k9:=hk.cell 9
  simp only [List.getElem?_toArray,List.getElem?_cons_zero,List.getElem?_cons_succ] at k9
  obtain ⟨-,hon,hbn⟩:=hM.lens HB8.out
  have hrx:w.heap.size + 1 < X.heap.size:=RX.out.lt
  have hgx:wr.heap.size≤G:=hG
  have hoR:=Lib.hid (hoff (w.heap.size + 1) R0.out.lt)
  obtain ⟨q0,q1,q2,q3,q4⟩:=la.out X hX
  have ss:=Lib.hid (so.out X BX.out bA bn bc (by rw [hbn];exact HBL.out) MX.out.bk)
  have ts:=Lib.hid (fun (Y:World)=>rtells_any seq pc f sA sn sc r0 r1 r2 r3 oA on oc true e0 Y)
  have LX:=Lib.hid (HLS.out.below BX.out)
  have hoL:Hid (offA (w.heap.size + 1) lA ln):=Lib.hid (HLS.out.offNew (by omega))
  have hon8:on≤1000:=by omega
  clear hon hbn
  clear hk hM hoff hX hG la ld wh so B0 R0 C0
  by_cases hz:e0=0
  ·subst hz
   have hll:Hid (l'=storeT l c bl seq):=Lib.hid (HL1.out rfl)
   clear HL1 HL2
   rw [← hll.out] at ss
   clear hll
   go_wp2_with (first
    | (go_at_call 50;go_must ((with_reducible refine ss.out.mono ?_);rintro e w1 ⟨A',k',rfl,hs4,hb⟩;have S4:=Lib.hid (Sl.own' hs4);have O4:=Lib.hid (own_offA hs4 (G:=w.heap.size + 1) hrx);have K1:=Lib.hid (KX.out.below hb);have R1:=Lib.hid (RX.out.below hb);have B1:=Lib.hid (bnext BX.out hb);have M1:=Lib.hid (MX.out.ou.below hb);clear hs4 hb))
    | (with_reducible refine ld_mach G K1.out _ rfl rfl rfl ?_)
    | (go_at_call 51;go_must ((with_reducible refine (ts.out _).mono ?_);rintro e w2 ⟨rfl,hb⟩;have S5:=Lib.hid (S4.out.below hb);have R2:=Lib.hid (R1.out.below hb);have B2:=Lib.hid (bnext B1.out hb);have M2:=Lib.hid (M1.out.below hb);clear hb))
    | (with_reducible refine st_rs (w.heap.size + 1) R2.out rfl _ _ rfl rfl rfl rfl ?_))
   exact bodyPost_ret (v:=.tuple #[.slice A' ln k',.agg (rC seq 0 (.slice oA on oc))]) (res2_rs rfl _ _ (w.heap.size + 1) _ rfl rfl (Bk.setRow R2.out _)) rfl ⟨_,_,_,_,_,rfl,S5.out.offSet O4.out (by simp) (fun k hk _=>setRow_other w2 (w.heap.size + 1) k _ hk),M2.out.offSet hoR.out.2.1 (by simp) (fun k hk _=>setRow_other w2 (w.heap.size + 1) k _ hk),below_row B2.out (by omega) _⟩
  ·have hll:l'=l:=HL2.out hz
   clear HL1 HL2 ss
   rw [← hll] at LX
   clear hll
   go_wp2_with (first
    | (with_reducible refine ld_mach G KX.out _ rfl rfl rfl ?_)
    | (go_at_call 51;go_must ((with_reducible refine (ts.out _).mono ?_);rintro e w2 ⟨rfl,hb⟩;have S5:=Lib.hid (LX.out.below hb);have R2:=Lib.hid (RX.out.below hb);have B2:=Lib.hid (bnext BX.out hb);have M2:=Lib.hid (MX.out.ou.below hb);clear hb))
    | (with_reducible refine st_rs (w.heap.size + 1) R2.out rfl _ _ rfl rfl rfl rfl ?_))
   exact bodyPost_ret (v:=.tuple #[.slice lA ln lc,.agg (rC seq e0 (.slice oA on oc))]) (res2_rs rfl _ _ (w.heap.size + 1) _ rfl rfl (Bk.setRow R2.out _)) rfl ⟨_,_,_,_,_,rfl,S5.out.offSet hoL.out (by simp) (fun k hk _=>setRow_other w2 (w.heap.size + 1) k _ hk),M2.out.offSet hoR.out.2.1 (by simp) (fun k hk _=>setRow_other w2 (w.heap.size + 1) k _ hk),below_row B2.out (by omega) _⟩
end
end Go.Proofs.YtpaocjpjlogkgaaGreat
