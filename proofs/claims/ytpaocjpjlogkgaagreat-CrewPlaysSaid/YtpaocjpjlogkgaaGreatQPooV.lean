/-
  Words and contracts of this claim, 13 texts laid into one, each under its own remark. No conditions but those that stand at each.
-/
import Derived.Test.YtpaocjpjlogkgaaGreatZPooDl
import Derived.Test.YtpaocjpjlogkgaaGreatQPooF
import Derived.Test.YtpaocjpjlogkgaaGreatQPooB
import Derived.Test.YtpaocjpjlogkgaaGreatZPooW
import Derived.Test.YtpaocjpjlogkgaaGreatQLckRa
import Derived.Test.YtpaocjpjlogkgaaGreatZLckBy
import Derived.Test.YtpaocjpjlogkgaaGreatQPooWt
import Derived.Test.YtpaocjpjlogkgaaGreatQWords
import Derived.Test.YtpaocjpjlogkgaaGreatQShdM
import Derived.Test.YtpaocjpjlogkgaaGreatQQueP
import Derived.Test.YtpaocjpjlogkgaaGreatQMchK
import Derived.Test.YtpaocjpjlogkgaaGreatQRstE
import Derived.Test.YtpaocjpjlogkgaaGreatQTabA
import Derived.Test.YtpaocjpjlogkgaaGreatZCrwK
import Derived.Test.YtpaocjpjlogkgaaGreatQCelK
import Derived.Test.YtpaocjpjlogkgaaGreatQRely
namespace Go.Proofs.YtpaocjpjlogkgaaGreat
set_option maxRecDepth 100000
set_option maxHeartbeats 32000000
open Go
open Go.Lib (hid)
section
open Go Go.RowKit
def seqP (s:Int) (t:Tsk):Bool:=decide (t.seq=s)
def wkP (k:Int) (t:Tsk):Bool:=decide (0≤k∧t.worker=k)
theorem idxP_map {α β:Type} (f:α→β) (p:β→Bool) (l:List α):idxP p (l.map f)=idxP (fun x=>p (f x)) l:=by
 unfold idxP
 rw [List.findIdx_map,List.length_map]
 rfl
theorem seqT_says {l:List TkL} {L:List Tsk} (h:saysT l L) (s:Int):idxP (seqT s) l=idxP (seqP s) L:=by
 rw [← h,idxP_map]
 rfl
theorem wkT_says {l:List TkL} {L:List Tsk} (h:saysT l L) (k:Int):idxP (wkT k) l=idxP (wkP k) L:=by
 rw [← h,idxP_map]
 rfl
structure TkIs (L:List Tsk) (w:World) (A:Option Addr) (n c:Nat) (l:List TkL):Prop where
 sl:Tks w A c l
 len:l.length=n
 says:saysT l L
 few:∀ t∈l,fewT t
theorem TkIs.below {L:List Tsk} {w w':World} {A:Option Addr} {n c:Nat} {l:List TkL} (h:TkIs L w A n c l) (hb:Below w.heap.size w w'):TkIs L w' A n c l:=⟨h.sl.below hb,h.len,h.says,h.few⟩
theorem TkIs.nil (w:World):TkIs [] w none 0 0 []:=⟨Tks.nil w,rfl,rfl,by simp⟩
theorem TkNew.is {L:List Tsk} {B:Nat} {w:World} {A:Option Addr} {n c:Nat} {l:List TkL} (h:TkNew L B w A n c l):TkIs L w A n c l:=⟨h.sl,h.own.1,h.says,h.few⟩
theorem TkIs.map {L:List Tsk} {w:World} {A:Option Addr} {n c:Nat} {l:List TkL} (h:TkIs L w A n c l):l.map TkL.tsk=L:=h.says
theorem TkIs.lenL {L:List Tsk} {w:World} {A:Option Addr} {n c:Nat} {l:List TkL} (h:TkIs L w A n c l):L.length=n:=by rw [← h.says.len];exact h.len
def newP (s:Int) (c:Cmd):Tsk:=⟨s,c,newM c,[],-1⟩
def fewC (x:CmL):Prop:=x.nr≤1000∧x.nw≤1000∧x.na≤1000∧x.nc≤1000
theorem CmL.In.few {x:CmL} {w:World} (h:x.In w) (hm:MayBe x.c):fewC x:=by
 obtain ⟨f1,f2,f3,f4,-⟩:=hm.few
 have h1:x.c.reads.length=x.nr:=h.lr
 have h2:x.c.writes.length=x.nw:=h.lw
 have h3:x.c.args.length=x.na:=h.la
 have h4:x.c.code.length=x.nc:=h.lc
 exact ⟨by omega,by omega,by omega,by omega⟩
def goodL (n:Nat) (L:List Tsk):Prop:=∀ T∈L,MayBe T.cmd∧fitsT T.cmd n
section
variable (L:List Tsk) (l:List TkL) (A:Option Addr) (n c:Nat) (w:World)
theorem padd_is (x:CmL) (s:Int) (h:TkIs L w A n c l) (hn:n≤999) (hx:x.In w) (hf:fewC x):Calls Tryz.prog 26 #[.slice A n c,cmV x.ra x.nr x.rc x.wa x.nw x.wc x.aa x.na x.ac x.c.fuel x.ca x.nc x.cc,.int .i64 s] w (TpN (L ++ [newP s x.c]) (n + 1) w):=by
 have:=padd_any l A n c x s w h.sl h.len hn h.few hx hf
 rwa [h.map] at this
theorem pwith_is (i:Nat) (t:TkL) (h:TkIs L w A n c l) (hi:i < n) (hn:n≤1000) (ht:t.In w) (hf:fewT t):Calls Tryz.prog 38 #[.slice A n c,.int .i64 (i:Int),.agg (tkA t)] w (TpN (L.set i t.tsk) n w):=by
 have:=pwith_any l A n c i t w h.sl h.len hi hn h.few ht hf
 rwa [h.map] at this
theorem pwithout_is (i:Nat) (h:TkIs L w A n c l) (hi:i < n) (hn:n≤1000):Calls Tryz.prog 86 #[.slice A n c,.int .i64 (i:Int)] w (TpN (withoutP L i) (n - 1) w):=by
 have:=pwithout_any l A n c i w h.sl h.len hi hn h.few
 rwa [h.map] at this
theorem pfind_is (s:Int) (h:TkIs L w A n c l) (hn:n≤1000):Calls Tryz.prog 35 #[.slice A n c,.int .i64 s] w fun e w'=>e=.returned (.int .i64 (idxP (seqP s) L))∧Below w.heap.size w w':=by
 have:=pfind_any l A n c s w h.sl h.len (by omega)
 rwa [seqT_says h.says] at this
theorem rfind_is (s:Int) (h:TkIs L w A n c l) (hn:n≤1000):Calls Tryz.prog 39 #[.slice A n c,.int .i64 s] w fun e w'=>e=.returned (.int .i64 (idxP (seqP s) L))∧Below w.heap.size w w':=by
 have:=rfind16_any l A n c s w h.sl h.len (by omega)
 rw [seqT_says h.says] at this
 exact this.mono fun e w' ⟨he,hw⟩=>⟨he,hw ▸ Below.refl _ _⟩
theorem pof_is (k:Int) (h:TkIs L w A n c l) (hn:n≤1000):Calls Tryz.prog 34 #[.slice A n c,.int .i64 k] w fun e w'=>e=.returned (.int .i64 (idxP (wkP k) L))∧Below w.heap.size w w':=by
 have:=pof_any l A n c k w h.sl h.len (by omega)
 rwa [wkT_says h.says] at this
theorem rof_is (k:Int) (h:TkIs L w A n c l) (hn:n≤1000):Calls Tryz.prog 40 #[.slice A n c,.int .i64 k] w fun e w'=>e=.returned (.int .i64 (idxP (wkP k) L))∧Below w.heap.size w w':=by
 have:=rof16_any l A n c k w h.sl h.len (by omega)
 rw [wkT_says h.says] at this
 exact this.mono fun e w' ⟨he,hw⟩=>⟨he,hw ▸ Below.refl _ _⟩
theorem rsame_is (m:List TkL) (B:Option Addr) (d:Nat) (h:TkIs L w A n c l) (k:TkIs L w B n d m) (hn:n≤1000):Calls Tryz.prog 30 #[.slice A n c,.slice B n d] w fun e w'=>e=.returned (.bool true)∧Below w.heap.size w w':=
 rsame16_yes l m A c B d n w h.sl k.sl h.len k.len (fun i t u ht hu=>by
  have h1:=h.says.at ht
  have h2:=k.says.at hu
  rw [h1] at h2
  injection h2) hn h.few
end
def whoG (f:Nat→Int) (l:List CmL) (i:Nat):Who:=(List.range i).map fun j=>(f j,(l[j]?.getD default).c)
def newG (f:Nat→Int) (l:List CmL) (i:Nat):List Tsk:=(List.range i).map fun j=>newP (f j) (l[j]?.getD default).c
theorem whoG_succ (f:Nat→Int) {l:List CmL} {i:Nat} {x:CmL} (hx:l[i]? = some x):whoG f l (i + 1)=whoG f l i ++ [(f i,x.c)]:=by
 unfold whoG
 rw [List.range_succ,List.map_append]
 simp [hx]
theorem newG_succ (f:Nat→Int) {l:List CmL} {i:Nat} {x:CmL} (hx:l[i]? = some x):newG f l (i + 1)=newG f l i ++ [newP (f i) x.c]:=by
 unfold newG
 rw [List.range_succ,List.map_append]
 simp [hx]
theorem newG_length (f:Nat→Int) (l:List CmL) (i:Nat):(newG f l i).length=i:=by simp [newG]
end
section
open Go.RowKit
structure Hd where
 a1:Int
 a2:Int
 a3:Int
 a4:Int
 a5:Int
 a6:Int
structure CwL where
 bA:Option Addr
 bc:Nat
 wA:Option Addr
 wc:Nat
 tl:List TkL
 tA:Option Addr
 tn:Nat
 tc:Nat
 rl:List RsL
 rA:Option Addr
 rn:Nat
 rc:Nat
 on:Bool
 oA:Option Addr
 oc:Nat
 kA:Option Addr
 kc:Nat
abbrev cwA (n no:Nat) (H:Hd) (z:CwL):Array Value:=#[.slice z.bA n z.bc,.slice z.wA n z.wc,.slice z.tA z.tn z.tc,.slice z.rA z.rn z.rc,.bool z.on,.int .i64 H.a1,.int .i64 H.a2,.int .i64 H.a3,.int .i64 H.a4,.int .i64 H.a5,.int .i64 H.a6,.slice z.oA no z.oc,.slice z.kA no z.kc]
def fewR (R:List Rst):Prop:=∀ r∈R,r.out.length≤1000
structure CwIs (n no:Nat) (X:Crw) (w:World) (z:CwL):Prop where
 len:X.blocks.length=n
 bl:Ents w z.bA z.bc X.blocks
 e8:Eight X.blocks
 wt:LkOwn 0 w z.wA n z.wc (lksW (whoP X.tasks) n)
 tk:TkIs X.tasks w z.tA z.tn z.tc z.tl
 rs:RsIs X.results w z.rA z.rn z.rc z.rl
 on:X.mark.on=z.on
 mark:MkIn w X.mark.old X.mark.kept z.oA no z.oc z.kA no z.kc
theorem CwIs.below {n no:Nat} {X:Crw} {w w':World} {z:CwL} (h:CwIs n no X w z) (hb:Below w.heap.size w w'):CwIs n no X w' z:=⟨h.len,h.bl.below hb,h.e8,h.wt.below hb,h.tk.below hb,h.rs.below hb,h.on,h.mark.below hb⟩
theorem CwIs.bs {n no:Nat} {X:Crw} {w:World} {z:CwL} (h:CwIs n no X w z):Sl w 9 z.bA n z.bc (entsW X.blocks):=by
 have:=h.bl
 unfold Ents at this
 rwa [h.len] at this
def TkOffs (G:Nat) (A:Option Addr) (n:Nat) (l:List TkL):Prop:=offA G A n∧∀ t∈l,t.Off G
def RsOffs (G:Nat) (A:Option Addr) (n:Nat) (l:List RsL):Prop:=offA G A n∧∀ x∈l,offA G x.A x.n
structure CwOff (G n no:Nat) (z:CwL):Prop where
 b:offA G z.bA n
 t:TkOffs G z.tA z.tn z.tl
 r:RsOffs G z.rA z.rn z.rl
 o:offA G z.oA no
 k:offA G z.kA no
theorem TkNew.offs {L:List Tsk} {B:Nat} {w:World} {A:Option Addr} {n c:Nat} {l:List TkL} (h:TkNew L B w A n c l) {G:Nat} (hG:G < B):TkOffs G A n l:=⟨(own_over h.own.2.1).off hG,fun t ht=>(h.over t ht).off hG⟩
structure OneOff (G:Nat) (w w':World):Prop where
 size:w.heap.size≤w'.heap.size
 keep:∀ k,k≠G→k < w.heap.size→w'.heap[k]? = w.heap[k]?
 grown:w.grownBy w' (some G)
theorem OneOff.setRow (w:World) (G:Nat) (cs:Array Value):OneOff G w (w.setRow G cs):=
 ⟨by simp,fun k hk _=>setRow_other w G k cs hk,⟨rfl,rfl,rfl,by simp,fun k _ hk=>setRow_other w G k cs (fun e=>hk (by rw [e]))⟩⟩
theorem OneOff.setCell (w:World) (G i:Nat) (v:Value):OneOff G w (w.setCell ⟨G,i,none⟩ v):=
 ⟨by simp [World.setCell],fun k hk _=>Below.heap_setCell w ⟨G,i,none⟩ v k hk,⟨rfl,rfl,rfl,by simp [World.setCell],fun k _ hk=>Below.heap_setCell w ⟨G,i,none⟩ v k (fun e=>hk (by rw [e]))⟩⟩
theorem OneOff.setCells (w:World) (G o:Nat) (vs:List Value):OneOff G w (w.setCells G o vs):=
 ⟨by rw [size_setCells];exact Nat.le_refl _,fun k hk _=>heap_setCells vs o w k hk,⟨(misc_setCells vs o w).1,(misc_setCells vs o w).2.1,(misc_setCells vs o w).2.2,by rw [size_setCells];exact Nat.le_refl _,fun k _ hk=>heap_setCells vs o w k (fun e=>hk (by rw [e]))⟩⟩
theorem Ents.keepOff {w w':World} {A:Option Addr} {c n G:Nat} {l:List Ent} (h:Ents w A c l) (hl:l.length=n) (ho:offA G A n) (hk:OneOff G w w'):Ents w' A c l:=by
 unfold Ents at h ⊢
 rw [hl] at h ⊢
 exact h.offKeep ho hk.size hk.keep
theorem TkIs.keep {L:List Tsk} {w w':World} {A:Option Addr} {n c G:Nat} {l:List TkL} (h:TkIs L w A n c l) (ho:TkOffs G A n l) (hk:OneOff G w w'):TkIs L w' A n c l:=by
 obtain ⟨⟨h1,h2⟩,h3,h4,h5⟩:=h
 rw [h3] at h1
 exact ⟨⟨by rw [h3];exact h1.offKeep ho.1 hk.size hk.keep,fun t ht=>(h2 t ht).keep (ho.2 t ht) hk.size hk.keep⟩,h3,h4,h5⟩
theorem RsIs.keep {R:List Rst} {w w':World} {A:Option Addr} {n c G:Nat} {l:List RsL} (h:RsIs R w A n c l) (ho:RsOffs G A n l) (hk:OneOff G w w'):RsIs R w' A n c l:=by
 obtain ⟨⟨h1,h2⟩,h3,h4⟩:=h
 rw [h3] at h1
 exact ⟨⟨by rw [h3];exact h1.offKeep ho.1 hk.size hk.keep,fun x hx=>Sl.offKeep (h2 x hx) (ho.2 x hx) hk.size hk.keep⟩,h3,h4⟩
theorem MkIn.keep {w w':World} {G:Nat} {old:List Ent} {kept:List Bool} {oA:Option Addr} {no oc:Nat} {kA:Option Addr} {nk kc:Nat} (h:MkIn w old kept oA no oc kA nk kc) (h1:offA G oA no) (h2:offA G kA nk) (hk:OneOff G w w'):MkIn w' old kept oA no oc kA nk kc:=
 ⟨h.lo,h.lk,h.e8,h.so.offKeep h1 hk.size hk.keep,h.sk.offKeep h2 hk.size hk.keep⟩
theorem CwIs.keep {n no G:Nat} {X:Crw} {w w':World} {z:CwL} (h:CwIs n no X w z) (ho:CwOff G n no z) (hk:OneOff G w w') {t:TypeId} {cs:Array Value} (hb:Bk w G t cs) (h1:t≠136) (h2:t≠98):CwIs n no X w' z:=
 ⟨h.len,by have:=h.bs.offKeep ho.b hk.size hk.keep;unfold Ents;rw [h.len];exact this,h.e8,h.wt.turns hk.grown hb h1 h2,h.tk.keep ho.t hk,h.rs.keep ho.r hk,h.on,h.mark.keep ho.o ho.k hk⟩
theorem TkIs.off_ge {L:List Tsk} {w:World} {A:Option Addr} {n c:Nat} {l:List TkL} (h:TkIs L w A n c l) {G:Nat} (hG:w.heap.size≤G):TkOffs G A n l:=by
 have h1:=h.sl.1
 rw [h.len] at h1
 exact ⟨h1.off_ge hG,fun t ht=>(h.sl.2 t ht).off_ge hG⟩
theorem RsIs.off_ge {R:List Rst} {w:World} {A:Option Addr} {n c:Nat} {l:List RsL} (h:RsIs R w A n c l) {G:Nat} (hG:w.heap.size≤G):RsOffs G A n l:=by
 have h1:=h.sl.1
 rw [h.len] at h1
 exact ⟨h1.off_ge hG,fun x hx=>Sl.off_ge (h.sl.2 x hx) hG⟩
theorem CwIs.off_ge {n no:Nat} {X:Crw} {w:World} {z:CwL} (h:CwIs n no X w z) {G:Nat} (hG:w.heap.size≤G):CwOff G n no z:=
 ⟨h.bs.off_ge hG,h.tk.off_ge hG,h.rs.off_ge hG,h.mark.so.off_ge hG,h.mark.sk.off_ge hG⟩
def CwPost (n no:Nat) (H:Hd) (X:Crw) (z0:CwL) (w:World) (e:Ending) (w':World):Prop:=∃ z,e=.returned (.agg (cwA n no H z))∧CwIs n no X w' z∧Below w.heap.size w w'∧∀ G,G < w.heap.size→CwOff G n no z0→CwOff G n no z
def CwErr (n no:Nat) (H:Hd) (X:Crw) (z0:CwL) (r:Int) (w:World) (e:Ending) (w':World):Prop:=∃ z,e=.returned (.tuple #[.agg (cwA n no H z),.int .i64 r])∧CwIs n no X w' z∧Below w.heap.size w w'∧∀ G,G < w.heap.size→CwOff G n no z0→CwOff G n no z
def cwV (n no:Nat) (H:Hd) (X:Crw) (z0:CwL) (S:Nat):Says:=fun v w=>∃ z,v=.agg (cwA n no H z)∧CwIs n no X w z∧∀ G,G < S→CwOff G n no z0→CwOff G n no z
def WorkT (t:Tsk):Prop:=∃ d,depthsN t.cmd.code=.ok d∧MOk t.cmd d t.m t.own∧t.m.over=false∧t.m.fuel≤1000
structure CrOk (n:Nat) (X:Crw):Prop where
 cmds:goodL n X.tasks
 work:∀ t∈X.tasks,0≤t.worker→WorkT t
 rise:risesW (whoP X.tasks)
 few:X.tasks.length≤900
 many:X.results.length≤100000
 outs:fewR X.results
end
section
open Go.RowKit
structure StepOk (t:TkL):Prop where
 may:MayBe t.x.c
 fit:Fit t.x.c t.m t.own
 regs:(stepM t.x.c t.m t.own).1.regs.length=4
 cells:∀ b∈(stepM t.x.c t.m t.own).2,b.length=8
theorem cmIn_of {x:CmL} {w:World} (h:x.In w) (hm:MayBe x.c):CmIn w x.c x.ra x.nr x.rc x.wa x.nw x.wc x.aa x.na x.ac x.ca x.nc x.cc:=by
 obtain ⟨f1,f2,f3,f4⟩:=h.few hm
 exact ⟨h.lr,h.lw,h.la,h.lc,h.reads,h.writes,h.args,h.code,f1,f2,f3,f4⟩
def StepTk (t:TkL) (w:World) (e:Ending) (w':World):Prop:=
 ∃ sA sn sc oA on oc bA bn bc,e=.returned (.tuple #[mM (stepM t.x.c t.m t.own).1 sA sn sc oA on oc,.slice bA bn bc]) ∧
  TkL.In ({ t with m:=(stepM t.x.c t.m t.own).1,own:=(stepM t.x.c t.m t.own).2,sA:=sA,sn:=sn,sc:=sc,oA:=oA,on:=on,oc:=oc,bA:=bA,bn:=bn,bc:=bc }:TkL) w'∧Below w.heap.size w w'∧∀ G,G < w.heap.size→off3 G t.sA t.sn t.oA t.on t.bA t.bn→off3 G sA sn oA on bA bn
theorem stepTk_of {t:TkL} {w w':World} (h:t.In w) (hk:StepOk t) {sA:Option Addr} {sn sc:Nat} {oA:Option Addr} {on oc:Nat} {bA:Option Addr} {bn bc:Nat} (hM:MIn w' (stepM t.x.c t.m t.own).1.stack (stepM t.x.c t.m t.own).1.out (stepM t.x.c t.m t.own).2 sA sn sc oA on oc bA bn bc) (hb:Below w.heap.size w w') :
  TkL.In ({ t with m:=(stepM t.x.c t.m t.own).1,own:=(stepM t.x.c t.m t.own).2,sA:=sA,sn:=sn,sc:=sc,oA:=oA,on:=on,oc:=oc,bA:=bA,bn:=bn,bc:=bc }:TkL) w':=
 ⟨h.cmd.below hb,hM,hk.regs,(hM.lens hk.cells).2.2.symm,hk.cells⟩
theorem step_tk (t:TkL) (w:World) (h:t.In w) (hk:StepOk t) :
  Calls Tryz.prog 44 #[cmV t.x.ra t.x.nr t.x.rc t.x.wa t.x.nw t.x.wc t.x.aa t.x.na t.x.ac t.x.c.fuel t.x.ca t.x.nc t.x.cc,mM t.m t.sA t.sn t.sc t.oA t.on t.oc,.slice t.bA t.bn t.bc] w (StepTk t w):=
 (step_any t.x.ra t.x.nr t.x.rc t.x.wa t.x.nw t.x.wc t.x.aa t.x.na t.x.ac t.x.ca t.x.nc t.x.cc t.sA t.sn t.sc t.oA t.on t.oc t.bA t.bn t.bc t.x.c t.m t.own w hk.fit (cmIn_of h.cmd hk.may) h.mac).mono fun _ _ ⟨sA,sn,sc,oA,on,oc,bA,bn,bc,he,hM,hb,ho⟩=>
  ⟨sA,sn,sc,oA,on,oc,bA,bn,bc,he,stepTk_of h hk hM hb,hb,fun G hG _=>ho G hG⟩
theorem rstep_tk (t:TkL) (w:World) (h:t.In w) (hk:StepOk t) :
  Calls Tryz.prog 46 #[cmV t.x.ra t.x.nr t.x.rc t.x.wa t.x.nw t.x.wc t.x.aa t.x.na t.x.ac t.x.c.fuel t.x.ca t.x.nc t.x.cc,mM t.m t.sA t.sn t.sc t.oA t.on t.oc,.slice t.bA t.bn t.bc] w (StepTk t w):=
 (rstep_any t.x.ra t.x.nr t.x.rc t.x.wa t.x.nw t.x.wc t.x.aa t.x.na t.x.ac t.x.ca t.x.nc t.x.cc t.sA t.sn t.sc t.oA t.on t.oc t.bA t.bn t.bc t.x.c t.m t.own w hk.fit (cmIn_of h.cmd hk.may) h.mac).mono fun _ _ ⟨sA,sn,sc,oA,on,oc,bA,bn,bc,he,hM,hb,ho⟩=>
  ⟨sA,sn,sc,oA,on,oc,bA,bn,bc,he,stepTk_of h hk hM hb,hb,ho⟩
def LoadTk (l:List Ent) (t:TkL) (w:World) (e:Ending) (w':World):Prop:=
 ∃ bA bc,e=.returned (.slice bA (t.x.nr + t.x.nw) bc)∧TkL.In ({ t with own:=loadT l t.x.c,bA:=bA,bn:=t.x.nr + t.x.nw,bc:=bc }:TkL) w'∧Below w.heap.size w w'∧overA w.heap.size bA (t.x.nr + t.x.nw)
theorem loadTk_of {l:List Ent} {t:TkL} {w:World} (h:t.In w) (hl:(loadT l t.x.c).length=t.x.nr + t.x.nw) (h8:∀ b∈loadT l t.x.c,b.length=8) {e:Ending} {w':World} (hp:LoadPost l t.x.c (t.x.nr + t.x.nw) w e w'):LoadTk l t w e w':=by
 obtain ⟨A,k,he,ho,hb⟩:=hp
 exact ⟨A,k,he,⟨h.cmd.below hb,⟨(h.mac.below hb).st,(h.mac.below hb).ou,Sl.own' ho⟩,h.four,hl,h8⟩,hb,own_over ho⟩
theorem load_tk (l:List Ent) (lA:Option Addr) (ln lc:Nat) (t:TkL) (w:World) (h:t.In w) (hm:MayBe t.x.c) (hL:Ents w lA lc l) (h8:Eight l) (hf:fitsT t.x.c l.length) (hln:l.length=ln) (hl:(loadT l t.x.c).length=t.x.nr + t.x.nw) (ho:∀ b∈loadT l t.x.c,b.length=8) :
  Calls Tryz.prog 37 #[.slice lA ln lc,cmV t.x.ra t.x.nr t.x.rc t.x.wa t.x.nw t.x.wc t.x.aa t.x.na t.x.ac t.x.c.fuel t.x.ca t.x.nc t.x.cc] w (LoadTk l t w):=
 (load_any t.x.ra t.x.nr t.x.rc t.x.wa t.x.nw t.x.wc t.x.aa t.x.na t.x.ac t.x.ca t.x.nc t.x.cc t.x.c l lA ln lc w (cmIn_of h.cmd hm) hL h8 hm.sets hf hln).mono fun _ _ hp=>loadTk_of h hl ho hp
theorem rload_tk (l:List Ent) (lA:Option Addr) (ln lc:Nat) (t:TkL) (w:World) (h:t.In w) (hm:MayBe t.x.c) (hL:Ents w lA lc l) (h8:Eight l) (hf:fitsT t.x.c l.length) (hln:l.length=ln) (hl:(loadT l t.x.c).length=t.x.nr + t.x.nw) (ho:∀ b∈loadT l t.x.c,b.length=8) :
  Calls Tryz.prog 42 #[.slice lA ln lc,cmV t.x.ra t.x.nr t.x.rc t.x.wa t.x.nw t.x.wc t.x.aa t.x.na t.x.ac t.x.c.fuel t.x.ca t.x.nc t.x.cc] w (LoadTk l t w):=
 (rload_any t.x.ra t.x.nr t.x.rc t.x.wa t.x.nw t.x.wc t.x.aa t.x.na t.x.ac t.x.ca t.x.nc t.x.cc t.x.c l lA ln lc w (cmIn_of h.cmd hm) hL h8 hm.sets hf hln).mono fun _ _ hp=>loadTk_of h hl ho hp
end
section
open Go.RowKit
theorem stepOk_of {t:TkL} (hm:MayBe t.x.c) (hw:WorkT t.tsk):StepOk t:=by
 obtain ⟨d,hd,hok,-,hf⟩:=hw
 have hd':depthsN t.x.c.code=.ok d:=hd
 have hok':MOk t.x.c d t.m t.own:=hok
 have hs:=(step_ok hm hd' hok').1
 exact ⟨hm,fit_of hm hd' hok' hf,hs.regs,hs.cells⟩
theorem go_few {t u:TkL} {w:World} (hm:MayBe t.x.c) (hw:WorkT t.tsk) (hu:u.In w) (he:u.tsk=goT t.tsk):fewT u∧u.x.nr + u.x.nw=u.bn:=by
 obtain ⟨d,hd,hok,-,hf⟩:=hw
 have hd':depthsN t.x.c.code=.ok d:=hd
 have hok':MOk t.x.c d t.m t.own:=hok
 have hs:=(step_ok hm hd' hok').1
 obtain ⟨a1,a2,a3,a4,a5,a6,a7⟩:=hu.lens
 rw [he] at a1 a2 a3 a4 a5 a6 a7
 have b1:u.x.nr=t.x.c.reads.length:=a1
 have b2:u.x.nw=t.x.c.writes.length:=a2
 have b3:u.x.na=t.x.c.args.length:=a3
 have b4:u.x.nc=t.x.c.code.length:=a4
 have b5:u.sn=(stepM t.x.c t.m t.own).1.stack.length:=a5
 have b6:u.on=(stepM t.x.c t.m t.own).1.out.length:=a6
 have b7:u.bn=(stepM t.x.c t.m t.own).2.length:=a7
 obtain ⟨f1,f2,f3,f4,-⟩:=hm.few
 have h1:=hs.deep
 have h2:=hs.out
 have h3:=hs.many
 exact ⟨⟨by omega,by omega,by omega,by omega,by omega,by omega,by omega⟩,by omega⟩
theorem load_few {l:List Ent} {t u:TkL} {w:World} (hm:MayBe t.x.c) (hu:u.In w) (k:Int) (he:u.tsk={ t.tsk with worker:=k,own:=loadT l t.x.c }) (hi:t.m=newM t.x.c):fewT u:=by
 obtain ⟨a1,a2,a3,a4,a5,a6,a7⟩:=hu.lens
 rw [he] at a1 a2 a3 a4 a5 a6 a7
 have b1:u.x.nr=t.x.c.reads.length:=a1
 have b2:u.x.nw=t.x.c.writes.length:=a2
 have b3:u.x.na=t.x.c.args.length:=a3
 have b4:u.x.nc=t.x.c.code.length:=a4
 have b5:u.sn=t.m.stack.length:=a5
 have b6:u.on=t.m.out.length:=a6
 have b7:u.bn=(loadT l t.x.c).length:=a7
 rw [hi] at b5 b6
 have c5:u.sn=0:=b5
 have c6:u.on=0:=b6
 rw [load_length] at b7
 obtain ⟨f1,f2,f3,f4,-⟩:=hm.few
 exact ⟨by omega,by omega,by omega,by omega,by omega,by omega,by omega⟩
section
variable {cs:List Cmd} {b0:List Ent} {workers:Int} {X:Crw} {n:Nat}
theorem CInv.ok (h:CInv cs b0 workers X) (hcs:∀ c∈cs,MayBe c∧fitsT c b0.length) (hg:goodT b0) (hn:b0.length=n) (hl:cs.length≤900):CrOk n X:=by
 have hmany:=h.shape.many
 have hwl:(whoP X.tasks).length=X.tasks.length:=by unfold whoP;rw [List.length_map]
 refine ⟨fun T hT=>?_,fun T hT hw=>?_,h.shape.inc,by omega,by omega,fun r hr=>?_⟩
 ·obtain ⟨k,k1,-,k3,-⟩:=h.task hT
  rw [k3,← hn]
  exact hcs _ (cmAt_mem k1)
 ·obtain ⟨d,hd,hm,hok,hno⟩:=h.mok hcs hg hT hw
  obtain ⟨-,k,q,e1,e2,e3⟩:=h.runs T hT hw
  have hle:=stepsFuelLe (c:=T.cmd) (newM T.cmd,loadT (serT cs b0 k) T.cmd) q
  rw [e2] at hle
  have hle':T.m.fuel≤T.cmd.fuel:=hle
  obtain ⟨-,-,-,-,-,f6⟩:=hm.few
  exact ⟨d,hd,hok,hno,by omega⟩
 ·obtain ⟨k,k1,-,rfl⟩:=h.shape.res r hr
  obtain ⟨hm,hf⟩:=hcs _ (cmAt_mem k1)
  obtain ⟨d,hd⟩:=hm.depths
  have h8:=load_good (ser_good hcs hg k (by omega)) hm.sets (by rw [ser_length];exact hf)
  have:=steps_ok hm hd (r:=(newM (cmAt cs k),loadT (serT cs b0 k) (cmAt cs k))) (new_ok hm hd load_length h8) ((cmAt cs k).fuel.toNat + 1)
  have ho:=this.out
  show (wholeM (cmAt cs k) (loadT (serT cs b0 k) (cmAt cs k))).1.out.length≤1000
  unfold wholeM
  omega
end
def restX (n:Nat):Crw:=⟨List.replicate n entZ,[],[],⟨false,[],[]⟩⟩
def hd0:Hd:=⟨0,0,0,0,0,0⟩
abbrev fA:Nat→Int:=fun j=>1 + (j:Int)
theorem newG_all (l:List CmL):newG fA l l.length=addAll (l.map CmL.c):=by
 unfold newG addAll
 rw [List.length_map]
 refine List.map_congr_left fun j hj=>?_
 have hj:=List.mem_range.1 hj
 unfold newP cmAt
 rw [List.getElem?_map,List.getElem?_eq_getElem hj]
 simp only [Option.getD_some,Option.map_some]
 exact congrArg (fun s=>(⟨s,l[j].c,newM l[j].c,[],-1⟩:Tsk)) (Int.add_comm 1 (j:Int))
theorem whoP_newG (f:Nat→Int) (l:List CmL) (i:Nat):whoP (newG f l i)=whoG f l i:=by
 unfold whoP newG whoG
 rw [List.map_map]
 rfl
def addX (X:Crw) (f:Nat→Int) (l:List CmL) (i:Nat):Crw:={ X with tasks:=X.tasks ++ newG f l i }
theorem addX_zero (X:Crw) (f:Nat→Int) (l:List CmL):addX X f l 0=X:=by
 unfold addX newG
 simp
theorem goodT_new (n:Nat):goodT (List.replicate n entZ):=fun e he=>by rw [List.eq_of_mem_replicate he];rfl
end
section
open Go Go.RowKit
def startX (n:Nat) (cs:List Cmd):Crw:=⟨List.replicate n entZ,addAll cs,[],⟨false,[],[]⟩⟩
theorem start_is (n:Nat) (l:List CmL) {ln:Nat} (h:l.length=ln):addX (restX n) (fun j:Nat=>1 + (j:Int)) l ln=startX n (l.map CmL.c):=by
 subst h
 have:=newG_all l
 unfold addX startX restX
 simp only [List.nil_append]
 rw [← this]
theorem start_inv {n:Nat} {cs:List Cmd} {workers:Int} (hcs:∀ c∈cs,MayBe c∧fitsT c n) (hw:0≤workers):CInv cs (List.replicate n entZ) workers (startX n cs):=
 inv_start (fun c hc=>by rw [List.length_replicate];exact hcs c hc) hw _
def cmdA:Cmd:=⟨[],[0],[],7,[⟨1,5,0⟩,⟨5,0,0⟩,⟨17,0,0⟩]⟩
theorem cmdA_may:MayBe cmdA:=(check_zero cmdA).1 (by kernel_rfl)
theorem cmdA_fits:fitsT cmdA 1:=by unfold fitsT cmdA;simp
abbrev csA:List Cmd:=[cmdA,cmdA]
theorem csA_right:∀ c∈csA,MayBe c∧fitsT c 1:=fun c hc=>by
 simp only [List.mem_cons,List.not_mem_nil,or_false] at hc
 rcases hc with rfl | rfl <;> exact ⟨cmdA_may,cmdA_fits⟩
def awP:Crw:=startX 1 csA
def awS:Nat→Crw
 | 0=>(pickC awP 2 0 1).1
 | k + 1=>(stepC (awS k) 2 0).1
theorem aw_p1:(pickC awP 2 0 2).2=16:=by kernel_rfl
theorem aw_p2:(pickC awP 2 2 1).2=1:=by kernel_rfl
theorem aw_s1:(stepC awP 2 0).2=16:=by kernel_rfl
theorem aw_p3:(pickC awP 2 0 1).2=0:=by kernel_rfl
theorem aw_p4:(pickC (awS 0) 2 0 2).2=15:=by kernel_rfl
theorem aw_st:∀ k,k < 3→(stepC (awS k) 2 0).2=0
 | 0,_=>by kernel_rfl
 | 1,_=>by kernel_rfl
 | 2,_=>by kernel_rfl
 | k + 3,h=>absurd h (by omega)
theorem aw_p5:(pickC (awS 3) 2 1 2).2=0:=by kernel_rfl
theorem aw_t:(awS 3).tasks.length=1:=by kernel_rfl
theorem aw_r:((awS 3).results.map fun r=>r.seq)=[1]:=by kernel_rfl
theorem aw_b:(awS 3).blocks=[⟨[5,0,0,0,0,0,0,0],1⟩]:=by kernel_rfl
theorem awP_inv:CInv csA (List.replicate 1 entZ) 2 awP:=start_inv csA_right (by decide)
theorem awS_inv:∀ k,k≤3→CInv csA (List.replicate 1 entZ) 2 (awS k)
 | 0,_=>awP_inv.pick csA_right aw_p3
 | k + 1,h=>(awS_inv k (by omega)).step csA_right (goodT_new 1) (aw_st k (by omega))
theorem awP_ok:CrOk 1 awP:=awP_inv.ok csA_right (goodT_new 1) rfl (by decide)
theorem awS_ok (k:Nat) (h:k≤3):CrOk 1 (awS k):=(awS_inv k h).ok csA_right (goodT_new 1) rfl (by decide)
end
section
open Go Go.RowKit
def IsO (L:List Tsk) (n:Nat) (P:Nat→Prop) (w:World) (e:Ending) (w':World):Prop:=∃ A c l,e=.returned (.slice A n c)∧TkIs L w' A n c l∧Below w.heap.size w w'∧∀ G,G < w.heap.size→P G→TkOffs G A n l
theorem TpN.iso {L:List Tsk} {n:Nat} {w w':World} {e:Ending} (h:TpN L n w e w') (P:Nat→Prop):IsO L n P w e w':=by
 obtain ⟨A,c,l,he,hO,hb⟩:=h
 exact ⟨A,c,l,he,hO.is,hb,fun G hG _=>hO.offs hG⟩
theorem TkPost.iso {l:List TkL} {n:Nat} {w w':World} {e:Ending} (h:TkPost l w e w') (hn:l.length=n) (hf:∀ t∈l,fewT t) {P:Nat→Prop} (hP:∀ G,P G→∀ t∈l,t.Off G):IsO (l.map TkL.tsk) n P w e w':=by
 obtain ⟨A,m,c,he,hO,hb⟩:=h
 obtain rfl:m=n:=by rw [← hn];exact hO.1.symm
 exact ⟨A,c,l,he,⟨hO.sl,hO.1,rfl,hf⟩,hb,fun G hG hp=>⟨(own_over hO.2.1).off hG,hP G hp⟩⟩
section
variable (L:List Tsk) (l:List TkL) (A:Option Addr) (n c:Nat) (w:World)
theorem padd_off (x:CmL) (s:Int) (h:TkIs L w A n c l) (hn:n≤999) (hx:x.In w) (hf:fewC x):Calls Tryz.prog 26 #[.slice A n c,cmV x.ra x.nr x.rc x.wa x.nw x.wc x.aa x.na x.ac x.c.fuel x.ca x.nc x.cc,.int .i64 s] w (IsO (L ++ [newP s x.c]) (n + 1) (fun G=>TkOffs G A n l∧x.Off G) w):=
 (padd_is L l A n c w x s h hn hx hf).mono fun _ _ hp=>hp.iso _
theorem radd_off (x:CmL) (s:Int) (h:TkIs L w A n c l) (hn:n≤999) (hx:x.In w) (hf:fewC x):Calls Tryz.prog 28 #[.slice A n c,cmV x.ra x.nr x.rc x.wa x.nw x.wc x.aa x.na x.ac x.c.fuel x.ca x.nc x.cc,.int .i64 s] w (IsO (L ++ [newP s x.c]) (n + 1) (fun G=>TkOffs G A n l∧x.Off G) w):=by
 refine (radd16_any l A n c x s w h.sl h.len hx (by omega)).mono fun e w' hp=>?_
 have:=hp.iso (n:=n + 1) (by rw [List.length_append,h.len];rfl) (fun t ht=>by
  rcases List.mem_append.1 ht with q | q
  ·exact h.few t q
  ·rw [List.mem_singleton.1 q];exact ⟨hf.1,hf.2.1,hf.2.2.1,hf.2.2.2,Nat.zero_le _,Nat.zero_le _,Nat.zero_le _⟩) (P:=fun G=>TkOffs G A n l∧x.Off G) (fun G hG t ht=>by
  rcases List.mem_append.1 ht with q | q
  ·exact hG.1.2 t q
  ·rw [List.mem_singleton.1 q];exact ⟨hG.2,fun h0=>absurd h0 (Nat.lt_irrefl 0),fun h0=>absurd h0 (Nat.lt_irrefl 0),fun h0=>absurd h0 (Nat.lt_irrefl 0)⟩)
 rwa [List.map_append,h.map] at this
theorem pwith_off (i:Nat) (t:TkL) (h:TkIs L w A n c l) (hi:i < n) (hn:n≤1000) (ht:t.In w) (hf:fewT t):Calls Tryz.prog 38 #[.slice A n c,.int .i64 (i:Int),.agg (tkA t)] w (IsO (L.set i t.tsk) n (fun G=>TkOffs G A n l∧t.Off G) w):=
 (pwith_is L l A n c w i t h hi hn ht hf).mono fun _ _ hp=>hp.iso _
theorem rwith_off (i:Nat) (t:TkL) (h:TkIs L w A n c l) (hi:i < n) (hn:n≤1000) (ht:t.In w) (hf:fewT t):Calls Tryz.prog 43 #[.slice A n c,.int .i64 (i:Int),.agg (tkA t)] w (IsO (L.set i t.tsk) n (fun G=>TkOffs G A n l∧t.Off G) w):=by
 refine (rwith16_any l A n c i t w h.sl h.len hi (by omega) ht).mono fun e w' hp=>?_
 have:=hp.iso (n:=n) (by rw [List.length_set,h.len]) (fun t ht=>by
  rcases List.mem_or_eq_of_mem_set ht with q | q
  ·exact h.few t q
  ·rw [q];exact hf) (P:=fun G=>TkOffs G A n l∧t.Off G) (fun G hG u hu=>by
  rcases List.mem_or_eq_of_mem_set hu with q | q
  ·exact hG.1.2 u q
  ·rw [q];exact hG.2)
 rwa [List.map_set,h.map] at this
theorem pwithout_off (i:Nat) (h:TkIs L w A n c l) (hi:i < n) (hn:n≤1000):Calls Tryz.prog 86 #[.slice A n c,.int .i64 (i:Int)] w (IsO (withoutP L i) (n - 1) (fun G=>TkOffs G A n l) w):=
 (pwithout_is L l A n c w i h hi hn).mono fun _ _ hp=>hp.iso _
theorem rwithout_off (i:Nat) (h:TkIs L w A n c l) (hi:i < n) (hn:n≤1000):Calls Tryz.prog 94 #[.slice A n c,.int .i64 (i:Int)] w (IsO (withoutP L i) (n - 1) (fun G=>TkOffs G A n l) w):=by
 refine (rwithout16_any l A n c i w h.sl h.len hi hn).mono fun e w' hp=>?_
 have hm:∀ t,t∈lessT l i→t∈l:=fun t ht=>by
  rcases List.mem_append.1 ht with q | q
  ·exact List.mem_of_mem_take q
  ·exact List.mem_of_mem_drop q
 have:=hp.iso (n:=n - 1) (by rw [lessT_length (by rw [h.len];exact hi),h.len]) (fun t ht=>h.few t (hm t ht)) (P:=fun G=>TkOffs G A n l) (fun G hG t ht=>hG.2 t (hm t ht))
 unfold lessT at this
 rwa [List.map_append,List.map_take,List.map_drop,h.map] at this
end
end
section
open Go.RowKit
theorem infoCrw:(Tryz.prog.info? 34).map (·.size)=some 13:=by kernel_rfl
theorem infoMk9:(Tryz.prog.info? 32).map (·.size)=some 9:=by kernel_rfl
abbrev cwZ:Array Value:=#[.slice none 0 0,.slice none 0 0,.slice none 0 0,.slice none 0 0,.bool false,.int .i64 0,.int .i64 0,.int .i64 0,.int .i64 0,.int .i64 0,.int .i64 0,.slice none 0 0,.slice none 0 0]
theorem cwA_one (n no:Nat) (H:Hd) (z:CwL):(cwA n no H z).all (·.oneCell')=true:=by simp [Value.oneCell']
theorem mkA_one (on:Bool) (a1 a2 a3 a4 a5 a6:Int) (oA:Option Addr) (no oc:Nat) (kA:Option Addr) (nk kc:Nat):(mkC on a1 a2 a3 a4 a5 a6 (.slice oA no oc) (.slice kA nk kc)).all (·.oneCell')=true:=by simp [Value.oneCell']
abbrev mkOf (no:Nat) (H:Hd) (z:CwL):Array Value:=mkC z.on H.a1 H.a2 H.a3 H.a4 H.a5 H.a6 (.slice z.oA no z.oc) (.slice z.kA no z.kc)
section
variable {w:World} {g:Nat} {ty:TypeId}
theorem Bk.crew {n no:Nat} {H:Hd} {z:CwL} (h:Bk w g ty (cwA n no H z)) :
  w.cell? ⟨g,0,none⟩=some (.slice z.bA n z.bc)∧w.cell? ⟨g,1,none⟩=some (.slice z.wA n z.wc)∧w.cell? ⟨g,2,none⟩=some (.slice z.tA z.tn z.tc)∧w.cell? ⟨g,3,none⟩=some (.slice z.rA z.rn z.rc)∧g < w.heap.size∧∀ o,w.frozen? ⟨g,o,none⟩=false:=
 ⟨h.cell 0,h.cell 1,h.cell 2,h.cell 3,h.lt,fun o=>h.frozen o⟩
theorem Bk.cmark {n no:Nat} {H:Hd} {z:CwL} (h:Bk w g ty (cwA n no H z)):w.rangeAt g 4 (mkOf no H z).toList:=fun j v hv=>by
 have hj:j < 9:=by
  rcases Nat.lt_or_ge j 9 with q | q
  ·exact q
  ·rw [List.getElem?_eq_none (by exact q)] at hv;cases hv
 rw [h.cell,← hv]
 rcases (show j=0∨j=1∨j=2∨j=3∨j=4∨j=5∨j=6∨j=7∨j=8 by omega) with e | e | e | e | e | e | e | e | e <;> subst e <;> rfl
theorem Bk.tskv {t:TkL} (h:Bk w g ty (tkA t)) :
  w.cell? ⟨g,0,none⟩=some (.int .i64 t.s)∧w.cell? ⟨g,2,none⟩=some (.slice t.x.wa t.x.nw t.x.wc)∧w.cell? ⟨g,14,none⟩=some (.bool t.m.over)∧w.cell? ⟨g,15,none⟩=some (.int .i64 t.m.told)∧w.cell? ⟨g,16,none⟩=some (.slice t.bA t.bn t.bc)∧w.cell? ⟨g,17,none⟩=some (.int .i64 t.wk)∧g < w.heap.size∧∀ o,w.frozen? ⟨g,o,none⟩=false:=
 ⟨h.cell 0,h.cell 2,h.cell 14,h.cell 15,h.cell 16,h.cell 17,h.lt,fun o=>h.frozen o⟩
theorem Bk.tcmd {t:TkL} (h:Bk w g ty (tkA t)):w.rangeAt g 1 (cmlC t.x):=fun j v hv=>by
 have hj:j < 5:=by
  rcases Nat.lt_or_ge j 5 with q | q
  ·exact q
  ·rw [List.getElem?_eq_none (by exact q)] at hv;cases hv
 rw [h.cell,← hv]
 rcases (show j=0∨j=1∨j=2∨j=3∨j=4 by omega) with e | e | e | e | e <;> subst e <;> rfl
theorem Bk.tmac {t:TkL} (h:Bk w g ty (tkA t)):w.rangeAt g 6 (mC t.m.pc t.m.fuel (.slice t.sA t.sn t.sc) (rg t.m.regs 0) (rg t.m.regs 1) (rg t.m.regs 2) (rg t.m.regs 3) (.slice t.oA t.on t.oc) t.m.over t.m.told).toList:=fun j v hv=>by
 have hj:j < 10:=by
  rcases Nat.lt_or_ge j 10 with q | q
  ·exact q
  ·rw [List.getElem?_eq_none (by exact q)] at hv;cases hv
 rw [h.cell,← hv]
 rcases (show j=0∨j=1∨j=2∨j=3∨j=4∨j=5∨j=6∨j=7∨j=8∨j=9 by omega) with e | e | e | e | e | e | e | e | e | e <;> subst e <;> rfl
theorem Bk.cB {n no:Nat} {H:Hd} {z:CwL} (h:Bk w g ty (cwA n no H z)) (A:Option Addr) (c:Nat):Bk (w.setCell ⟨g,0,none⟩ (.slice A n c)) g ty (cwA n no H { z with bA:=A,bc:=c }):=h.set 0 (.slice A n c)
theorem Bk.cW {n no:Nat} {H:Hd} {z:CwL} (h:Bk w g ty (cwA n no H z)) (A:Option Addr) (c:Nat):Bk (w.setCell ⟨g,1,none⟩ (.slice A n c)) g ty (cwA n no H { z with wA:=A,wc:=c }):=h.set 1 (.slice A n c)
theorem Bk.cT {n no:Nat} {H:Hd} {z:CwL} (h:Bk w g ty (cwA n no H z)) (A:Option Addr) (m c:Nat) (l:List TkL):Bk (w.setCell ⟨g,2,none⟩ (.slice A m c)) g ty (cwA n no H { z with tA:=A,tn:=m,tc:=c,tl:=l }):=h.set 2 (.slice A m c)
theorem Bk.cR {n no:Nat} {H:Hd} {z:CwL} (h:Bk w g ty (cwA n no H z)) (A:Option Addr) (m c:Nat) (l:List RsL):Bk (w.setCell ⟨g,3,none⟩ (.slice A m c)) g ty (cwA n no H { z with rA:=A,rn:=m,rc:=c,rl:=l }):=h.set 3 (.slice A m c)
theorem Bk.cM {n no:Nat} {H:Hd} {z:CwL} (h:Bk w g ty (cwA n no H z)) (on:Bool) (oA:Option Addr) (oc:Nat) (kA:Option Addr) (kc:Nat) :
  Bk (w.setCells g 4 (mkC on H.a1 H.a2 H.a3 H.a4 H.a5 H.a6 (.slice oA no oc) (.slice kA no kc)).toList) g ty (cwA n no H { z with on:=on,oA:=oA,oc:=oc,kA:=kA,kc:=kc }):=by
 have:=((((((((h.set 4 (.bool on)).set 5 (.int .i64 H.a1)).set 6 (.int .i64 H.a2)).set 7 (.int .i64 H.a3)).set 8 (.int .i64 H.a4)).set 9 (.int .i64 H.a5)).set 10 (.int .i64 H.a6)).set 11 (.slice oA no oc)).set 12 (.slice kA no kc)
 simp only [List.setIfInBounds_toArray,List.set_cons_zero,List.set_cons_succ] at this
 exact this
theorem Bk.tM {t:TkL} (h:Bk w g ty (tkA t)) (m:Mac) (sA:Option Addr) (sn sc:Nat) (oA:Option Addr) (on oc:Nat) :
  Bk (w.setCells g 6 (mC m.pc m.fuel (.slice sA sn sc) (rg m.regs 0) (rg m.regs 1) (rg m.regs 2) (rg m.regs 3) (.slice oA on oc) m.over m.told).toList) g ty (tkA { t with m:=m,sA:=sA,sn:=sn,sc:=sc,oA:=oA,on:=on,oc:=oc }):=by
 have:=(((((((((h.set 6 (.int .i64 m.pc)).set 7 (.int .i64 m.fuel)).set 8 (.slice sA sn sc)).set 9 (.int .i64 (rg m.regs 0))).set 10 (.int .i64 (rg m.regs 1))).set 11 (.int .i64 (rg m.regs 2))).set 12 (.int .i64 (rg m.regs 3))).set 13 (.slice oA on oc)).set 14 (.bool m.over)).set 15 (.int .i64 m.told)
 simp only [List.setIfInBounds_toArray,List.set_cons_zero,List.set_cons_succ] at this
 exact this
theorem Bk.tO {t:TkL} (h:Bk w g ty (tkA t)) (own:Blks) (A:Option Addr) (m c:Nat):Bk (w.setCell ⟨g,16,none⟩ (.slice A m c)) g ty (tkA { t with own:=own,bA:=A,bn:=m,bc:=c }):=h.set 16 (.slice A m c)
theorem Bk.tK {t:TkL} (h:Bk w g ty (tkA t)) (k:Int):Bk (w.setCell ⟨g,17,none⟩ (.int .i64 k)) g ty (tkA { t with wk:=k }):=h.set 17 (.int .i64 k)
end
section
variable {ops:Array Oper} {rest:List Oper} {o:Oper} {a:Act} {w:World} {Q:Exit→Act→World→Prop}
theorem ld_cw (g:Nat) {n no:Nat} {H:Hd} {z:CwL} (hk:Bk w g 34 (cwA n no H z)) (x:Operand) (hgd:o.guard=none) (ho:o.op=.load 34 x) (hx:a.eval x=.pointer (some ⟨g,0,none⟩))
  (h:wpList Tryz.prog ops Q rest (a.put o.dst (.agg (cwA n no H z))) w):wpList Tryz.prog ops Q (o :: rest) a w:=
 wpList_load_row hgd _ x ho g hx _ _ (0,0) _ hk Tryz.underlying34 rfl infoCrw h
theorem st_cw (g:Nat) {cs:Array Value} (hk:Bk w g 34 cs) (hs:cs.size=13) (n no:Nat) (H:Hd) (z:CwL) (x y:Operand) (hgd:o.guard=none) (ho:o.op=.store 34 x y) (hx:a.eval x=.pointer (some ⟨g,0,none⟩)) (hy:a.eval y=.agg (cwA n no H z))
  (h:wpList Tryz.prog ops Q rest (a.put o.dst undef) (w.setRow g (cwA n no H z))):wpList Tryz.prog ops Q (o :: rest) a w:=
 wpList_store_row hgd _ x y ho g _ hx hy _ _ hk infoCrw hs (cwA_one n no H z) h
theorem ld_cmk (g:Nat) {n no:Nat} {H:Hd} {z:CwL} (hk:Bk w g 34 (cwA n no H z)) (x:Operand) (hgd:o.guard=none) (ho:o.op=.load 32 x) (hx:a.eval x=.pointer (some ⟨g,4,none⟩))
  (h:wpList Tryz.prog ops Q rest (a.put o.dst (.agg (mkOf no H z))) w):wpList Tryz.prog ops Q (o :: rest) a w:=
 wpList_load_mid hgd _ x ho g 4 hx _ _ hk.cmark Tryz.underlying32 rfl infoMk9 h
theorem st_cmk (g:Nat) {n no:Nat} {H:Hd} {z:CwL} (hk:Bk w g 34 (cwA n no H z)) (on:Bool) (oA:Option Addr) (oc:Nat) (kA:Option Addr) (kc:Nat) (x y:Operand) (hgd:o.guard=none) (ho:o.op=.store 32 x y) (hx:a.eval x=.pointer (some ⟨g,4,none⟩)) (hy:a.eval y=.agg (mkC on H.a1 H.a2 H.a3 H.a4 H.a5 H.a6 (.slice oA no oc) (.slice kA no kc)))
  (h:wpList Tryz.prog ops Q rest (a.put o.dst undef) (w.setCells g 4 (mkC on H.a1 H.a2 H.a3 H.a4 H.a5 H.a6 (.slice oA no oc) (.slice kA no kc)).toList)):wpList Tryz.prog ops Q (o :: rest) a w:=
 wpList_store_mid hgd _ x y ho g 4 _ hx hy (hk.there (by show 4 + 9≤13;decide)) infoMk9 (mkA_one on H.a1 H.a2 H.a3 H.a4 H.a5 H.a6 oA no oc kA no kc) h
theorem ld_tcmd (g:Nat) {t:TkL} (hk:Bk w g 67 (tkA t)) (x:Operand) (hgd:o.guard=none) (ho:o.op=.load 56 x) (hx:a.eval x=.pointer (some ⟨g,1,none⟩))
  (h:wpList Tryz.prog ops Q rest (a.put o.dst (.agg #[.slice t.x.ra t.x.nr t.x.rc,.slice t.x.wa t.x.nw t.x.wc,.slice t.x.aa t.x.na t.x.ac,.int .i64 t.x.c.fuel,.slice t.x.ca t.x.nc t.x.cc])) w):wpList Tryz.prog ops Q (o :: rest) a w:=
 wpList_load_mid hgd _ x ho g 1 hx _ _ hk.tcmd Tryz.underlying56 rfl infoCm5 h
theorem ld_tmac (g:Nat) {t:TkL} (hk:Bk w g 67 (tkA t)) (x:Operand) (hgd:o.guard=none) (ho:o.op=.load 64 x) (hx:a.eval x=.pointer (some ⟨g,6,none⟩))
  (h:wpList Tryz.prog ops Q rest (a.put o.dst (.agg (mC t.m.pc t.m.fuel (.slice t.sA t.sn t.sc) (rg t.m.regs 0) (rg t.m.regs 1) (rg t.m.regs 2) (rg t.m.regs 3) (.slice t.oA t.on t.oc) t.m.over t.m.told))) w):wpList Tryz.prog ops Q (o :: rest) a w:=
 wpList_load_mid hgd _ x ho g 6 hx _ _ hk.tmac Tryz.underlying64 rfl infoMc h
theorem mC_one (pc fuel:Int) (sA:Option Addr) (sn sc:Nat) (r0 r1 r2 r3:Int) (oA:Option Addr) (on oc:Nat) (ov:Bool) (e0:Int):(mC pc fuel (.slice sA sn sc) r0 r1 r2 r3 (.slice oA on oc) ov e0).all (·.oneCell')=true:=by simp [Value.oneCell']
theorem st_tmac (g:Nat) {t:TkL} (hk:Bk w g 67 (tkA t)) (m:Mac) (sA:Option Addr) (sn sc:Nat) (oA:Option Addr) (on oc:Nat) (x y:Operand) (hgd:o.guard=none) (ho:o.op=.store 64 x y) (hx:a.eval x=.pointer (some ⟨g,6,none⟩)) (hy:a.eval y=.agg (mC m.pc m.fuel (.slice sA sn sc) (rg m.regs 0) (rg m.regs 1) (rg m.regs 2) (rg m.regs 3) (.slice oA on oc) m.over m.told))
  (h:wpList Tryz.prog ops Q rest (a.put o.dst undef) (w.setCells g 6 (mC m.pc m.fuel (.slice sA sn sc) (rg m.regs 0) (rg m.regs 1) (rg m.regs 2) (rg m.regs 3) (.slice oA on oc) m.over m.told).toList)):wpList Tryz.prog ops Q (o :: rest) a w:=
 wpList_store_mid hgd _ x y ho g 6 _ hx hy (hk.there (by show 6 + 10≤18;decide)) infoMc (mC_one _ _ _ _ _ _ _ _ _ _ _ _ _ _) h
end
theorem res_cw {fn:Func} {p:Tmp} (h:fn.results = #[.cell p 34]) (tmps:Array Value) (w:World) (g:Nat) {n no:Nat} {H:Hd} {z:CwL} (hp:tmps.getD p undef=.pointer (some ⟨g,0,none⟩)) (hg:Bk w g 34 (cwA n no H z)):(results fn tmps).run Tryz.prog w=.ok (.agg (cwA n no H z)) w:=
 results_cell_row h tmps w g _ _ (0,0) _ hp hg Tryz.underlying34 rfl infoCrw
theorem res2_cw {fn:Func} {p q:Tmp} (hf:fn.results = #[.cell p 34,.tmp q]) (tmps:Array Value) (w:World) (g:Nat) {n no:Nat} {H:Hd} {z:CwL} (x:Value)
  (hp:tmps.getD p undef=.pointer (some ⟨g,0,none⟩)) (hq:tmps.getD q undef=x) (hk:Bk w g 34 (cwA n no H z)):(results fn tmps).run Tryz.prog w=.ok (.tuple #[.agg (cwA n no H z),x]) w:=by
 have hp':tmps[p]?.getD undef=.pointer (some ⟨g,0,none⟩):=by simpa using hp
 have hq':tmps[q]?.getD undef=x:=by simpa using hq
 have hl:=run_loadVar_row w g 34 34 _ (0,0) _ hk Tryz.underlying34 rfl infoCrw
 simp [results,hf,hp',hq',asAddr,hl]
theorem cwW_is (n no:Nat) (H:Hd) (z:CwL) (w:World) :
  Below w.heap.size w ((w.alloc (.cells (cwA n no H z) 34)).alloc (.cells cwZ 34))∧Bk ((w.alloc (.cells (cwA n no H z) 34)).alloc (.cells cwZ 34)) w.heap.size 34 (cwA n no H z)∧Bk ((w.alloc (.cells (cwA n no H z) 34)).alloc (.cells cwZ 34)) (w.heap.size + 1) 34 cwZ:=by
 refine ⟨bnext (below_alloc1 _ _) (below_alloc1 _ _),(Bk.new w _ _).alloc _,?_⟩
 have:=Bk.new (w.alloc (.cells (cwA n no H z) 34)) 34 cwZ
 rwa [World.size_alloc] at this
end
section
open Go.RowKit
section
variable {X:Crw} {workers worker seq:Int}
theorem pickC_arg (h:¬ (0≤worker∧worker < workers)):pickC X workers worker seq=(X,1):=by
 unfold pickC
 rw [if_pos (by omega)]
theorem pickC_busy (h:0≤worker∧worker < workers) {j:Nat} (ho:ofP X.tasks worker=some j):pickC X workers worker seq=(X,15):=by
 unfold pickC
 rw [if_neg (by omega),ho]
 rfl
theorem pickC_find (h:0≤worker∧worker < workers) (ho:ofP X.tasks worker=none) (hf:findP X.tasks seq=none):pickC X workers worker seq=(X,16):=by
 unfold pickC
 rw [if_neg (by omega),ho,hf]
 rfl
theorem pickC_has (h:0≤worker∧worker < workers) (ho:ofP X.tasks worker=none) {i:Nat} (hf:findP X.tasks seq=some i) (hw:0≤(tskAt X.tasks i).worker∨readyB (whoP X.tasks) seq (tskAt X.tasks i).cmd=false):pickC X workers worker seq=(X,16):=by
 unfold pickC
 rw [if_neg (by omega),ho,hf]
 simp only [Option.isSome_none]
 rw [if_neg (by decide),if_pos hw]
theorem pickC_yes (h:0≤worker∧worker < workers) (ho:ofP X.tasks worker=none) {i:Nat} (hf:findP X.tasks seq=some i) (hw:(tskAt X.tasks i).worker < 0) (hr:readyB (whoP X.tasks) seq (tskAt X.tasks i).cmd=true):pickC X workers worker seq=({ X with tasks:=X.tasks.set i { tskAt X.tasks i with worker:=worker,own:=loadT X.blocks (tskAt X.tasks i).cmd } },0):=by
 unfold pickC
 rw [if_neg (by omega),ho,hf]
 simp only [Option.isSome_none]
 rw [if_neg (by decide),if_neg]
 rintro (q | q)
 ·omega
 ·rw [hr] at q
  cases q
theorem stepC_arg (h:¬ (0≤worker∧worker < workers)):stepC X workers worker=(X,1):=by
 unfold stepC
 rw [if_pos (by omega)]
theorem stepC_none (h:0≤worker∧worker < workers) (ho:ofP X.tasks worker=none):stepC X workers worker=(X,16):=by
 unfold stepC
 rw [if_neg (by omega),ho]
theorem stepC_over (h:0≤worker∧worker < workers) {i:Nat} (ho:ofP X.tasks worker=some i) (hv:(goT (tskAt X.tasks i)).m.over=true):stepC X workers worker=(endC { X with tasks:=X.tasks.set i (goT (tskAt X.tasks i)) } (goT (tskAt X.tasks i)) i,0):=by
 unfold stepC
 rw [if_neg (by omega),ho]
 simp only
 rw [if_pos hv]
theorem stepC_on (h:0≤worker∧worker < workers) {i:Nat} (ho:ofP X.tasks worker=some i) (hv:(goT (tskAt X.tasks i)).m.over=false):stepC X workers worker=({ X with tasks:=X.tasks.set i (goT (tskAt X.tasks i)) },0):=by
 unfold stepC
 rw [if_neg (by omega),ho]
 simp only
 rw [if_neg (by rw [hv];decide)]
end
theorem wk_none {L:List Tsk} {k:Int} (h:ofP L k=none):idxP (wkP k) L=-1:=by
 have:=idx_of L k
 rw [h] at this
 exact this
theorem wk_some {L:List Tsk} {k:Int} {i:Nat} (h:ofP L k=some i):idxP (wkP k) L=i:=by
 have:=idx_of L k
 rw [h] at this
 exact this
theorem seq_none {L:List Tsk} {s:Int} (h:findP L s=none):idxP (seqP s) L=-1:=by
 have:=idx_find L s
 rw [h] at this
 exact this
theorem seq_some {L:List Tsk} {s:Int} {i:Nat} (h:findP L s=some i):idxP (seqP s) L=i:=by
 have:=idx_find L s
 rw [h] at this
 exact this
theorem tk_is {L:List Tsk} {w:World} {A:Option Addr} {n c:Nat} {l:List TkL} (h:TkIs L w A n c l) {i:Nat} (hi:i < L.length):∃ t,l[i]? = some t∧t.tsk=tskAt L i∧t.In w∧fewT t:=by
 obtain ⟨t,ht⟩:=tk_at (l:=l) (i:=i) (by rw [h.says.len];exact hi)
 refine ⟨t,ht,?_,h.sl.2 t (List.mem_of_getElem? ht),h.few t (List.mem_of_getElem? ht)⟩
 have:=h.says.at ht
 rw [tskAt_lt hi] at this
 injection this with this
 exact this.symm
theorem whoP_len (L:List Tsk):(whoP L).length=L.length:=by simp [whoP]
theorem CwIs.withT {n no:Nat} {X:Crw} {w:World} {z:CwL} (h:CwIs n no X w z) {WF:World} (BF:Below w.heap.size w WF) {L:List Tsk} {A:Option Addr} {m c:Nat} {l:List TkL} (hT:TkIs L WF A m c l) (hw:whoP L=whoP X.tasks):CwIs n no { X with tasks:=L } WF { z with tA:=A,tn:=m,tc:=c,tl:=l }:=by
 refine ⟨h.len,h.bl.below BF,h.e8,?_,hT,h.rs.below BF,h.on,h.mark.below BF⟩
 show LkOwn 0 WF z.wA n z.wc (lksW (whoP L) n)
 rw [hw]
 exact h.wt.below BF
end
section
open Go.RowKit
def EntSay (l:List Ent) (n:Nat) (w:World) (e:Ending) (w':World):Prop:=
 ∃ A k,e=.returned (.slice A n k)∧Ents w' A k l∧Below w.heap.size w w'∧overA w.heap.size A n
theorem entSay_of {l:List Ent} {n:Nat} {w w':World} {e:Ending} (hl:l.length=n) (hp:StorePost l n w e w'):EntSay l n w e w':=by
 obtain ⟨A,k,he,ho,hb⟩:=hp
 exact ⟨A,k,he,by unfold Ents;rw [hl];exact Sl.own' ho,hb,own_over ho⟩
theorem store_tk (l:List Ent) (lA:Option Addr) (ln lc:Nat) (t:TkL) (seq:Int) (w:World) (h:t.In w) (hm:MayBe t.x.c) (hL:Ents w lA lc l) (h8:Eight l) (hf:fitsT t.x.c l.length) (hln:l.length=ln) (hle:t.x.nr + t.x.nw≤t.bn) (hlz:ln≤1000) (hbz:t.bn≤1099511627776) :
  Calls Tryz.prog 115 #[.slice lA ln lc,cmV t.x.ra t.x.nr t.x.rc t.x.wa t.x.nw t.x.wc t.x.aa t.x.na t.x.ac t.x.c.fuel t.x.ca t.x.nc t.x.cc,.slice t.bA t.bn t.bc,.int .i64 seq] w (EntSay (storeT l t.x.c t.own seq) ln w):=
 (store_any t.x.ra t.x.nr t.x.rc t.x.wa t.x.nw t.x.wc t.x.aa t.x.na t.x.ac t.x.ca t.x.nc t.x.cc t.x.c l lA ln lc t.own t.bA t.bn t.bc seq w (cmIn_of h.cmd hm) hL h8 hm.sets hf hln h.mac.bk h.own h.eight hle hlz hbz).mono fun _ _ hp=>entSay_of (by rw [store_length,hln]) hp
theorem rstore_tk (l:List Ent) (lA:Option Addr) (ln lc:Nat) (t:TkL) (seq:Int) (w:World) (h:t.In w) (hm:MayBe t.x.c) (hL:Ents w lA lc l) (h8:Eight l) (hf:fitsT t.x.c l.length) (hln:l.length=ln) (hle:t.x.nr + t.x.nw≤t.bn) (hlz:ln≤1000) (hbz:t.bn≤1099511627776) :
  Calls Tryz.prog 50 #[.slice lA ln lc,cmV t.x.ra t.x.nr t.x.rc t.x.wa t.x.nw t.x.wc t.x.aa t.x.na t.x.ac t.x.c.fuel t.x.ca t.x.nc t.x.cc,.slice t.bA t.bn t.bc,.int .i64 seq] w (EntSay (storeT l t.x.c t.own seq) ln w):=
 (rstore_any t.x.ra t.x.nr t.x.rc t.x.wa t.x.nw t.x.wc t.x.aa t.x.na t.x.ac t.x.ca t.x.nc t.x.cc t.x.c l lA ln lc t.own t.bA t.bn t.bc seq w (cmIn_of h.cmd hm) hL h8 hm.sets hf hln h.mac.bk h.own h.eight hle hlz hbz).mono fun _ _ hp=>entSay_of (by rw [store_length,hln]) hp
end
section
open Go Go.RowKit
theorem keepsC_take (m:Mrk) (bl:List Ent) {ws:List Int} {i:Nat} {x:Int} (hx:ws[i]? = some x):keepsC m bl (ws.take (i + 1))=keepS (keepsC m bl (ws.take i)) bl x:=by
 unfold keepsC
 rw [List.take_add_one,hx,Option.toList_some,List.foldl_append]
 rfl
theorem keepsC_on (m:Mrk) (bl:List Ent):∀ ws:List Int,(keepsC m bl ws).on=m.on
 | []=>rfl
 | x :: ws=>by
  show (keepsC (keepS m bl x) bl ws).on=m.on
  rw [keepsC_on _ bl ws,keepS_on]
structure CrMin (n:Nat) (X:Crw):Prop where
 cmds:goodL n X.tasks
 rise:risesW (whoP X.tasks)
 few:X.tasks.length≤900
 many:X.results.length≤100000
def storedX (X:Crw) (t:Tsk):Crw:={ X with blocks:=storeT X.blocks t.cmd t.own t.seq,mark:=keepsC X.mark X.blocks t.cmd.writes }
def MkOffs (G no:Nat) (z:CwL) (oA kA:Option Addr):Prop:=offA G z.oA no→offA G z.kA no→offA G oA no∧offA G kA no
section
variable (n no:Nat) (H:Hd) (X:Crw) (z:CwL) (t:TkL) (w:World)
theorem stored_any (h:CwIs n no X w z) (ht:t.In w) (hm:MayBe t.x.c) (hf:fitsT t.x.c n) (hfe:fewT t) (hbn:t.x.nr + t.x.nw=t.bn) (hn:n≤1000) (hno:no≤1000) :
  Calls Tryz.prog 82 #[.agg (cwA n no H z),.agg (tkA t)] w (CwPost n no H (storedX X t.tsk) z w):=by
 obtain ⟨W0,hW0⟩:∃ W,W=((w.alloc (.cells (cwA n no H z) 34)).alloc (.cells (tkA t) 67)).alloc (.cells cwZ 34):=⟨_,rfl⟩
 have b0:Below w.heap.size w W0:=by rw [hW0];exact bnext (bnext (below_alloc1 _ _) (below_alloc1 _ _)) (below_alloc1 _ _)
 have kb:Bk W0 w.heap.size 34 (cwA n no H z):=by rw [hW0];exact ((Bk.new w _ _).alloc _).alloc _
 have kt:Bk W0 (w.heap.size + 1) 67 (tkA t):=by
  rw [hW0]
  have:=(Bk.new (w.alloc (.cells (cwA n no H z) 34)) 67 (tkA t)).alloc (.cells cwZ 34)
  rwa [World.size_alloc] at this
 have kr:Bk W0 (w.heap.size + 2) 34 cwZ:=by
  rw [hW0]
  have:=Bk.new ((w.alloc (.cells (cwA n no H z) 34)).alloc (.cells (tkA t) 67)) 34 cwZ
  rwa [World.size_alloc,World.size_alloc] at this
 have hs0:W0.heap.size=w.heap.size + 3:=by rw [hW0,World.size_alloc,World.size_alloc,World.size_alloc]
 have hws:=ht.cmd.writes
 have hwl:t.x.c.writes.length=t.x.nw:=ht.cmd.lw
 have hwc:t.x.nw≤t.x.wc:=by have:=hws.2.1;omega
 have hnw:=hfe.w
 have hmo:=h.mark
 have hon:=h.on
 have m0:Hid (MkIn W0 (keepsC X.mark X.blocks (t.x.c.writes.take 0)).old (keepsC X.mark X.blocks (t.x.c.writes.take 0)).kept z.oA no z.oc z.kA no z.kc):=hid (by rw [List.take_zero];exact hmo.below b0)
 have k0:Hid (Bk W0 w.heap.size 34 (cwA n no H { z with oA:=z.oA,oc:=z.oc,kA:=z.kA,kc:=z.kc })):=hid kb
 have hst:=hid (fun W (hW:Below w.heap.size w W)=>store_tk X.blocks z.bA n z.bc t t.s W (ht.below hW) hm (h.bl.below hW) h.e8 (by rw [h.len];exact hf) h.len (by omega) hn (by have:=hfe.b;omega))
 have hke:=hid (fun (W:World) (hW:Below w.heap.size w W) (i:Nat) (oA:Option Addr) (oc:Nat) (kA:Option Addr) (kc:Nat) (hM:MkIn W (keepsC X.mark X.blocks (t.x.c.writes.take i)).old (keepsC X.mark X.blocks (t.x.c.writes.take i)).kept oA no oc kA no kc) (x:Int)=>keep_say H.a1 H.a2 H.a3 H.a4 H.a5 H.a6 oA no oc kA kc (keepsC X.mark X.blocks (t.x.c.writes.take i)) X.blocks z.bA n z.bc x W hM (h.bl.below hW) h.e8 h.len hno)
 have H0:=hid h
 have HW:=hid hW0
 have B0:=hid b0
 have T0:=hid kt
 have R0:=hid kr
 have HS:=hid hs0
 have HWS:=hid hws
 have HWL:=hid hwl
 have HON:=hid hon
 have HT:=hid ht
 have HM:=hid hm
 have HF:=hid hf
 have HBN:=hid hbn
 clear h ht hm hf hfe hbn hW0 b0 kb kt kr hws hwl hmo hon hs0
 go_enter Tryz.func82,Tryz.ntmps82
 go_wp2
 rw [← HW.out]
 go_loopw [11] (fun cc wr=>∃ (i:Nat) (oA:Option Addr) (oc:Nat) (kA:Option Addr) (kc:Nat),i≤t.x.nw∧cc=.int .i64 i∧Hid (MkIn wr (keepsC X.mark X.blocks (t.x.c.writes.take i)).old (keepsC X.mark X.blocks (t.x.c.writes.take i)).kept oA no oc kA no kc)∧Hid (Bk wr w.heap.size 34 (cwA n no H { z with oA:=oA,oc:=oc,kA:=kA,kc:=kc }))∧Hid (Bk wr (w.heap.size + 1) 67 (tkA t))∧Hid (Bk wr (w.heap.size + 2) 34 cwZ)∧Hid (Below w.heap.size w wr)∧Hid (∀ G,G < w.heap.size + 3→MkOffs G no z oA kA)) (fun cc _=>t.x.nw - (intOf cc).toNat)
 case atStart=>exact ⟨0,z.oA,z.oc,z.kA,z.kc,Nat.zero_le _,rfl,m0,k0,T0,R0,B0,hid (fun G _ h1 h2=>⟨h1,h2⟩)⟩
 case round=>
  obtain ⟨i,oA,oc,kA,kc,hi,rfl,HMK,HK,HTK,HR,HB,HO⟩:=hrel
  by_cases hlt:i < t.x.nw
  ·have d1:(i:Int) < (t.x.nw:Int):=by omega
   have d2:(i:Int) < (t.x.wc:Int):=by omega
   have hb3:w.heap.size + 3≤wr.heap.size:=by have:=HR.out.lt;omega
   obtain ⟨x,hx⟩:∃ x,t.x.c.writes[i]? = some x:=⟨_,List.getElem?_eq_getElem (by rw [HWL.out];exact hlt)⟩
   obtain ⟨b,off,hwa,hbl,y0⟩:=(HWS.out.below HB.out).cellAt (j:=i) (by rw [HWL.out];exact hlt)
   rw [hx,Option.getD_some] at y0
   obtain ⟨p0,-,-,-,pl,pf⟩:=HK.out.crew
   have hk:=hke.out wr HB.out i oA oc kA kc HMK.out x
   rw [← keepsC_take X.mark X.blocks hx] at hk
   unfold MkSay at hk
   simp only [keepsC_on,HON.out] at hk
   have HKE:=hid hk
   have HX:=hid hx
   clear hk hx
   go_wp2_with (first
    | (with_reducible refine ld_cmk w.heap.size HK.out _ rfl rfl rfl ?_)
    | (go_at_call 114;go_must ((with_reducible refine HKE.out.mono ?_);rintro e w1 ⟨oA',oc',kA',kc',rfl,hM1,hb1,ho1⟩;have M1:=hid hM1;have K1:=hid (HK.out.below hb1);have T1:=hid (HTK.out.below hb1);have R1:=hid (HR.out.below hb1);have B1:=hid (bnext HB.out hb1);have O1:=hid ho1;clear hM1 hb1 ho1 y0 p0 pl pf))
    | (with_reducible refine st_cmk w.heap.size K1.out z.on oA' oc' kA' kc' _ _ rfl rfl rfl rfl ?_))
   obtain ⟨W2,hW2⟩:∃ W,W=w1.setCells w.heap.size 4 (mkC z.on H.a1 H.a2 H.a3 H.a4 H.a5 H.a6 (.slice oA' no oc') (.slice kA' no kc')).toList:=⟨_,rfl⟩
   rw [← hW2]
   have K2:Hid (Bk W2 w.heap.size 34 (cwA n no H { z with oA:=oA',oc:=oc',kA:=kA',kc:=kc' })):=hid (by rw [hW2];exact K1.out.cM z.on oA' oc' kA' kc')
   have T2:Hid (Bk W2 (w.heap.size + 1) 67 (tkA t)):=hid (by rw [hW2];exact T1.out.setCells (by omega) _ _)
   have R2:Hid (Bk W2 (w.heap.size + 2) 34 cwZ):=hid (by rw [hW2];exact R1.out.setCells (by omega) _ _)
   have B2:Hid (Below w.heap.size w W2):=hid (by rw [hW2];exact below_setCells B1.out (Nat.le_refl _) _ _)
   have O2:Hid (∀ G,G < w.heap.size + 3→MkOffs G no z oA' kA'):=hid (fun G hG h1 h2=>O1.out G (by omega) (HO.out G hG h1 h2).1 (HO.out G hG h1 h2).2)
   have hoo:=O2.out w.heap.size (by omega) (H0.out.mark.so.off_ge (Nat.le_refl _)) (H0.out.mark.sk.off_ge (Nat.le_refl _))
   have M2:Hid (MkIn W2 (keepsC X.mark X.blocks (t.x.c.writes.take (i + 1))).old (keepsC X.mark X.blocks (t.x.c.writes.take (i + 1))).kept oA' no oc' kA' no kc'):=hid (by rw [hW2];exact M1.out.keep hoo.1 hoo.2 (OneOff.setCells w1 w.heap.size 4 _))
   clear hW2 hoo
   rw [← hwa]
   clear hwa
   go_roundw
   case rel=>exact ⟨i + 1,oA',oc',kA',kc',by omega,by go_num,M2,K2,T2,R2,B2,O2⟩
   case measure=>simp [intOf];omega
  ·obtain rfl:t.x.nw=i:=by omega
   have hta:t.x.c.writes.take t.x.nw=t.x.c.writes:=List.take_of_length_le (Nat.le_of_eq HWL.out)
   rw [hta] at HMK
   have hb3:w.heap.size + 3≤wr.heap.size:=by have:=HR.out.lt;omega
   obtain ⟨p0,-,-,-,pl,pf⟩:=HK.out.crew
   obtain ⟨q0,-,-,-,q16,-,ql,-⟩:=HTK.out.tskv
   clear hlt hta hke
   go_wp2_with (first
    | (with_reducible refine ld_tcmd (w.heap.size + 1) HTK.out _ rfl rfl rfl ?_)
    | (go_at_call 115;go_must ((with_reducible refine (hst.out wr HB.out).mono ?_);rintro e w1 ⟨A1,c1,rfl,hE,hb1,hov⟩;have E1:=hid hE;have OV:=hid hov;have M1:=hid (HMK.out.below hb1);have K1:=hid (HK.out.below hb1);have R1:=hid (HR.out.below hb1);have B1:=hid (bnext HB.out hb1);clear hE hov hb1 p0 pl pf q0 q16 ql;obtain ⟨p0,-,-,-,pl,pf⟩:=K1.out.crew;have C2:=hid (K1.out.cB A1 c1);have R2:=hid (R1.out.far (p:=⟨w.heap.size,0,none⟩) (by show w.heap.size + 2≠w.heap.size;omega) (.slice A1 n c1))))
    | (with_reducible refine ld_cw w.heap.size C2.out _ rfl rfl rfl ?_)
    | (with_reducible refine st_cw (w.heap.size + 2) R2.out rfl n no H { z with oA:=oA,oc:=oc,kA:=kA,kc:=kc,bA:=A1,bc:=c1 } _ _ rfl rfl rfl rfl ?_))
   have BF:Below w.heap.size w ((w1.setCell ⟨w.heap.size,0,none⟩ (.slice A1 n c1)).setRow (w.heap.size + 2) (cwA n no H { z with oA:=oA,oc:=oc,kA:=kA,kc:=kc,bA:=A1,bc:=c1 })):=below_row (B1.out.setCell (p:=⟨w.heap.size,0,none⟩) (Nat.le_refl _) _) (by omega) _
   have sl:(storeT X.blocks t.x.c t.own t.s).length=n:=by rw [store_length];exact H0.out.len
   have s1:=OneOff.setCell w1 w.heap.size 0 (.slice A1 n c1)
   have s2:=OneOff.setRow (w1.setCell ⟨w.heap.size,0,none⟩ (.slice A1 n c1)) (w.heap.size + 2) (cwA n no H { z with oA:=oA,oc:=oc,kA:=kA,kc:=kc,bA:=A1,bc:=c1 })
   have h1:=HO.out w.heap.size (by omega) (H0.out.mark.so.off_ge (Nat.le_refl _)) (H0.out.mark.sk.off_ge (Nat.le_refl _))
   have h2:=HO.out (w.heap.size + 2) (by omega) (H0.out.mark.so.off_ge (by omega)) (H0.out.mark.sk.off_ge (by omega))
   have IS:CwIs n no (storedX X t.tsk) _ { z with oA:=oA,oc:=oc,kA:=kA,kc:=kc,bA:=A1,bc:=c1 }:=
    ⟨sl,(E1.out.keepOff sl (OV.out.off (by omega)) s1).keepOff sl (OV.out.off (by omega)) s2,store_good H0.out.e8 HT.out.eight (by
     have a1:t.x.c.reads.length=t.x.nr:=HT.out.cmd.lr
     have a2:=HT.out.own
     have a3:=HBN.out
     have a4:=HWL.out
     show t.own.length=t.x.c.reads.length + t.x.c.writes.length
     omega),H0.out.wt.below BF,H0.out.tk.below BF,H0.out.rs.below BF,by rw [← HON.out];exact keepsC_on _ _ _,(M1.out.keep h1.1 h1.2 s1).keep h2.1 h2.2 s2⟩
   exact bodyPost_ret (v:=.agg (cwA n no H { z with oA:=oA,oc:=oc,kA:=kA,kc:=kc,bA:=A1,bc:=c1 })) (res_cw rfl _ _ (w.heap.size + 2) rfl (Bk.setRow R2.out _)) rfl ⟨_,rfl,IS,BF,fun G hG q=>⟨OV.out.off (by omega),q.t,q.r,(HO.out G (by omega) q.o q.k).1,(HO.out G (by omega) q.o q.k).2⟩⟩
end
end
section
open Go.RowKit
def ResSay (r:Rst) (oA:Option Addr) (on:Nat) (w:World) (e:Ending) (w':World):Prop:=
 ∃ x:RsL,e=.returned (.agg (rslA x))∧x.r=r∧x.In w'∧Below w.heap.size w w'∧∀ G,G < w.heap.size→offA G oA on→offA G x.A x.n
theorem tells_tk (seq:Int) (t:TkL) (w:World) (h:t.In w) (hon:t.on≤1000) :
  Calls Tryz.prog 85 #[.int .i64 seq,mM t.m t.sA t.sn t.sc t.oA t.on t.oc] w (ResSay ⟨seq,t.m.told,t.m.out⟩ none 0 w):=
 (tells_off seq t.m.pc t.m.fuel t.sA t.sn t.sc (rg t.m.regs 0) (rg t.m.regs 1) (rg t.m.regs 2) (rg t.m.regs 3) t.oA t.on t.oc t.m.over t.m.told t.m.out w h.mac.ou hon).mono fun _ _ ⟨A,n,c,he,hs,hb,ho⟩=>
  ⟨⟨⟨seq,t.m.told,t.m.out⟩,A,n,c⟩,he,rfl,hs,hb,fun G hG _=>ho G hG⟩
theorem rtells_tk (seq:Int) (t:TkL) (w:World) (h:t.In w) :
  Calls Tryz.prog 51 #[.int .i64 seq,mM t.m t.sA t.sn t.sc t.oA t.on t.oc] w (ResSay ⟨seq,t.m.told,t.m.out⟩ t.oA t.on w):=
 (rtells_any seq t.m.pc t.m.fuel t.sA t.sn t.sc (rg t.m.regs 0) (rg t.m.regs 1) (rg t.m.regs 2) (rg t.m.regs 3) t.oA t.on t.oc t.m.over t.m.told w).mono fun _ _ ⟨he,hb⟩=>
  ⟨⟨⟨seq,t.m.told,t.m.out⟩,t.oA,t.on,t.oc⟩,he,rfl,h.mac.ou.below hb,hb,fun _ _ h=>h⟩
theorem rsame_res (x y:RsL) (w:World) (hx:x.In w) (hy:y.In w) (hr:x.r=y.r) (hn:x.n≤1000000) :
  Calls Tryz.prog 19 #[.agg (rslA x),.agg (rslA y)] w fun e w'=>e=.returned (.bool true)∧Below w.heap.size w w':=by
 obtain ⟨r,A,n,c⟩:=x
 obtain ⟨r',A',n',c'⟩:=y
 obtain rfl:r=r':=hr
 obtain rfl:n=n':=by
  have h1:=hx.1
  have h2:=hy.1
  simp at h1 h2
  omega
 exact rsameR_yes r.seq r.told r.out A A' n c c' w hx hy hn
end
section
open Go Go.RowKit
theorem wpList_yield {P:Program} {ops:Array Oper} {rest:List Oper} {o:Oper} {a:Act} {w:World} {Q:Exit→Act→World→Prop} (hw:Region.wanted o (yielded ops a.tmps)=true) (v:Value) (hr:(execOp a.eval o).run P w=.ok (.value v) w)
  (h:wpList P ops Q rest (a.put o.dst v) w):wpList P ops Q (o :: rest) a w:=by
 simp only [wpList,hw,if_true]
 exact .inl (wp_of_yields (K:=fun v' w''=>v'=v∧w''=w) (by unfold yieldsTo;rw [hr];exact ⟨rfl,rfl⟩) (by rintro _ _ ⟨rfl,rfl⟩;exact h))
section
variable {ops:Array Oper} {rest:List Oper} {o:Oper} {a:Act} {w:World} {Q:Exit→Act→World→Prop}
theorem ld_cwG (g:Nat) {n no:Nat} {H:Hd} {z:CwL} (hk:Bk w g 34 (cwA n no H z)) (x:Operand) (ho:o.op=.load 34 x) (hx:a.eval x=.pointer (some ⟨g,0,none⟩)) (hw:Region.wanted o (yielded ops a.tmps)=true)
  (h:wpList Tryz.prog ops Q rest (a.put o.dst (.agg (cwA n no H z))) w):wpList Tryz.prog ops Q (o :: rest) a w:=
 wpList_yield hw _ (op_load_at 34 g 0 (run_loadVar_row w g _ _ _ (0,0) _ hk Tryz.underlying34 rfl infoCrw) x ho hx) h
end
end
section
open Go Go.RowKit
structure TwoC (gx gy:Nat) (X Y:Crw) (zx zy:CwL) (w:World):Prop where
 ix:CwIs 6 0 X w zx
 iy:CwIs 6 0 Y w zy
 kx:Bk w gx 34 (cwA 6 0 hd0 zx)
 ky:Bk w gy 34 (cwA 6 0 hd0 zy)
 xx:CwOff gx 6 0 zx
 yx:CwOff gy 6 0 zx
 xy:CwOff gx 6 0 zy
 yy:CwOff gy 6 0 zy
 ne:gx≠gy
section
variable {gx gy:Nat} {X Y:Crw} {zx zy:CwL} {w w':World}
theorem TwoC.below (h:TwoC gx gy X Y zx zy w) (hb:Below w.heap.size w w'):TwoC gx gy X Y zx zy w':=
 ⟨h.ix.below hb,h.iy.below hb,h.kx.below hb,h.ky.below hb,h.xx,h.yx,h.xy,h.yy,h.ne⟩
theorem TwoC.swap (h:TwoC gx gy X Y zx zy w):TwoC gy gx Y X zy zx w:=⟨h.iy,h.ix,h.ky,h.kx,h.yy,h.xy,h.yx,h.xx,fun e=>h.ne e.symm⟩
theorem TwoC.setx (h:TwoC gx gy X Y zx zy w) (hb:Below w.heap.size w w') {X':Crw} {z:CwL} (hI:CwIs 6 0 X' w' z) (ho:∀ G,G < w.heap.size→CwOff G 6 0 zx→CwOff G 6 0 z):TwoC gx gy X' Y z zy (w'.setRow gx (cwA 6 0 hd0 z)):=by
 have b:=h.below hb
 have o1:=ho gx h.kx.lt h.xx
 have o2:=ho gy h.ky.lt h.yx
 exact ⟨hI.keep o1 (OneOff.setRow w' gx _) b.kx (by decide) (by decide),b.iy.keep b.xy (OneOff.setRow w' gx _) b.kx (by decide) (by decide),Bk.setRow b.kx _,b.ky.farRow (fun e=>h.ne e.symm) _,o1,o2,h.xy,h.yy,h.ne⟩
theorem TwoC.sety (h:TwoC gx gy X Y zx zy w) (hb:Below w.heap.size w w') {Y':Crw} {z:CwL} (hI:CwIs 6 0 Y' w' z) (ho:∀ G,G < w.heap.size→CwOff G 6 0 zy→CwOff G 6 0 z):TwoC gx gy X Y' zx z (w'.setRow gy (cwA 6 0 hd0 z)):=(h.swap.setx hb hI ho).swap
end
end
end Go.Proofs.YtpaocjpjlogkgaaGreat
