/-
  Words and contracts of this claim, 6 texts laid into one, each under its own remark. No conditions but those that stand at each.
-/
import Derived.Test.YtpaocjpjlogkgaaGreatZMchE
import Derived.Test.YtpaocjpjlogkgaaGreatQWords
import Derived.Test.YtpaocjpjlogkgaaGreatQMchC
import Derived.IntWalk
namespace Go.Proofs.YtpaocjpjlogkgaaGreat
set_option maxRecDepth 100000
set_option maxHeartbeats 32000000
open Go
open Go.Lib (hid)
section
open Go.RowKit
structure MRow (B:Nat) (w:World) (st ou:List Int) (own:Blks) (sA:Option Addr) (sn sc:Nat) (oA:Option Addr) (on oc:Nat) (bA:Option Addr) (bn bc:Nat):Prop where
 st:w.ownsRow B 3 1 (.slice sA sn sc) sn (st.map (.int .i64))
 ou:w.ownsRow B 3 1 (.slice oA on oc) on (ou.map (.int .i64))
 bk:w.ownsRow B 74 8 (.slice bA bn bc) bn (blksW own)
 tw:twain (.slice sA sn sc) (.slice oA on oc)
def offB (b:Nat) (v:Value):Prop:=∀ k,v.ownBlock=some k→k≠b
theorem own_offB {w:World} {base:Nat} {e:TypeId} {size n:Nat} {v:Value} {xs:List Value} (h:w.ownsRow base e size v n xs) {b:Nat} (hb:w.heap.size≤b):offB b v:=fun k hk=>by
 have:=own_lt h hk
 omega
section
variable {B:Nat} {w w':World} {st ou:List Int} {own:Blks} {sA:Option Addr} {sn sc:Nat} {oA:Option Addr} {on oc:Nat} {bA:Option Addr} {bn bc:Nat}
theorem MRow.below (h:MRow B w st ou own sA sn sc oA on oc bA bn bc) (hb:Below w.heap.size w w'):MRow B w' st ou own sA sn sc oA on oc bA bn bc:=
 ⟨own_below h.st hb,own_below h.ou hb,own_below h.bk hb,h.tw⟩
theorem MRow.off (h:MRow B w st ou own sA sn sc oA on oc bA bn bc) {b:Nat} (hb:w.heap.size≤b):offB b (.slice sA sn sc)∧offB b (.slice oA on oc)∧offB b (.slice bA bn bc):=
 ⟨own_offB h.st hb,own_offB h.ou hb,own_offB h.bk hb⟩
theorem MRow.keep (h:MRow B w st ou own sA sn sc oA on oc bA bn bc) {b:Nat} (ho:offB b (.slice sA sn sc)∧offB b (.slice oA on oc)∧offB b (.slice bA bn bc)) (hk:∀ k,k≠b→w'.heap[k]? = w.heap[k]?):MRow B w' st ou own sA sn sc oA on oc bA bn bc:=
 ⟨own_keep h.st (fun g _ hg=>hk g (ho.1 g hg)),own_keep h.ou (fun g _ hg=>hk g (ho.2.1 g hg)),own_keep h.bk (fun g _ hg=>hk g (ho.2.2 g hg)),h.tw⟩
theorem MRow.set (h:MRow B w st ou own sA sn sc oA on oc bA bn bc) {b:Nat} (ho:offB b (.slice sA sn sc)∧offB b (.slice oA on oc)∧offB b (.slice bA bn bc)) (i:Nat) (u:Value):MRow B (w.setCell ⟨b,i,none⟩ u) st ou own sA sn sc oA on oc bA bn bc:=
 h.keep ho (fun k hk=>Below.heap_setCell w ⟨b,i,none⟩ u k hk)
theorem MRow.setRow (h:MRow B w st ou own sA sn sc oA on oc bA bn bc) {b:Nat} (ho:offB b (.slice sA sn sc)∧offB b (.slice oA on oc)∧offB b (.slice bA bn bc)) (cs:Array Value):MRow B (w.setRow b cs) st ou own sA sn sc oA on oc bA bn bc:=
 h.keep ho (fun k hk=>setRow_other w b k cs hk)
theorem MRow.slen (h:MRow B w st ou own sA sn sc oA on oc bA bn bc):sn=st.length:=by have:=h.st.1;simp at this;omega
theorem MRow.olen (h:MRow B w st ou own sA sn sc oA on oc bA bn bc):on=ou.length:=by have:=h.ou.1;simp at this;omega
theorem MRow.blen (h:MRow B w st ou own sA sn sc oA on oc bA bn bc) (h8:∀ b∈own,b.length=8):bn=own.length:=by have:=h.bk.1;rw [blksW_length own h8] at this;omega
theorem MRow.blocks (h:MRow B w st ou own sA sn sc oA on oc bA bn bc) (h8:∀ b∈own,b.length=8):Blocks w bA bc own:=by
 have:=Sl.own' h.bk
 rw [h.blen h8] at this
 exact this
theorem MRow.pushed (h:MRow B w st ou own sA sn sc oA on oc bA bn bc) {v:Int} {g cap:Nat} {w2:World} (ho:w2.ownsRow B 3 1 (.slice (some ⟨g,0,none⟩) (sn + 1) cap) (sn + 1) (st.map (.int .i64) ++ [.int .i64 v])) (hg:w.grownBy w2 (Value.slice sA sn sc).ownBlock)
  (hl:(Value.slice sA sn sc).ownBlock=some g∨g=w.heap.size):MRow B w2 (st ++ [v]) ou own (some ⟨g,0,none⟩) (sn + 1) cap oA on oc bA bn bc:=by
 refine ⟨by simpa using ho,own_grown h.ou hg (fun k hk=>h.tw.symm k hk),own_grown h.bk hg (fun k hk=>own_apart h.bk h.st (by decide) k hk),fun k hk hk'=>?_⟩
 obtain rfl:g=k:=by simpa [Value.ownBlock] using hk
 exact new_ne h.ou (Nat.le_refl _) hl (fun k hk=>h.tw k hk) hk'
theorem MRow.told (h:MRow B w st ou own sA sn sc oA on oc bA bn bc) {v:Int} {g cap:Nat} {w2:World} (ho:w2.ownsRow B 3 1 (.slice (some ⟨g,0,none⟩) (on + 1) cap) (on + 1) (ou.map (.int .i64) ++ [.int .i64 v])) (hg:w.grownBy w2 (Value.slice oA on oc).ownBlock)
  (hl:(Value.slice oA on oc).ownBlock=some g∨g=w.heap.size):MRow B w2 st (ou ++ [v]) own sA sn sc (some ⟨g,0,none⟩) (on + 1) cap bA bn bc:=by
 refine ⟨own_grown h.st hg (fun k hk=>h.tw k hk),by simpa using ho,own_grown h.bk hg (fun k hk=>own_apart h.bk h.ou (by decide) k hk),fun k hk hk'=>?_⟩
 obtain rfl:g=k:=by simpa [Value.ownBlock] using hk'
 exact new_ne h.st (Nat.le_refl _) hl (fun k hk=>h.tw.symm k hk) hk
theorem MRow.cut (h:MRow B w st ou own sA sn sc oA on oc bA bn bc) {k:Nat} (hk:k≤sn):MRow B w (st.take k) ou own sA k sc oA on oc bA bn bc:=
 ⟨by have:=own_take h.st hk;rwa [Nat.mul_one,← List.map_take] at this,h.ou,h.bk,fun g hg=>h.tw g (by cases sA with
  | none=>simp [Value.ownBlock] at hg
  | some a=>simpa [Value.ownBlock] using hg)⟩
theorem MRow.mute (h:MRow B w st ou own sA sn sc oA on oc bA bn bc):MRow B w st [] own sA sn sc none 0 0 bA bn bc:=
 ⟨h.st,⟨rfl,.inl ⟨rfl,rfl⟩⟩,h.bk,fun k _ hk'=>by simp [Value.ownBlock] at hk'⟩
end
structure Rows3 (B:Nat) (S O A:Value) (w w':World):Prop where
 below:Below B w w'
 kept:∀ k,k < w.heap.size→S.ownBlock≠some k→O.ownBlock≠some k→A.ownBlock≠some k→w'.heap[k]? = w.heap[k]?
theorem Rows3.start {B:Nat} {S O A:Value} {w w':World} (hB:B≤w.heap.size) (hb:Below w.heap.size w w'):Rows3 B S O A w w':=⟨hb.mono hB,fun k hk _ _ _=>hb.block k hk⟩
theorem Rows3.grown {B:Nat} {S O A:Value} {w W w2:World} (h:Rows3 B S O A w W) (hB:B≤w.heap.size) {row:Option Nat} (hg:W.grownBy w2 row) (hr:row=S.ownBlock∨row=O.ownBlock) (hk:∀ k,row=some k→B≤k):Rows3 B S O A w w2:=
 ⟨h.below.grown hg (Nat.le_trans hB h.below.size) hk,fun k hkw h1 h2 h3=>(hg.block k (Nat.lt_of_lt_of_le hkw h.below.size) (by
  rcases hr with rfl | rfl
  ·exact Ne.symm h1
  ·exact Ne.symm h2)).trans (h.kept k hkw h1 h2 h3)⟩
theorem Rows3.set {B:Nat} {S O A:Value} {w W:World} (h:Rows3 B S O A w W) (hB:B≤w.heap.size) {b:Nat} (hb:w.heap.size≤b) (i:Nat) (u:Value):Rows3 B S O A w (W.setCell ⟨b,i,none⟩ u):=
 ⟨h.below.setCell (p:=⟨b,i,none⟩) (Nat.le_trans hB hb) u,fun k hk h1 h2 h3=>(Below.heap_setCell W ⟨b,i,none⟩ u k (by simp;omega)).trans (h.kept k hk h1 h2 h3)⟩
theorem Rows3.setRow {B:Nat} {S O A:Value} {w W:World} (h:Rows3 B S O A w W) (hB:B≤w.heap.size) {b:Nat} (hb:w.heap.size≤b) (cs:Array Value):Rows3 B S O A w (W.setRow b cs):=
 ⟨below_row h.below (Nat.le_trans hB hb) cs,fun k hk h1 h2 h3=>(setRow_other W b k cs (by omega)).trans (h.kept k hk h1 h2 h3)⟩
theorem Rows3.bk {B:Nat} {S O A:Value} {w w':World} (h:Rows3 B S O A w w') {b:Nat} {t:TypeId} {cs:Array Value} (hb:Bk w b t cs) (hs:offB b S) (ho:offB b O) (ha:offB b A):Bk w' b t cs:=
 (h.kept b hb.lt (fun e=>hs b e rfl) (fun e=>ho b e rfl) (fun e=>ha b e rfl)).trans hb
theorem MRow.offM {B:Nat} {w:World} {st ou:List Int} {own:Blks} {sA:Option Addr} {sn sc:Nat} {oA:Option Addr} {on oc:Nat} {bA:Option Addr} {bn bc:Nat} (h:MRow B w st ou own sA sn sc oA on oc bA bn bc) {b:Nat} {cs:Array Value} (hb:Bk w b 64 cs) :
  offB b (.slice sA sn sc)∧offB b (.slice oA on oc)∧offB b (.slice bA bn bc):=by
 have key:∀ {e:TypeId} {size n:Nat} {v:Value} {xs:List Value},w.ownsRow B e size v n xs→64≠e→offB b v:=fun {e size n v xs} h hne k hk=>by
  rcases h.2 with ⟨rfl,_⟩ | ⟨g,cap,cur,rfl,_,hg,_⟩
  ·simp [Value.ownBlock] at hk
  ·obtain rfl:g=k:=by simpa [Value.ownBlock] using hk
   exact hb.ne hg hne
 exact ⟨key h.st (by decide),key h.ou (by decide),key h.bk (by decide)⟩
abbrev nR (x:Ins) (cs:Array Value) (w:World):World:=(nB x cs w).alloc (.cells mZ 64)
theorem nR_below (x:Ins) (cs:Array Value) (w:World):Below w.heap.size w (nR x cs w):=bnext (nB_below x cs w) (below_alloc1 _ _)
theorem nR_ins (x:Ins) (cs:Array Value) (w:World):Bk (nR x cs w) w.heap.size 72 #[.int .i64 x.op,.int .i64 x.a,.int .i64 x.b]:=(nB_ins x cs w).alloc _
theorem nR_box (x:Ins) (cs:Array Value) (w:World):Bk (nR x cs w) (w.heap.size + 1) 64 cs:=(nB_box x cs w).alloc _
theorem nR_res (x:Ins) (cs:Array Value) (w:World):Bk (nR x cs w) (w.heap.size + 1 + 1) 64 mZ:=by
 have:=Bk.new (nB x cs w) 64 mZ
 rwa [World.size_alloc,World.size_alloc] at this
section
variable (pc fuel:Int) (sA:Option Addr) (sn sc:Nat) (r0 r1 r2 r3:Int) (oA:Option Addr) (on oc:Nat) (ov:Bool) (e0:Int) (aA:Option Addr) (an ac:Nat) (bA:Option Addr) (bn bc:Nat)
def PutsPost (B:Nat) (st ou:List Int) (own:Blks) (v:Int) (w:World) (e:Ending) (w':World):Prop:=
 ∃ g cap,e=.returned (.agg (mC pc fuel (.slice (some ⟨g,0,none⟩) (sn + 1) cap) r0 r1 r2 r3 (.slice oA on oc) ov e0))∧MRow B w' (st ++ [v]) ou own (some ⟨g,0,none⟩) (sn + 1) cap oA on oc bA bn bc∧Rows3 B (.slice sA sn sc) (.slice oA on oc) (.slice bA bn bc) w w'
theorem puts_any (x:Ins) (B:Nat) (st ou:List Int) (own:Blks) (v:Int) (w:World) (hB:B≤w.heap.size) (hR:MRow B w st ou own sA sn sc oA on oc bA bn bc) (hn:sn≤1000)
  (hnm:∀ W,Below w.heap.size w W→Calls Tryz.prog 126 #[.agg #[.int .i64 x.op,.int .i64 x.a,.int .i64 x.b],.slice aA an ac,.agg (mC pc fuel (.slice sA sn sc) r0 r1 r2 r3 (.slice oA on oc) ov e0),.slice bA bn bc] W (NamedPost v W)) :
  Calls Tryz.prog 111 #[.agg #[.int .i64 x.op,.int .i64 x.a,.int .i64 x.b],.slice aA an ac,.agg (mC pc fuel (.slice sA sn sc) r0 r1 r2 r3 (.slice oA on oc) ov e0),.slice bA bn bc] w
   (PutsPost pc fuel sA sn sc r0 r1 r2 r3 oA on oc ov e0 bA bn bc B st ou own v w):=by
 obtain ⟨i0,hi,hz0,hz1,hz2⟩:=infoInt
 have hbe:=hid (nR_below x (mC pc fuel (.slice sA sn sc) r0 r1 r2 r3 (.slice oA on oc) ov e0) w)
 have hbx:=hid (nR_box x (mC pc fuel (.slice sA sn sc) r0 r1 r2 r3 (.slice oA on oc) ov e0) w)
 have hrs:=hid (nR_res x (mC pc fuel (.slice sA sn sc) r0 r1 r2 r3 (.slice oA on oc) ov e0) w)
 have HR:=hid hR
 have hcall:=hid (hnm _ hbe.out)
 clear hR hnm
 go_enter Tryz.func111,Tryz.ntmps111
 go_wp2_with (first
  | (with_reducible refine ld_mach (w.heap.size + 1) hbx.out _ rfl rfl rfl ?_)
  | (go_at_call 126;go_must ((with_reducible refine hcall.out.mono ?_);rintro e w1 ⟨rfl,hb1⟩;have B1:=hid (bnext hbe.out hb1);have X1:=hid (hbx.out.below hb1);have R1:=hid (hrs.out.below hb1);have c2:=X1.out.cell 2;have xl:=X1.out.lt;simp only [List.getElem?_toArray,List.getElem?_cons_zero,List.getElem?_cons_succ] at c2;clear hb1))
  | (at_builtin;go_must (refine append_rowH rfl (.tmp 24) (.tmp 26) _ rfl B 3 i0 _ 1 8 Tryz.underlying49 hi hz0 hz1 hz2 rfl (by decide) (.slice sA sn sc) sn (st.map (.int .i64)) rfl (own_below (own_below HR.out.st B1.out) (below_alloc1 _ _)) w1.heap.size #[.int .i64 v] rfl (Bk.new _ _ _) rfl rfl (by unfold maxLen;omega) (by omega) (by have:=B1.out.size;rw [World.size_alloc];omega) ?_;intro g cap w2 ho2 hg2 hl2;have X2:=hid ((X1.out.alloc _).grown hg2 (fun e=>(HR.out.off (b:=w.heap.size + 1) (by omega)).1 _ e.symm rfl));have R2:=hid ((R1.out.alloc _).grown hg2 (fun e=>(HR.out.off (b:=w.heap.size + 1 + 1) (by omega)).1 _ e.symm rfl));have M2:=hid (((HR.out.below B1.out).below (below_alloc1 _ _)).pushed ho2 hg2 hl2);have BB:Hid (Rows3 B (.slice sA sn sc) (.slice oA on oc) (.slice bA bn bc) w w2):=hid ((Rows3.start hB (bnext B1.out (below_alloc1 _ _))).grown hB hg2 (.inl rfl) (fun k hk=>own_ge HR.out.st hk));have Q2:=hid hl2;have y2:=X2.out.cell 2;have yf:=X2.out.frozen;have yl:=X2.out.lt;have X3:Hid (Bk (w2.setCell ⟨w.heap.size + 1,2,none⟩ (.slice (some ⟨g,0,none⟩) (sn + 1) cap)) (w.heap.size + 1) 64 (mC pc fuel (.slice (some ⟨g,0,none⟩) (sn + 1) cap) r0 r1 r2 r3 (.slice oA on oc) ov e0)):=hid (by simpa using X2.out.set 2 (.slice (some ⟨g,0,none⟩) (sn + 1) cap));have R3:=hid (R2.out.far (p:=⟨w.heap.size + 1,2,none⟩) (by simp) (.slice (some ⟨g,0,none⟩) (sn + 1) cap));simp only [List.getElem?_toArray,List.getElem?_cons_zero,List.getElem?_cons_succ] at y2;clear ho2 hg2 hl2))
  | (with_reducible refine ld_mach (w.heap.size + 1) X3.out _ rfl rfl rfl ?_)
  | (with_reducible refine st_mach (w.heap.size + 1 + 1) R3.out rfl rfl _ _ rfl rfl rfl rfl ?_))
 have hoff:∀ b,b=w.heap.size + 1∨b=w.heap.size + 1 + 1→offB b (.slice (some ⟨g,0,none⟩) (sn + 1) cap)∧offB b (.slice oA on oc)∧offB b (.slice bA bn bc):=fun b hb=>by
  have ho:=HR.out.off (b:=b) (by omega)
  refine ⟨fun k hk=>?_,ho.2⟩
  obtain rfl:g=k:=by simpa [Value.ownBlock] using hk
  rcases Q2.out with h | h
  ·exact ho.1 g h
  ·have:=B1.out.size
   have:=R1.out.lt
   rw [World.size_alloc] at h
   omega
 exact bodyPost_ret (v:=.agg (mC pc fuel (.slice (some ⟨g,0,none⟩) (sn + 1) cap) r0 r1 r2 r3 (.slice oA on oc) ov e0)) (res_mach rfl _ _ (w.heap.size + 1 + 1) rfl (Bk.setRow R3.out _)) rfl
  ⟨g,cap,rfl,(M2.out.set (hoff _ (.inl rfl)) _ _).setRow (hoff _ (.inr rfl)) _,(BB.out.set hB (by omega) _ _).setRow hB (by omega) _⟩
end
end
section
open Go.RowKit
def StepPost (B:Nat) (S O A:Value) (pc fuel:Int) (st:List Int) (r0 r1 r2 r3:Int) (ou:List Int) (ov:Bool) (e0:Int) (own:Blks) (w:World) (e:Ending) (w':World):Prop:=
 ∃ sA sn sc oA on oc bA bn bc,e=.returned (.tuple #[.agg (mC pc fuel (.slice sA sn sc) r0 r1 r2 r3 (.slice oA on oc) ov e0),.slice bA bn bc])∧MRow B w' st ou own sA sn sc oA on oc bA bn bc∧Rows3 B S O A w w'
theorem MRow.top {B:Nat} {w:World} {st ou:List Int} {own:Blks} {sA:Option Addr} {k sc:Nat} {oA:Option Addr} {on oc:Nat} {bA:Option Addr} {bn bc:Nat} (h:MRow B w st ou own sA (k + 1) sc oA on oc bA bn bc) {j:Nat} (hj:j≤k) :
  ∃ g,sA=some ⟨g,0,none⟩∧g < w.heap.size∧k + 1≤sc∧w.cell? ⟨g,0 + j,none⟩=some (.int .i64 (st[j]?.getD 0)):=by
 have hl:=h.slen
 obtain ⟨g,cur,rfl,hb,hg,hnc,_,hcs,ht⟩:=own_pos h.st (by omega)
 refine ⟨g,rfl,hg.lt,hnc,?_⟩
 rw [hg.cell,Nat.zero_add]
 have h1:(cur.toList.take ((k + 1) * 1))[j]? = (st.map (Value.int .i64))[j]?:=by rw [ht]
 rw [List.getElem?_take,if_pos (by omega),Array.getElem?_toList] at h1
 rw [h1]
 simp [show j < st.length by omega]
section
variable (pc fuel:Int) (sA:Option Addr) (sc:Nat) (r0 r1 r2 r3:Int) (oA:Option Addr) (on oc:Nat) (ov:Bool) (e0:Int) (bA:Option Addr) (bn bc:Nat)
theorem takes_skip (k:Nat) (a b:Int) (B:Nat) (st ou:List Int) (own:Blks) (w:World) (hB:B≤w.heap.size) (hR:MRow B w st ou own sA (k + 1) sc oA on oc bA bn bc) (hk:k≤1000) (ha:0≤a∧a≤1000) (hp:0≤pc∧pc≤2000)
  (q:Bool) (hq:(st[k]?.getD 0 == 0)=q) :
  Calls Tryz.prog 112 #[.agg #[.int .i64 13,.int .i64 a,.int .i64 b],.agg (mC pc fuel (.slice sA (k + 1:Nat) sc) r0 r1 r2 r3 (.slice oA on oc) ov e0),.slice bA bn bc] w
   (StepPost B (.slice sA (k + 1:Nat) sc) (.slice oA on oc) (.slice bA bn bc) (if q then pc + a else pc) fuel (st.take k) r0 r1 r2 r3 ou ov e0 own w):=by
 obtain ⟨g,rfl,hg,hsc,hv⟩:=hR.top (j:=k) (Nat.le_refl _)
 have hb0:=nR_below ⟨13,a,b⟩ (mC pc fuel (.slice (some ⟨g,0,none⟩) (k + 1:Nat) sc) r0 r1 r2 r3 (.slice oA on oc) ov e0) w
 have hat:=hid (atInt_in g 0 (k + 1) sc k _ (nR ⟨13,a,b⟩ (mC pc fuel (.slice (some ⟨g,0,none⟩) (k + 1:Nat) sc) r0 r1 r2 r3 (.slice oA on oc) ov e0) w) (by omega) hsc ((hb0.cell (p:=⟨g,0 + k,none⟩) hg).trans hv))
 have hk2:(k:Int) < (sc:Int):=by omega
 generalize st[k]?.getD 0=top at *
 have hR':=hid (hR.cut (k:=k) (by omega))
 clear hv hR hb0
 cases q with
 | true=>
  obtain ⟨z,hz⟩:∃ z,z=pc + a:=⟨_,rfl⟩
  have hz':pc + a=z:=hz.symm
  rw [if_pos rfl,← hz]
  clear hz
  have hbx:=hid (nR_box ⟨13,a,b⟩ (mC z fuel (.slice (some ⟨g,0,none⟩) k sc) r0 r1 r2 r3 (.slice oA on oc) ov e0) w)
  have hrs:=hid (nR_res ⟨13,a,b⟩ (mC z fuel (.slice (some ⟨g,0,none⟩) k sc) r0 r1 r2 r3 (.slice oA on oc) ov e0) w)
  have hbe:=hid (nR_below ⟨13,a,b⟩ (mC z fuel (.slice (some ⟨g,0,none⟩) k sc) r0 r1 r2 r3 (.slice oA on oc) ov e0) w)
  go_enter Tryz.func112,Tryz.ntmps112
  go_wp2_with (first
   | (go_at_call 127;go_must ((with_reducible refine hat.out.mono ?_);rintro e w1 ⟨rfl,rfl⟩))
   | (with_reducible refine ld_mach (w.heap.size + 1) hbx.out _ rfl rfl rfl ?_)
   | (with_reducible refine st_mach (w.heap.size + 1 + 1) hrs.out rfl rfl _ _ rfl rfl rfl rfl ?_))
  exact bodyPost_ret (v:=.tuple #[.agg (mC z fuel (.slice (some ⟨g,0,none⟩) k sc) r0 r1 r2 r3 (.slice oA on oc) ov e0),.slice bA bn bc]) (res2_mach rfl _ _ (w.heap.size + 1 + 1) _ rfl rfl (Bk.setRow hrs.out _)) rfl
   ⟨_,_,_,_,_,_,_,_,_,rfl,(hR'.out.below hbe.out).setRow (hR'.out.off (by omega)) _,(Rows3.start hB hbe.out).setRow hB (by omega) _⟩
 | false=>
  rw [if_neg (by decide)]
  have hbx:=hid (nR_box ⟨13,a,b⟩ (mC pc fuel (.slice (some ⟨g,0,none⟩) k sc) r0 r1 r2 r3 (.slice oA on oc) ov e0) w)
  have hrs:=hid (nR_res ⟨13,a,b⟩ (mC pc fuel (.slice (some ⟨g,0,none⟩) k sc) r0 r1 r2 r3 (.slice oA on oc) ov e0) w)
  have hbe:=hid (nR_below ⟨13,a,b⟩ (mC pc fuel (.slice (some ⟨g,0,none⟩) k sc) r0 r1 r2 r3 (.slice oA on oc) ov e0) w)
  go_enter Tryz.func112,Tryz.ntmps112
  go_wp2_with (first
   | (go_at_call 127;go_must ((with_reducible refine hat.out.mono ?_);rintro e w1 ⟨rfl,rfl⟩))
   | (with_reducible refine ld_mach (w.heap.size + 1) hbx.out _ rfl rfl rfl ?_)
   | (with_reducible refine st_mach (w.heap.size + 1 + 1) hrs.out rfl rfl _ _ rfl rfl rfl rfl ?_))
  exact bodyPost_ret (v:=.tuple #[.agg (mC pc fuel (.slice (some ⟨g,0,none⟩) k sc) r0 r1 r2 r3 (.slice oA on oc) ov e0),.slice bA bn bc]) (res2_mach rfl _ _ (w.heap.size + 1 + 1) _ rfl rfl (Bk.setRow hrs.out _)) rfl
   ⟨_,_,_,_,_,_,_,_,_,rfl,(hR'.out.below hbe.out).setRow (hR'.out.off (by omega)) _,(Rows3.start hB hbe.out).setRow hB (by omega) _⟩
end
end
section
open Go.RowKit
def MachPost (B:Nat) (S O A:Value) (pc fuel:Int) (st:List Int) (r0 r1 r2 r3:Int) (ou:List Int) (ov:Bool) (e0:Int) (own:Blks) (bA:Option Addr) (bn bc:Nat) (w:World) (e:Ending) (w':World):Prop:=
 ∃ sA sn sc oA on oc,e=.returned (.agg (mC pc fuel (.slice sA sn sc) r0 r1 r2 r3 (.slice oA on oc) ov e0))∧MRow B w' st ou own sA sn sc oA on oc bA bn bc∧Rows3 B S O A w w'
section
variable (pc fuel:Int) (sA:Option Addr) (sc:Nat) (r0 r1 r2 r3:Int) (oA:Option Addr) (on oc:Nat) (ov:Bool) (e0:Int) (bA:Option Addr) (bn bc:Nat)
theorem reckons_zero (op:Int) (hop:7≤op∧op≤12) (k:Nat) (B:Nat) (st ou:List Int) (own:Blks) (w:World) (hB:B≤w.heap.size) (hR:MRow B w st ou own sA (k + 2) sc oA on oc bA bn bc) (hk:k≤1000)
  (ht:twoN op (st[k]?.getD 0) (st[k + 1]?.getD 0)=none) :
  Calls Tryz.prog 113 #[.int .i64 op,.agg (mC pc fuel (.slice sA (k + 2:Nat) sc) r0 r1 r2 r3 (.slice oA on oc) ov e0)] w
   (MachPost B (.slice sA (k + 2:Nat) sc) (.slice oA on oc) (.slice bA bn bc) pc fuel st r0 r1 r2 r3 [] true 12 own bA bn bc w):=by
 obtain ⟨g,rfl,hg,hsc,hv0⟩:=hR.top (k:=k + 1) (j:=k) (by omega)
 obtain ⟨g',hgg,-,-,hv1⟩:=hR.top (k:=k + 1) (j:=k + 1) (by omega)
 obtain rfl:g=g':=by simpa using hgg
 have hb0:=mB2_below (mC pc fuel (.slice (some ⟨g,0,none⟩) (k + 2:Nat) sc) r0 r1 r2 r3 (.slice oA on oc) ov e0) w
 have hbx:=hid (mB2_box (mC pc fuel (.slice (some ⟨g,0,none⟩) (k + 2:Nat) sc) r0 r1 r2 r3 (.slice oA on oc) ov e0) w)
 have hrs:=hid (mB2_res (mC pc fuel (.slice (some ⟨g,0,none⟩) (k + 2:Nat) sc) r0 r1 r2 r3 (.slice oA on oc) ov e0) w)
 have hm:=fun W=>made_any op (st[k]?.getD 0) (st[k + 1]?.getD 0) hop W
 rw [madeV,ht] at hm
 have hmd:Hid (∀ n,Calls Tryz.prog 130 #[.int .i64 op,.int .i64 (st[k]?.getD 0),.int .i64 (st[k + 1]?.getD 0)] ((mB2 (mC pc fuel (.slice (some ⟨g,0,none⟩) (k + 2:Nat) sc) r0 r1 r2 r3 (.slice oA on oc) ov e0) w).drewN n)
   fun e w'=>e=.returned (.tuple #[.int .i64 0,.int .i64 12])∧w'=(mB2 (mC pc fuel (.slice (some ⟨g,0,none⟩) (k + 2:Nat) sc) r0 r1 r2 r3 (.slice oA on oc) ov e0) w).drewN n):=hid (fun n=>(hm _).mono fun e w' ⟨h1,h2⟩=>⟨h1,h2.symm⟩)
 have c0:=(hb0.cell (p:=⟨g,0 + k,none⟩) hg).trans hv0
 have c1:=(hb0.cell (p:=⟨g,0 + (k + 1),none⟩) hg).trans hv1
 rw [Nat.zero_add] at c0 c1
 generalize st[k]?.getD 0=x at *
 generalize st[k + 1]?.getD 0=y at *
 have hR':=hid hR
 have hB0:=hid hb0
 have hov:=hid (fun W=>over_bad pc fuel (some ⟨g,0,none⟩) (k + 2) sc r0 r1 r2 r3 oA on oc ov e0 12 (by decide) W)
 clear hR hb0 hm hv0 hv1 hgg ht hop
 have d1:(k:Int) < (sc:Int):=by omega
 have d2:(k:Int) + 1 < (sc:Int):=by omega
 have q1:IntKind.i64.wrap ((k:Int) + 1)=(k:Int) + 1:=IntWalk.i64_in _ (by omega)
 have q2:((k:Int) + 1).toNat=k + 1:=by omega
 have q3:(0:Int)≤(k:Int) + 1:=by omega
 have q4:(k:Int) + 1 < (k:Int) + 2:=by omega
 go_enter Tryz.func113,Tryz.ntmps113
 go_wp2
 go_quiet ((go_at_call 130;exact Calls.quiet_of_same (hmd.out _)))
 go_wp2_with (first
  | (with_reducible refine ld_mach w.heap.size (hbx.out.drewN _) _ rfl rfl rfl ?_)
  | (go_at_call 79;go_must ((with_reducible refine (hov.out _).mono ?_);rintro e w2 ⟨rfl,hb2⟩;have B2:=hid (bnext (bnext hB0.out (drewN_below _ _)) hb2);have R2:=hid ((hrs.out.drewN _).below hb2);clear hb2))
  | (with_reducible refine st_mach (w.heap.size + 1) R2.out rfl rfl _ _ rfl rfl rfl rfl ?_))
 exact bodyPost_ret (v:=.agg (mC pc fuel (.slice (some ⟨g,0,none⟩) (k + 2:Nat) sc) r0 r1 r2 r3 (.slice none 0 0) true 12)) (res_mach rfl _ _ (w.heap.size + 1) rfl (Bk.setRow R2.out _)) rfl
  ⟨_,_,_,_,_,_,rfl,((hR'.out.below B2.out).mute).setRow ((hR'.out.mute).off (by omega)) _,(Rows3.start hB B2.out).setRow hB (by omega) _⟩
theorem reckons_some (op n:Int) (hop:7≤op∧op≤12) (k:Nat) (B:Nat) (st ou:List Int) (own:Blks) (w:World) (hB:B≤w.heap.size) (hR:MRow B w st ou own sA (k + 2) sc oA on oc bA bn bc) (hk:k≤1000)
  (ht:twoN op (st[k]?.getD 0) (st[k + 1]?.getD 0)=some n) :
  Calls Tryz.prog 113 #[.int .i64 op,.agg (mC pc fuel (.slice sA (k + 2:Nat) sc) r0 r1 r2 r3 (.slice oA on oc) ov e0)] w
   (MachPost B (.slice sA (k + 2:Nat) sc) (.slice oA on oc) (.slice bA bn bc) pc fuel (st.take k ++ [n]) r0 r1 r2 r3 ou ov e0 own bA bn bc w):=by
 obtain ⟨i0,hi,hz0,hz1,hz2⟩:=infoInt
 obtain ⟨g,rfl,hg,hsc,hv0⟩:=hR.top (k:=k + 1) (j:=k) (by omega)
 obtain ⟨g',hgg,-,-,hv1⟩:=hR.top (k:=k + 1) (j:=k + 1) (by omega)
 obtain rfl:g=g':=by simpa using hgg
 have hb0:=mB2_below (mC pc fuel (.slice (some ⟨g,0,none⟩) (k + 2:Nat) sc) r0 r1 r2 r3 (.slice oA on oc) ov e0) w
 have hbx:=hid (mB2_box (mC pc fuel (.slice (some ⟨g,0,none⟩) (k + 2:Nat) sc) r0 r1 r2 r3 (.slice oA on oc) ov e0) w)
 have hrs:=hid (mB2_res (mC pc fuel (.slice (some ⟨g,0,none⟩) (k + 2:Nat) sc) r0 r1 r2 r3 (.slice oA on oc) ov e0) w)
 have hm:=fun W=>made_any op (st[k]?.getD 0) (st[k + 1]?.getD 0) hop W
 rw [madeV,ht] at hm
 have hmd:Hid (∀ q,Calls Tryz.prog 130 #[.int .i64 op,.int .i64 (st[k]?.getD 0),.int .i64 (st[k + 1]?.getD 0)] ((mB2 (mC pc fuel (.slice (some ⟨g,0,none⟩) (k + 2:Nat) sc) r0 r1 r2 r3 (.slice oA on oc) ov e0) w).drewN q)
   fun e w'=>e=.returned (.tuple #[.int .i64 n,.int .i64 0])∧w'=(mB2 (mC pc fuel (.slice (some ⟨g,0,none⟩) (k + 2:Nat) sc) r0 r1 r2 r3 (.slice oA on oc) ov e0) w).drewN q):=hid (fun q=>(hm _).mono fun e w' ⟨h1,h2⟩=>⟨h1,h2.symm⟩)
 have c0:=(hb0.cell (p:=⟨g,0 + k,none⟩) hg).trans hv0
 have c1:=(hb0.cell (p:=⟨g,0 + (k + 1),none⟩) hg).trans hv1
 rw [Nat.zero_add] at c0 c1
 generalize st[k]?.getD 0=x at *
 generalize st[k + 1]?.getD 0=y at *
 have hnew:Hid (∀ q,Bk (((mB2 (mC pc fuel (.slice (some ⟨g,0,none⟩) (k + 2:Nat) sc) r0 r1 r2 r3 (.slice oA on oc) ov e0) w).drewN q).alloc (.cells #[.int .i64 n] 3)) (w.heap.size + 1 + 1) 3 #[.int .i64 n]):=hid (fun q=>by
  have:=Bk.new ((mB2 (mC pc fuel (.slice (some ⟨g,0,none⟩) (k + 2:Nat) sc) r0 r1 r2 r3 (.slice oA on oc) ov e0) w).drewN q) 3 #[.int .i64 n]
  simp only [World.heap_drewN,World.size_alloc] at this
  exact this)
 have hR':=hid (hR.cut (k:=k) (by omega))
 have hB0:=hid hb0
 clear hR hb0 hm hv0 hv1 hgg ht hop
 have d1:(k:Int) < (sc:Int):=by omega
 have d2:(k:Int) + 1 < (sc:Int):=by omega
 have q1:IntKind.i64.wrap ((k:Int) + 1)=(k:Int) + 1:=IntWalk.i64_in _ (by omega)
 have q2:((k:Int) + 1).toNat=k + 1:=by omega
 have q3:(0:Int)≤(k:Int) + 1:=by omega
 have q4:(k:Int) + 1 < (k:Int) + 2:=by omega
 go_enter Tryz.func113,Tryz.ntmps113
 go_wp2
 go_quiet ((go_at_call 130;exact Calls.quiet_of_same (hmd.out _)))
 clear q1 q2 q3 q4 c0 c1
 go_wp2_with (first
  | (at_builtin;go_must (refine append_rowH rfl (.tmp 40) (.tmp 42) _ rfl B 3 i0 _ 1 8 Tryz.underlying49 hi hz0 hz1 hz2 rfl (by decide) (.slice (some ⟨g,0,none⟩) k sc) k ((st.take k).map (.int .i64)) rfl (own_below (own_below hR'.out.st (bnext hB0.out (drewN_below _ _))) (below_alloc1 _ _)) (w.heap.size + 1 + 1) #[.int .i64 n] rfl (hnew.out nq) rfl rfl (by unfold maxLen;omega) (by omega) (by simp only [World.size_alloc,World.heap_drewN];omega) ?_;intro g2 cap w2 ho2 hg2 hl2;have X2:=hid (((hbx.out.drewN nq).alloc _).grown hg2 (fun e=>(hR'.out.off (b:=w.heap.size) (by omega)).1 _ e.symm rfl));have R2:=hid (((hrs.out.drewN nq).alloc _).grown hg2 (fun e=>(hR'.out.off (b:=w.heap.size + 1) (by omega)).1 _ e.symm rfl));have M2:=hid (((hR'.out.below (bnext hB0.out (drewN_below _ nq))).below (below_alloc1 _ _)).pushed ho2 hg2 hl2);have BB:Hid (Rows3 B (.slice (some ⟨g,0,none⟩) (k + 2:Nat) sc) (.slice oA on oc) (.slice bA bn bc) w w2):=hid ((Rows3.start hB (bnext (bnext hB0.out (drewN_below _ nq)) (below_alloc1 _ _))).grown hB hg2 (.inl rfl) (fun q hq=>own_ge hR'.out.st hq));have Q2:=hid hl2;have y2:=X2.out.cell 2;have yf:=X2.out.frozen;have yl:=X2.out.lt;have X3:Hid (Bk (w2.setCell ⟨w.heap.size,2,none⟩ (.slice (some ⟨g2,0,none⟩) (k + 1) cap)) w.heap.size 64 (mC pc fuel (.slice (some ⟨g2,0,none⟩) (k + 1) cap) r0 r1 r2 r3 (.slice oA on oc) ov e0)):=hid (by simpa using X2.out.set 2 (.slice (some ⟨g2,0,none⟩) (k + 1) cap));have R3:=hid (R2.out.far (p:=⟨w.heap.size,2,none⟩) (by simp) (.slice (some ⟨g2,0,none⟩) (k + 1) cap));simp only [List.getElem?_toArray,List.getElem?_cons_zero,List.getElem?_cons_succ] at y2;clear ho2 hg2 hl2))
  | (with_reducible refine ld_mach w.heap.size X3.out _ rfl rfl rfl ?_)
  | (with_reducible refine st_mach (w.heap.size + 1) R3.out rfl rfl _ _ rfl rfl rfl rfl ?_))
 have hoff:∀ b,b=w.heap.size∨b=w.heap.size + 1→offB b (.slice (some ⟨g2,0,none⟩) (k + 1) cap)∧offB b (.slice oA on oc)∧offB b (.slice bA bn bc):=fun b hb=>by
  have ho:=hR'.out.off (b:=b) (by omega)
  refine ⟨fun q hq=>?_,ho.2⟩
  obtain rfl:g2=q:=by simpa [Value.ownBlock] using hq
  rcases Q2.out with h | h
  ·exact ho.1 g2 h
  ·simp only [World.size_alloc,World.heap_drewN] at h
   omega
 exact bodyPost_ret (v:=.agg (mC pc fuel (.slice (some ⟨g2,0,none⟩) (k + 1) cap) r0 r1 r2 r3 (.slice oA on oc) ov e0)) (res_mach rfl _ _ (w.heap.size + 1) rfl (Bk.setRow R3.out _)) rfl
  ⟨_,_,_,_,_,_,rfl,(M2.out.set (hoff _ (.inl rfl)) _ _).setRow (hoff _ (.inr rfl)) _,(BB.out.set hB (by omega) _ _).setRow hB (by omega) _⟩
end
end
section
open Go.RowKit
theorem Rows3.after {B:Nat} {S O A:Value} {w W w':World} (hB:B≤w.heap.size) (hb:Below w.heap.size w W) (k:Rows3 B S O A W w'):Rows3 B S O A w w':=
 ⟨(hb.mono hB).trans k.below,fun i hi h1 h2 h3=>(k.kept i (Nat.lt_of_lt_of_le hi hb.size) h1 h2 h3).trans (hb.block i hi)⟩
section
variable (pc fuel:Int) (sA:Option Addr) (sn sc:Nat) (r0 r1 r2 r3:Int) (oA:Option Addr) (on oc:Nat) (ov:Bool) (e0:Int) (aA:Option Addr) (an ac:Nat) (bA:Option Addr) (bn bc:Nat)
theorem behind_puts1 (v:Int) (a b:Int) (B:Nat) (st ou:List Int) (own:Blks) (w:World) (hB:B≤w.heap.size) (hR:MRow B w st ou own sA sn sc oA on oc bA bn bc) (hn:sn≤1000)
  (hnm:∀ W,Below w.heap.size w W→Calls Tryz.prog 126 #[.agg #[.int .i64 1,.int .i64 a,.int .i64 b],.slice aA an ac,.agg (mC pc fuel (.slice sA sn sc) r0 r1 r2 r3 (.slice oA on oc) ov e0),.slice bA bn bc] W (NamedPost v W)) :
  Calls Tryz.prog 81 #[.agg #[.int .i64 1,.int .i64 a,.int .i64 b],.slice aA an ac,.agg (mC pc fuel (.slice sA sn sc) r0 r1 r2 r3 (.slice oA on oc) ov e0),.slice bA bn bc] w
   (StepPost B (.slice sA sn sc) (.slice oA on oc) (.slice bA bn bc) pc fuel (st ++ [v]) r0 r1 r2 r3 ou ov e0 own w):=by
 have hbe:=hid (nR_below ⟨1,a,b⟩ (mC pc fuel (.slice sA sn sc) r0 r1 r2 r3 (.slice oA on oc) ov e0) w)
 have hbx:=hid (nR_box ⟨1,a,b⟩ (mC pc fuel (.slice sA sn sc) r0 r1 r2 r3 (.slice oA on oc) ov e0) w)
 have hrs:=hid (nR_res ⟨1,a,b⟩ (mC pc fuel (.slice sA sn sc) r0 r1 r2 r3 (.slice oA on oc) ov e0) w)
 have HR:=hid hR
 have hof:=hid ((hR.below hbe.out).offM hrs.out)
 have hc:=hid (puts_any pc fuel sA sn sc r0 r1 r2 r3 oA on oc ov e0 aA an ac bA bn bc ⟨1,a,b⟩ B st ou own v (nR ⟨1,a,b⟩ (mC pc fuel (.slice sA sn sc) r0 r1 r2 r3 (.slice oA on oc) ov e0) w) (Nat.le_trans hB hbe.out.size) (hR.below hbe.out) hn (fun W hW=>hnm W (bnext hbe.out hW)))
 clear hR hnm
 go_enter Tryz.func81,Tryz.ntmps81
 go_wp2_with (first
  | (with_reducible refine ld_mach (w.heap.size + 1) hbx.out _ rfl rfl rfl ?_)
  | (go_at_call 111;go_must ((with_reducible refine hc.out.mono ?_);rintro e w1 ⟨g,cap,rfl,M1,B1⟩;have R1:=hid (B1.bk hrs.out hof.out.1 hof.out.2.1 hof.out.2.2);have M2:=hid M1;have B2:=hid (Rows3.after hB hbe.out B1);clear M1 B1))
  | (with_reducible refine st_mach (w.heap.size + 1 + 1) R1.out rfl rfl _ _ rfl rfl rfl rfl ?_))
 exact bodyPost_ret (v:=.tuple #[.agg (mC pc fuel (.slice (some ⟨g,0,none⟩) (sn + 1) cap) r0 r1 r2 r3 (.slice oA on oc) ov e0),.slice bA bn bc]) (res2_mach rfl _ _ (w.heap.size + 1 + 1) _ rfl rfl (Bk.setRow R1.out _)) rfl
  ⟨_,_,_,_,_,_,_,_,_,rfl,M2.out.setRow (M2.out.offM R1.out) _,B2.out.setRow hB (by omega) _⟩
theorem behind_puts2 (v:Int) (a b:Int) (B:Nat) (st ou:List Int) (own:Blks) (w:World) (hB:B≤w.heap.size) (hR:MRow B w st ou own sA sn sc oA on oc bA bn bc) (hn:sn≤1000)
  (hnm:∀ W,Below w.heap.size w W→Calls Tryz.prog 126 #[.agg #[.int .i64 2,.int .i64 a,.int .i64 b],.slice aA an ac,.agg (mC pc fuel (.slice sA sn sc) r0 r1 r2 r3 (.slice oA on oc) ov e0),.slice bA bn bc] W (NamedPost v W)) :
  Calls Tryz.prog 81 #[.agg #[.int .i64 2,.int .i64 a,.int .i64 b],.slice aA an ac,.agg (mC pc fuel (.slice sA sn sc) r0 r1 r2 r3 (.slice oA on oc) ov e0),.slice bA bn bc] w
   (StepPost B (.slice sA sn sc) (.slice oA on oc) (.slice bA bn bc) pc fuel (st ++ [v]) r0 r1 r2 r3 ou ov e0 own w):=by
 have hbe:=hid (nR_below ⟨2,a,b⟩ (mC pc fuel (.slice sA sn sc) r0 r1 r2 r3 (.slice oA on oc) ov e0) w)
 have hbx:=hid (nR_box ⟨2,a,b⟩ (mC pc fuel (.slice sA sn sc) r0 r1 r2 r3 (.slice oA on oc) ov e0) w)
 have hrs:=hid (nR_res ⟨2,a,b⟩ (mC pc fuel (.slice sA sn sc) r0 r1 r2 r3 (.slice oA on oc) ov e0) w)
 have HR:=hid hR
 have hof:=hid ((hR.below hbe.out).offM hrs.out)
 have hc:=hid (puts_any pc fuel sA sn sc r0 r1 r2 r3 oA on oc ov e0 aA an ac bA bn bc ⟨2,a,b⟩ B st ou own v (nR ⟨2,a,b⟩ (mC pc fuel (.slice sA sn sc) r0 r1 r2 r3 (.slice oA on oc) ov e0) w) (Nat.le_trans hB hbe.out.size) (hR.below hbe.out) hn (fun W hW=>hnm W (bnext hbe.out hW)))
 clear hR hnm
 go_enter Tryz.func81,Tryz.ntmps81
 go_wp2_with (first
  | (with_reducible refine ld_mach (w.heap.size + 1) hbx.out _ rfl rfl rfl ?_)
  | (go_at_call 111;go_must ((with_reducible refine hc.out.mono ?_);rintro e w1 ⟨g,cap,rfl,M1,B1⟩;have R1:=hid (B1.bk hrs.out hof.out.1 hof.out.2.1 hof.out.2.2);have M2:=hid M1;have B2:=hid (Rows3.after hB hbe.out B1);clear M1 B1))
  | (with_reducible refine st_mach (w.heap.size + 1 + 1) R1.out rfl rfl _ _ rfl rfl rfl rfl ?_))
 exact bodyPost_ret (v:=.tuple #[.agg (mC pc fuel (.slice (some ⟨g,0,none⟩) (sn + 1) cap) r0 r1 r2 r3 (.slice oA on oc) ov e0),.slice bA bn bc]) (res2_mach rfl _ _ (w.heap.size + 1 + 1) _ rfl rfl (Bk.setRow R1.out _)) rfl
  ⟨_,_,_,_,_,_,_,_,_,rfl,M2.out.setRow (M2.out.offM R1.out) _,B2.out.setRow hB (by omega) _⟩
theorem behind_puts4 (v:Int) (a b:Int) (B:Nat) (st ou:List Int) (own:Blks) (w:World) (hB:B≤w.heap.size) (hR:MRow B w st ou own sA sn sc oA on oc bA bn bc) (hn:sn≤1000)
  (hnm:∀ W,Below w.heap.size w W→Calls Tryz.prog 126 #[.agg #[.int .i64 4,.int .i64 a,.int .i64 b],.slice aA an ac,.agg (mC pc fuel (.slice sA sn sc) r0 r1 r2 r3 (.slice oA on oc) ov e0),.slice bA bn bc] W (NamedPost v W)) :
  Calls Tryz.prog 81 #[.agg #[.int .i64 4,.int .i64 a,.int .i64 b],.slice aA an ac,.agg (mC pc fuel (.slice sA sn sc) r0 r1 r2 r3 (.slice oA on oc) ov e0),.slice bA bn bc] w
   (StepPost B (.slice sA sn sc) (.slice oA on oc) (.slice bA bn bc) pc fuel (st ++ [v]) r0 r1 r2 r3 ou ov e0 own w):=by
 have hbe:=hid (nR_below ⟨4,a,b⟩ (mC pc fuel (.slice sA sn sc) r0 r1 r2 r3 (.slice oA on oc) ov e0) w)
 have hbx:=hid (nR_box ⟨4,a,b⟩ (mC pc fuel (.slice sA sn sc) r0 r1 r2 r3 (.slice oA on oc) ov e0) w)
 have hrs:=hid (nR_res ⟨4,a,b⟩ (mC pc fuel (.slice sA sn sc) r0 r1 r2 r3 (.slice oA on oc) ov e0) w)
 have HR:=hid hR
 have hof:=hid ((hR.below hbe.out).offM hrs.out)
 have hc:=hid (puts_any pc fuel sA sn sc r0 r1 r2 r3 oA on oc ov e0 aA an ac bA bn bc ⟨4,a,b⟩ B st ou own v (nR ⟨4,a,b⟩ (mC pc fuel (.slice sA sn sc) r0 r1 r2 r3 (.slice oA on oc) ov e0) w) (Nat.le_trans hB hbe.out.size) (hR.below hbe.out) hn (fun W hW=>hnm W (bnext hbe.out hW)))
 clear hR hnm
 go_enter Tryz.func81,Tryz.ntmps81
 go_wp2_with (first
  | (with_reducible refine ld_mach (w.heap.size + 1) hbx.out _ rfl rfl rfl ?_)
  | (go_at_call 111;go_must ((with_reducible refine hc.out.mono ?_);rintro e w1 ⟨g,cap,rfl,M1,B1⟩;have R1:=hid (B1.bk hrs.out hof.out.1 hof.out.2.1 hof.out.2.2);have M2:=hid M1;have B2:=hid (Rows3.after hB hbe.out B1);clear M1 B1))
  | (with_reducible refine st_mach (w.heap.size + 1 + 1) R1.out rfl rfl _ _ rfl rfl rfl rfl ?_))
 exact bodyPost_ret (v:=.tuple #[.agg (mC pc fuel (.slice (some ⟨g,0,none⟩) (sn + 1) cap) r0 r1 r2 r3 (.slice oA on oc) ov e0),.slice bA bn bc]) (res2_mach rfl _ _ (w.heap.size + 1 + 1) _ rfl rfl (Bk.setRow R1.out _)) rfl
  ⟨_,_,_,_,_,_,_,_,_,rfl,M2.out.setRow (M2.out.offM R1.out) _,B2.out.setRow hB (by omega) _⟩
theorem behind_puts6 (v:Int) (a b:Int) (B:Nat) (st ou:List Int) (own:Blks) (w:World) (hB:B≤w.heap.size) (hR:MRow B w st ou own sA sn sc oA on oc bA bn bc) (hn:sn≤1000)
  (hnm:∀ W,Below w.heap.size w W→Calls Tryz.prog 126 #[.agg #[.int .i64 6,.int .i64 a,.int .i64 b],.slice aA an ac,.agg (mC pc fuel (.slice sA sn sc) r0 r1 r2 r3 (.slice oA on oc) ov e0),.slice bA bn bc] W (NamedPost v W)) :
  Calls Tryz.prog 81 #[.agg #[.int .i64 6,.int .i64 a,.int .i64 b],.slice aA an ac,.agg (mC pc fuel (.slice sA sn sc) r0 r1 r2 r3 (.slice oA on oc) ov e0),.slice bA bn bc] w
   (StepPost B (.slice sA sn sc) (.slice oA on oc) (.slice bA bn bc) pc fuel (st ++ [v]) r0 r1 r2 r3 ou ov e0 own w):=by
 have hbe:=hid (nR_below ⟨6,a,b⟩ (mC pc fuel (.slice sA sn sc) r0 r1 r2 r3 (.slice oA on oc) ov e0) w)
 have hbx:=hid (nR_box ⟨6,a,b⟩ (mC pc fuel (.slice sA sn sc) r0 r1 r2 r3 (.slice oA on oc) ov e0) w)
 have hrs:=hid (nR_res ⟨6,a,b⟩ (mC pc fuel (.slice sA sn sc) r0 r1 r2 r3 (.slice oA on oc) ov e0) w)
 have HR:=hid hR
 have hof:=hid ((hR.below hbe.out).offM hrs.out)
 have hc:=hid (puts_any pc fuel sA sn sc r0 r1 r2 r3 oA on oc ov e0 aA an ac bA bn bc ⟨6,a,b⟩ B st ou own v (nR ⟨6,a,b⟩ (mC pc fuel (.slice sA sn sc) r0 r1 r2 r3 (.slice oA on oc) ov e0) w) (Nat.le_trans hB hbe.out.size) (hR.below hbe.out) hn (fun W hW=>hnm W (bnext hbe.out hW)))
 clear hR hnm
 go_enter Tryz.func81,Tryz.ntmps81
 go_wp2_with (first
  | (with_reducible refine ld_mach (w.heap.size + 1) hbx.out _ rfl rfl rfl ?_)
  | (go_at_call 111;go_must ((with_reducible refine hc.out.mono ?_);rintro e w1 ⟨g,cap,rfl,M1,B1⟩;have R1:=hid (B1.bk hrs.out hof.out.1 hof.out.2.1 hof.out.2.2);have M2:=hid M1;have B2:=hid (Rows3.after hB hbe.out B1);clear M1 B1))
  | (with_reducible refine st_mach (w.heap.size + 1 + 1) R1.out rfl rfl _ _ rfl rfl rfl rfl ?_))
 exact bodyPost_ret (v:=.tuple #[.agg (mC pc fuel (.slice (some ⟨g,0,none⟩) (sn + 1) cap) r0 r1 r2 r3 (.slice oA on oc) ov e0),.slice bA bn bc]) (res2_mach rfl _ _ (w.heap.size + 1 + 1) _ rfl rfl (Bk.setRow R1.out _)) rfl
  ⟨_,_,_,_,_,_,_,_,_,rfl,M2.out.setRow (M2.out.offM R1.out) _,B2.out.setRow hB (by omega) _⟩
theorem behind_takes3 (pc':Int) (st' ou':List Int) (q0 q1 q2 q3:Int) (own':Blks) (a b:Int) (B:Nat) (st ou:List Int) (own:Blks) (w:World) (hB:B≤w.heap.size) (hR:MRow B w st ou own sA sn sc oA on oc bA bn bc)
  (htk:∀ W,Below w.heap.size w W→Calls Tryz.prog 112 #[.agg #[.int .i64 3,.int .i64 a,.int .i64 b],.agg (mC pc fuel (.slice sA sn sc) r0 r1 r2 r3 (.slice oA on oc) ov e0),.slice bA bn bc] W (StepPost B (.slice sA sn sc) (.slice oA on oc) (.slice bA bn bc) pc' fuel st' q0 q1 q2 q3 ou' ov e0 own' W)) :
  Calls Tryz.prog 81 #[.agg #[.int .i64 3,.int .i64 a,.int .i64 b],.slice aA an ac,.agg (mC pc fuel (.slice sA sn sc) r0 r1 r2 r3 (.slice oA on oc) ov e0),.slice bA bn bc] w
   (StepPost B (.slice sA sn sc) (.slice oA on oc) (.slice bA bn bc) pc' fuel st' q0 q1 q2 q3 ou' ov e0 own' w):=by
 have hbe:=hid (nR_below ⟨3,a,b⟩ (mC pc fuel (.slice sA sn sc) r0 r1 r2 r3 (.slice oA on oc) ov e0) w)
 have hbx:=hid (nR_box ⟨3,a,b⟩ (mC pc fuel (.slice sA sn sc) r0 r1 r2 r3 (.slice oA on oc) ov e0) w)
 have hrs:=hid (nR_res ⟨3,a,b⟩ (mC pc fuel (.slice sA sn sc) r0 r1 r2 r3 (.slice oA on oc) ov e0) w)
 have HR:=hid hR
 have hof:=hid ((hR.below hbe.out).offM hrs.out)
 have hc:=hid (htk _ hbe.out)
 clear hR htk
 go_enter Tryz.func81,Tryz.ntmps81
 go_wp2_with (first
  | (with_reducible refine ld_mach (w.heap.size + 1) hbx.out _ rfl rfl rfl ?_)
  | (go_at_call 112;go_must ((with_reducible refine hc.out.mono ?_);rintro e w1 ⟨sA',sn',sc',oA',on',oc',bA',bn',bc',rfl,M1,B1⟩;have R1:=hid (B1.bk hrs.out hof.out.1 hof.out.2.1 hof.out.2.2);have M2:=hid M1;have B2:=hid (Rows3.after hB hbe.out B1);clear M1 B1))
  | (with_reducible refine st_mach (w.heap.size + 1 + 1) R1.out rfl rfl _ _ rfl rfl rfl rfl ?_))
 exact bodyPost_ret (v:=.tuple #[.agg (mC pc' fuel (.slice sA' sn' sc') q0 q1 q2 q3 (.slice oA' on' oc') ov e0),.slice bA' bn' bc']) (res2_mach rfl _ _ (w.heap.size + 1 + 1) _ rfl rfl (Bk.setRow R1.out _)) rfl
  ⟨_,_,_,_,_,_,_,_,_,rfl,M2.out.setRow (M2.out.offM R1.out) _,B2.out.setRow hB (by omega) _⟩
theorem behind_takes5 (pc':Int) (st' ou':List Int) (q0 q1 q2 q3:Int) (own':Blks) (a b:Int) (B:Nat) (st ou:List Int) (own:Blks) (w:World) (hB:B≤w.heap.size) (hR:MRow B w st ou own sA sn sc oA on oc bA bn bc)
  (htk:∀ W,Below w.heap.size w W→Calls Tryz.prog 112 #[.agg #[.int .i64 5,.int .i64 a,.int .i64 b],.agg (mC pc fuel (.slice sA sn sc) r0 r1 r2 r3 (.slice oA on oc) ov e0),.slice bA bn bc] W (StepPost B (.slice sA sn sc) (.slice oA on oc) (.slice bA bn bc) pc' fuel st' q0 q1 q2 q3 ou' ov e0 own' W)) :
  Calls Tryz.prog 81 #[.agg #[.int .i64 5,.int .i64 a,.int .i64 b],.slice aA an ac,.agg (mC pc fuel (.slice sA sn sc) r0 r1 r2 r3 (.slice oA on oc) ov e0),.slice bA bn bc] w
   (StepPost B (.slice sA sn sc) (.slice oA on oc) (.slice bA bn bc) pc' fuel st' q0 q1 q2 q3 ou' ov e0 own' w):=by
 have hbe:=hid (nR_below ⟨5,a,b⟩ (mC pc fuel (.slice sA sn sc) r0 r1 r2 r3 (.slice oA on oc) ov e0) w)
 have hbx:=hid (nR_box ⟨5,a,b⟩ (mC pc fuel (.slice sA sn sc) r0 r1 r2 r3 (.slice oA on oc) ov e0) w)
 have hrs:=hid (nR_res ⟨5,a,b⟩ (mC pc fuel (.slice sA sn sc) r0 r1 r2 r3 (.slice oA on oc) ov e0) w)
 have HR:=hid hR
 have hof:=hid ((hR.below hbe.out).offM hrs.out)
 have hc:=hid (htk _ hbe.out)
 clear hR htk
 go_enter Tryz.func81,Tryz.ntmps81
 go_wp2_with (first
  | (with_reducible refine ld_mach (w.heap.size + 1) hbx.out _ rfl rfl rfl ?_)
  | (go_at_call 112;go_must ((with_reducible refine hc.out.mono ?_);rintro e w1 ⟨sA',sn',sc',oA',on',oc',bA',bn',bc',rfl,M1,B1⟩;have R1:=hid (B1.bk hrs.out hof.out.1 hof.out.2.1 hof.out.2.2);have M2:=hid M1;have B2:=hid (Rows3.after hB hbe.out B1);clear M1 B1))
  | (with_reducible refine st_mach (w.heap.size + 1 + 1) R1.out rfl rfl _ _ rfl rfl rfl rfl ?_))
 exact bodyPost_ret (v:=.tuple #[.agg (mC pc' fuel (.slice sA' sn' sc') q0 q1 q2 q3 (.slice oA' on' oc') ov e0),.slice bA' bn' bc']) (res2_mach rfl _ _ (w.heap.size + 1 + 1) _ rfl rfl (Bk.setRow R1.out _)) rfl
  ⟨_,_,_,_,_,_,_,_,_,rfl,M2.out.setRow (M2.out.offM R1.out) _,B2.out.setRow hB (by omega) _⟩
theorem behind_takes13 (pc':Int) (st' ou':List Int) (q0 q1 q2 q3:Int) (own':Blks) (a b:Int) (B:Nat) (st ou:List Int) (own:Blks) (w:World) (hB:B≤w.heap.size) (hR:MRow B w st ou own sA sn sc oA on oc bA bn bc)
  (htk:∀ W,Below w.heap.size w W→Calls Tryz.prog 112 #[.agg #[.int .i64 13,.int .i64 a,.int .i64 b],.agg (mC pc fuel (.slice sA sn sc) r0 r1 r2 r3 (.slice oA on oc) ov e0),.slice bA bn bc] W (StepPost B (.slice sA sn sc) (.slice oA on oc) (.slice bA bn bc) pc' fuel st' q0 q1 q2 q3 ou' ov e0 own' W)) :
  Calls Tryz.prog 81 #[.agg #[.int .i64 13,.int .i64 a,.int .i64 b],.slice aA an ac,.agg (mC pc fuel (.slice sA sn sc) r0 r1 r2 r3 (.slice oA on oc) ov e0),.slice bA bn bc] w
   (StepPost B (.slice sA sn sc) (.slice oA on oc) (.slice bA bn bc) pc' fuel st' q0 q1 q2 q3 ou' ov e0 own' w):=by
 have hbe:=hid (nR_below ⟨13,a,b⟩ (mC pc fuel (.slice sA sn sc) r0 r1 r2 r3 (.slice oA on oc) ov e0) w)
 have hbx:=hid (nR_box ⟨13,a,b⟩ (mC pc fuel (.slice sA sn sc) r0 r1 r2 r3 (.slice oA on oc) ov e0) w)
 have hrs:=hid (nR_res ⟨13,a,b⟩ (mC pc fuel (.slice sA sn sc) r0 r1 r2 r3 (.slice oA on oc) ov e0) w)
 have HR:=hid hR
 have hof:=hid ((hR.below hbe.out).offM hrs.out)
 have hc:=hid (htk _ hbe.out)
 clear hR htk
 go_enter Tryz.func81,Tryz.ntmps81
 go_wp2_with (first
  | (with_reducible refine ld_mach (w.heap.size + 1) hbx.out _ rfl rfl rfl ?_)
  | (go_at_call 112;go_must ((with_reducible refine hc.out.mono ?_);rintro e w1 ⟨sA',sn',sc',oA',on',oc',bA',bn',bc',rfl,M1,B1⟩;have R1:=hid (B1.bk hrs.out hof.out.1 hof.out.2.1 hof.out.2.2);have M2:=hid M1;have B2:=hid (Rows3.after hB hbe.out B1);clear M1 B1))
  | (with_reducible refine st_mach (w.heap.size + 1 + 1) R1.out rfl rfl _ _ rfl rfl rfl rfl ?_))
 exact bodyPost_ret (v:=.tuple #[.agg (mC pc' fuel (.slice sA' sn' sc') q0 q1 q2 q3 (.slice oA' on' oc') ov e0),.slice bA' bn' bc']) (res2_mach rfl _ _ (w.heap.size + 1 + 1) _ rfl rfl (Bk.setRow R1.out _)) rfl
  ⟨_,_,_,_,_,_,_,_,_,rfl,M2.out.setRow (M2.out.offM R1.out) _,B2.out.setRow hB (by omega) _⟩
theorem behind_takes15 (pc':Int) (st' ou':List Int) (q0 q1 q2 q3:Int) (own':Blks) (a b:Int) (B:Nat) (st ou:List Int) (own:Blks) (w:World) (hB:B≤w.heap.size) (hR:MRow B w st ou own sA sn sc oA on oc bA bn bc)
  (htk:∀ W,Below w.heap.size w W→Calls Tryz.prog 112 #[.agg #[.int .i64 15,.int .i64 a,.int .i64 b],.agg (mC pc fuel (.slice sA sn sc) r0 r1 r2 r3 (.slice oA on oc) ov e0),.slice bA bn bc] W (StepPost B (.slice sA sn sc) (.slice oA on oc) (.slice bA bn bc) pc' fuel st' q0 q1 q2 q3 ou' ov e0 own' W)) :
  Calls Tryz.prog 81 #[.agg #[.int .i64 15,.int .i64 a,.int .i64 b],.slice aA an ac,.agg (mC pc fuel (.slice sA sn sc) r0 r1 r2 r3 (.slice oA on oc) ov e0),.slice bA bn bc] w
   (StepPost B (.slice sA sn sc) (.slice oA on oc) (.slice bA bn bc) pc' fuel st' q0 q1 q2 q3 ou' ov e0 own' w):=by
 have hbe:=hid (nR_below ⟨15,a,b⟩ (mC pc fuel (.slice sA sn sc) r0 r1 r2 r3 (.slice oA on oc) ov e0) w)
 have hbx:=hid (nR_box ⟨15,a,b⟩ (mC pc fuel (.slice sA sn sc) r0 r1 r2 r3 (.slice oA on oc) ov e0) w)
 have hrs:=hid (nR_res ⟨15,a,b⟩ (mC pc fuel (.slice sA sn sc) r0 r1 r2 r3 (.slice oA on oc) ov e0) w)
 have HR:=hid hR
 have hof:=hid ((hR.below hbe.out).offM hrs.out)
 have hc:=hid (htk _ hbe.out)
 clear hR htk
 go_enter Tryz.func81,Tryz.ntmps81
 go_wp2_with (first
  | (with_reducible refine ld_mach (w.heap.size + 1) hbx.out _ rfl rfl rfl ?_)
  | (go_at_call 112;go_must ((with_reducible refine hc.out.mono ?_);rintro e w1 ⟨sA',sn',sc',oA',on',oc',bA',bn',bc',rfl,M1,B1⟩;have R1:=hid (B1.bk hrs.out hof.out.1 hof.out.2.1 hof.out.2.2);have M2:=hid M1;have B2:=hid (Rows3.after hB hbe.out B1);clear M1 B1))
  | (with_reducible refine st_mach (w.heap.size + 1 + 1) R1.out rfl rfl _ _ rfl rfl rfl rfl ?_))
 exact bodyPost_ret (v:=.tuple #[.agg (mC pc' fuel (.slice sA' sn' sc') q0 q1 q2 q3 (.slice oA' on' oc') ov e0),.slice bA' bn' bc']) (res2_mach rfl _ _ (w.heap.size + 1 + 1) _ rfl rfl (Bk.setRow R1.out _)) rfl
  ⟨_,_,_,_,_,_,_,_,_,rfl,M2.out.setRow (M2.out.offM R1.out) _,B2.out.setRow hB (by omega) _⟩
theorem behind_reckons7 (st' ou':List Int) (ov':Bool) (e0':Int) (a b:Int) (B:Nat) (st ou:List Int) (own:Blks) (w:World) (hB:B≤w.heap.size) (hR:MRow B w st ou own sA sn sc oA on oc bA bn bc)
  (htk:∀ W,Below w.heap.size w W→Calls Tryz.prog 113 #[.int .i64 7,.agg (mC pc fuel (.slice sA sn sc) r0 r1 r2 r3 (.slice oA on oc) ov e0)] W (MachPost B (.slice sA sn sc) (.slice oA on oc) (.slice bA bn bc) pc fuel st' r0 r1 r2 r3 ou' ov' e0' own bA bn bc W)) :
  Calls Tryz.prog 81 #[.agg #[.int .i64 7,.int .i64 a,.int .i64 b],.slice aA an ac,.agg (mC pc fuel (.slice sA sn sc) r0 r1 r2 r3 (.slice oA on oc) ov e0),.slice bA bn bc] w
   (StepPost B (.slice sA sn sc) (.slice oA on oc) (.slice bA bn bc) pc fuel st' r0 r1 r2 r3 ou' ov' e0' own w):=by
 have hbe:=hid (nR_below ⟨7,a,b⟩ (mC pc fuel (.slice sA sn sc) r0 r1 r2 r3 (.slice oA on oc) ov e0) w)
 have hbx:=hid (nR_box ⟨7,a,b⟩ (mC pc fuel (.slice sA sn sc) r0 r1 r2 r3 (.slice oA on oc) ov e0) w)
 have hrs:=hid (nR_res ⟨7,a,b⟩ (mC pc fuel (.slice sA sn sc) r0 r1 r2 r3 (.slice oA on oc) ov e0) w)
 have HR:=hid hR
 have hof:=hid ((hR.below hbe.out).offM hrs.out)
 have hc:=hid (htk _ hbe.out)
 clear hR htk
 go_enter Tryz.func81,Tryz.ntmps81
 go_wp2_with (first
  | (with_reducible refine ld_mach (w.heap.size + 1) hbx.out _ rfl rfl rfl ?_)
  | (go_at_call 113;go_must ((with_reducible refine hc.out.mono ?_);rintro e w1 ⟨sA',sn',sc',oA',on',oc',rfl,M1,B1⟩;have R1:=hid (B1.bk hrs.out hof.out.1 hof.out.2.1 hof.out.2.2);have M2:=hid M1;have B2:=hid (Rows3.after hB hbe.out B1);clear M1 B1))
  | (with_reducible refine st_mach (w.heap.size + 1 + 1) R1.out rfl rfl _ _ rfl rfl rfl rfl ?_))
 exact bodyPost_ret (v:=.tuple #[.agg (mC pc fuel (.slice sA' sn' sc') r0 r1 r2 r3 (.slice oA' on' oc') ov' e0'),.slice bA bn bc]) (res2_mach rfl _ _ (w.heap.size + 1 + 1) _ rfl rfl (Bk.setRow R1.out _)) rfl
  ⟨_,_,_,_,_,_,_,_,_,rfl,M2.out.setRow (M2.out.offM R1.out) _,B2.out.setRow hB (by omega) _⟩
theorem behind_reckons8 (st' ou':List Int) (ov':Bool) (e0':Int) (a b:Int) (B:Nat) (st ou:List Int) (own:Blks) (w:World) (hB:B≤w.heap.size) (hR:MRow B w st ou own sA sn sc oA on oc bA bn bc)
  (htk:∀ W,Below w.heap.size w W→Calls Tryz.prog 113 #[.int .i64 8,.agg (mC pc fuel (.slice sA sn sc) r0 r1 r2 r3 (.slice oA on oc) ov e0)] W (MachPost B (.slice sA sn sc) (.slice oA on oc) (.slice bA bn bc) pc fuel st' r0 r1 r2 r3 ou' ov' e0' own bA bn bc W)) :
  Calls Tryz.prog 81 #[.agg #[.int .i64 8,.int .i64 a,.int .i64 b],.slice aA an ac,.agg (mC pc fuel (.slice sA sn sc) r0 r1 r2 r3 (.slice oA on oc) ov e0),.slice bA bn bc] w
   (StepPost B (.slice sA sn sc) (.slice oA on oc) (.slice bA bn bc) pc fuel st' r0 r1 r2 r3 ou' ov' e0' own w):=by
 have hbe:=hid (nR_below ⟨8,a,b⟩ (mC pc fuel (.slice sA sn sc) r0 r1 r2 r3 (.slice oA on oc) ov e0) w)
 have hbx:=hid (nR_box ⟨8,a,b⟩ (mC pc fuel (.slice sA sn sc) r0 r1 r2 r3 (.slice oA on oc) ov e0) w)
 have hrs:=hid (nR_res ⟨8,a,b⟩ (mC pc fuel (.slice sA sn sc) r0 r1 r2 r3 (.slice oA on oc) ov e0) w)
 have HR:=hid hR
 have hof:=hid ((hR.below hbe.out).offM hrs.out)
 have hc:=hid (htk _ hbe.out)
 clear hR htk
 go_enter Tryz.func81,Tryz.ntmps81
 go_wp2_with (first
  | (with_reducible refine ld_mach (w.heap.size + 1) hbx.out _ rfl rfl rfl ?_)
  | (go_at_call 113;go_must ((with_reducible refine hc.out.mono ?_);rintro e w1 ⟨sA',sn',sc',oA',on',oc',rfl,M1,B1⟩;have R1:=hid (B1.bk hrs.out hof.out.1 hof.out.2.1 hof.out.2.2);have M2:=hid M1;have B2:=hid (Rows3.after hB hbe.out B1);clear M1 B1))
  | (with_reducible refine st_mach (w.heap.size + 1 + 1) R1.out rfl rfl _ _ rfl rfl rfl rfl ?_))
 exact bodyPost_ret (v:=.tuple #[.agg (mC pc fuel (.slice sA' sn' sc') r0 r1 r2 r3 (.slice oA' on' oc') ov' e0'),.slice bA bn bc]) (res2_mach rfl _ _ (w.heap.size + 1 + 1) _ rfl rfl (Bk.setRow R1.out _)) rfl
  ⟨_,_,_,_,_,_,_,_,_,rfl,M2.out.setRow (M2.out.offM R1.out) _,B2.out.setRow hB (by omega) _⟩
theorem behind_reckons9 (st' ou':List Int) (ov':Bool) (e0':Int) (a b:Int) (B:Nat) (st ou:List Int) (own:Blks) (w:World) (hB:B≤w.heap.size) (hR:MRow B w st ou own sA sn sc oA on oc bA bn bc)
  (htk:∀ W,Below w.heap.size w W→Calls Tryz.prog 113 #[.int .i64 9,.agg (mC pc fuel (.slice sA sn sc) r0 r1 r2 r3 (.slice oA on oc) ov e0)] W (MachPost B (.slice sA sn sc) (.slice oA on oc) (.slice bA bn bc) pc fuel st' r0 r1 r2 r3 ou' ov' e0' own bA bn bc W)) :
  Calls Tryz.prog 81 #[.agg #[.int .i64 9,.int .i64 a,.int .i64 b],.slice aA an ac,.agg (mC pc fuel (.slice sA sn sc) r0 r1 r2 r3 (.slice oA on oc) ov e0),.slice bA bn bc] w
   (StepPost B (.slice sA sn sc) (.slice oA on oc) (.slice bA bn bc) pc fuel st' r0 r1 r2 r3 ou' ov' e0' own w):=by
 have hbe:=hid (nR_below ⟨9,a,b⟩ (mC pc fuel (.slice sA sn sc) r0 r1 r2 r3 (.slice oA on oc) ov e0) w)
 have hbx:=hid (nR_box ⟨9,a,b⟩ (mC pc fuel (.slice sA sn sc) r0 r1 r2 r3 (.slice oA on oc) ov e0) w)
 have hrs:=hid (nR_res ⟨9,a,b⟩ (mC pc fuel (.slice sA sn sc) r0 r1 r2 r3 (.slice oA on oc) ov e0) w)
 have HR:=hid hR
 have hof:=hid ((hR.below hbe.out).offM hrs.out)
 have hc:=hid (htk _ hbe.out)
 clear hR htk
 go_enter Tryz.func81,Tryz.ntmps81
 go_wp2_with (first
  | (with_reducible refine ld_mach (w.heap.size + 1) hbx.out _ rfl rfl rfl ?_)
  | (go_at_call 113;go_must ((with_reducible refine hc.out.mono ?_);rintro e w1 ⟨sA',sn',sc',oA',on',oc',rfl,M1,B1⟩;have R1:=hid (B1.bk hrs.out hof.out.1 hof.out.2.1 hof.out.2.2);have M2:=hid M1;have B2:=hid (Rows3.after hB hbe.out B1);clear M1 B1))
  | (with_reducible refine st_mach (w.heap.size + 1 + 1) R1.out rfl rfl _ _ rfl rfl rfl rfl ?_))
 exact bodyPost_ret (v:=.tuple #[.agg (mC pc fuel (.slice sA' sn' sc') r0 r1 r2 r3 (.slice oA' on' oc') ov' e0'),.slice bA bn bc]) (res2_mach rfl _ _ (w.heap.size + 1 + 1) _ rfl rfl (Bk.setRow R1.out _)) rfl
  ⟨_,_,_,_,_,_,_,_,_,rfl,M2.out.setRow (M2.out.offM R1.out) _,B2.out.setRow hB (by omega) _⟩
theorem behind_reckons10 (st' ou':List Int) (ov':Bool) (e0':Int) (a b:Int) (B:Nat) (st ou:List Int) (own:Blks) (w:World) (hB:B≤w.heap.size) (hR:MRow B w st ou own sA sn sc oA on oc bA bn bc)
  (htk:∀ W,Below w.heap.size w W→Calls Tryz.prog 113 #[.int .i64 10,.agg (mC pc fuel (.slice sA sn sc) r0 r1 r2 r3 (.slice oA on oc) ov e0)] W (MachPost B (.slice sA sn sc) (.slice oA on oc) (.slice bA bn bc) pc fuel st' r0 r1 r2 r3 ou' ov' e0' own bA bn bc W)) :
  Calls Tryz.prog 81 #[.agg #[.int .i64 10,.int .i64 a,.int .i64 b],.slice aA an ac,.agg (mC pc fuel (.slice sA sn sc) r0 r1 r2 r3 (.slice oA on oc) ov e0),.slice bA bn bc] w
   (StepPost B (.slice sA sn sc) (.slice oA on oc) (.slice bA bn bc) pc fuel st' r0 r1 r2 r3 ou' ov' e0' own w):=by
 have hbe:=hid (nR_below ⟨10,a,b⟩ (mC pc fuel (.slice sA sn sc) r0 r1 r2 r3 (.slice oA on oc) ov e0) w)
 have hbx:=hid (nR_box ⟨10,a,b⟩ (mC pc fuel (.slice sA sn sc) r0 r1 r2 r3 (.slice oA on oc) ov e0) w)
 have hrs:=hid (nR_res ⟨10,a,b⟩ (mC pc fuel (.slice sA sn sc) r0 r1 r2 r3 (.slice oA on oc) ov e0) w)
 have HR:=hid hR
 have hof:=hid ((hR.below hbe.out).offM hrs.out)
 have hc:=hid (htk _ hbe.out)
 clear hR htk
 go_enter Tryz.func81,Tryz.ntmps81
 go_wp2_with (first
  | (with_reducible refine ld_mach (w.heap.size + 1) hbx.out _ rfl rfl rfl ?_)
  | (go_at_call 113;go_must ((with_reducible refine hc.out.mono ?_);rintro e w1 ⟨sA',sn',sc',oA',on',oc',rfl,M1,B1⟩;have R1:=hid (B1.bk hrs.out hof.out.1 hof.out.2.1 hof.out.2.2);have M2:=hid M1;have B2:=hid (Rows3.after hB hbe.out B1);clear M1 B1))
  | (with_reducible refine st_mach (w.heap.size + 1 + 1) R1.out rfl rfl _ _ rfl rfl rfl rfl ?_))
 exact bodyPost_ret (v:=.tuple #[.agg (mC pc fuel (.slice sA' sn' sc') r0 r1 r2 r3 (.slice oA' on' oc') ov' e0'),.slice bA bn bc]) (res2_mach rfl _ _ (w.heap.size + 1 + 1) _ rfl rfl (Bk.setRow R1.out _)) rfl
  ⟨_,_,_,_,_,_,_,_,_,rfl,M2.out.setRow (M2.out.offM R1.out) _,B2.out.setRow hB (by omega) _⟩
theorem behind_reckons11 (st' ou':List Int) (ov':Bool) (e0':Int) (a b:Int) (B:Nat) (st ou:List Int) (own:Blks) (w:World) (hB:B≤w.heap.size) (hR:MRow B w st ou own sA sn sc oA on oc bA bn bc)
  (htk:∀ W,Below w.heap.size w W→Calls Tryz.prog 113 #[.int .i64 11,.agg (mC pc fuel (.slice sA sn sc) r0 r1 r2 r3 (.slice oA on oc) ov e0)] W (MachPost B (.slice sA sn sc) (.slice oA on oc) (.slice bA bn bc) pc fuel st' r0 r1 r2 r3 ou' ov' e0' own bA bn bc W)) :
  Calls Tryz.prog 81 #[.agg #[.int .i64 11,.int .i64 a,.int .i64 b],.slice aA an ac,.agg (mC pc fuel (.slice sA sn sc) r0 r1 r2 r3 (.slice oA on oc) ov e0),.slice bA bn bc] w
   (StepPost B (.slice sA sn sc) (.slice oA on oc) (.slice bA bn bc) pc fuel st' r0 r1 r2 r3 ou' ov' e0' own w):=by
 have hbe:=hid (nR_below ⟨11,a,b⟩ (mC pc fuel (.slice sA sn sc) r0 r1 r2 r3 (.slice oA on oc) ov e0) w)
 have hbx:=hid (nR_box ⟨11,a,b⟩ (mC pc fuel (.slice sA sn sc) r0 r1 r2 r3 (.slice oA on oc) ov e0) w)
 have hrs:=hid (nR_res ⟨11,a,b⟩ (mC pc fuel (.slice sA sn sc) r0 r1 r2 r3 (.slice oA on oc) ov e0) w)
 have HR:=hid hR
 have hof:=hid ((hR.below hbe.out).offM hrs.out)
 have hc:=hid (htk _ hbe.out)
 clear hR htk
 go_enter Tryz.func81,Tryz.ntmps81
 go_wp2_with (first
  | (with_reducible refine ld_mach (w.heap.size + 1) hbx.out _ rfl rfl rfl ?_)
  | (go_at_call 113;go_must ((with_reducible refine hc.out.mono ?_);rintro e w1 ⟨sA',sn',sc',oA',on',oc',rfl,M1,B1⟩;have R1:=hid (B1.bk hrs.out hof.out.1 hof.out.2.1 hof.out.2.2);have M2:=hid M1;have B2:=hid (Rows3.after hB hbe.out B1);clear M1 B1))
  | (with_reducible refine st_mach (w.heap.size + 1 + 1) R1.out rfl rfl _ _ rfl rfl rfl rfl ?_))
 exact bodyPost_ret (v:=.tuple #[.agg (mC pc fuel (.slice sA' sn' sc') r0 r1 r2 r3 (.slice oA' on' oc') ov' e0'),.slice bA bn bc]) (res2_mach rfl _ _ (w.heap.size + 1 + 1) _ rfl rfl (Bk.setRow R1.out _)) rfl
  ⟨_,_,_,_,_,_,_,_,_,rfl,M2.out.setRow (M2.out.offM R1.out) _,B2.out.setRow hB (by omega) _⟩
theorem behind_reckons12 (st' ou':List Int) (ov':Bool) (e0':Int) (a b:Int) (B:Nat) (st ou:List Int) (own:Blks) (w:World) (hB:B≤w.heap.size) (hR:MRow B w st ou own sA sn sc oA on oc bA bn bc)
  (htk:∀ W,Below w.heap.size w W→Calls Tryz.prog 113 #[.int .i64 12,.agg (mC pc fuel (.slice sA sn sc) r0 r1 r2 r3 (.slice oA on oc) ov e0)] W (MachPost B (.slice sA sn sc) (.slice oA on oc) (.slice bA bn bc) pc fuel st' r0 r1 r2 r3 ou' ov' e0' own bA bn bc W)) :
  Calls Tryz.prog 81 #[.agg #[.int .i64 12,.int .i64 a,.int .i64 b],.slice aA an ac,.agg (mC pc fuel (.slice sA sn sc) r0 r1 r2 r3 (.slice oA on oc) ov e0),.slice bA bn bc] w
   (StepPost B (.slice sA sn sc) (.slice oA on oc) (.slice bA bn bc) pc fuel st' r0 r1 r2 r3 ou' ov' e0' own w):=by
 have hbe:=hid (nR_below ⟨12,a,b⟩ (mC pc fuel (.slice sA sn sc) r0 r1 r2 r3 (.slice oA on oc) ov e0) w)
 have hbx:=hid (nR_box ⟨12,a,b⟩ (mC pc fuel (.slice sA sn sc) r0 r1 r2 r3 (.slice oA on oc) ov e0) w)
 have hrs:=hid (nR_res ⟨12,a,b⟩ (mC pc fuel (.slice sA sn sc) r0 r1 r2 r3 (.slice oA on oc) ov e0) w)
 have HR:=hid hR
 have hof:=hid ((hR.below hbe.out).offM hrs.out)
 have hc:=hid (htk _ hbe.out)
 clear hR htk
 go_enter Tryz.func81,Tryz.ntmps81
 go_wp2_with (first
  | (with_reducible refine ld_mach (w.heap.size + 1) hbx.out _ rfl rfl rfl ?_)
  | (go_at_call 113;go_must ((with_reducible refine hc.out.mono ?_);rintro e w1 ⟨sA',sn',sc',oA',on',oc',rfl,M1,B1⟩;have R1:=hid (B1.bk hrs.out hof.out.1 hof.out.2.1 hof.out.2.2);have M2:=hid M1;have B2:=hid (Rows3.after hB hbe.out B1);clear M1 B1))
  | (with_reducible refine st_mach (w.heap.size + 1 + 1) R1.out rfl rfl _ _ rfl rfl rfl rfl ?_))
 exact bodyPost_ret (v:=.tuple #[.agg (mC pc fuel (.slice sA' sn' sc') r0 r1 r2 r3 (.slice oA' on' oc') ov' e0'),.slice bA bn bc]) (res2_mach rfl _ _ (w.heap.size + 1 + 1) _ rfl rfl (Bk.setRow R1.out _)) rfl
  ⟨_,_,_,_,_,_,_,_,_,rfl,M2.out.setRow (M2.out.offM R1.out) _,B2.out.setRow hB (by omega) _⟩
theorem behind_go (a b:Int) (B:Nat) (st ou:List Int) (own:Blks) (w:World) (hB:B≤w.heap.size) (hR:MRow B w st ou own sA sn sc oA on oc bA bn bc) (ha:0≤a∧a≤1000) (hp:0≤pc∧pc≤2000) :
  Calls Tryz.prog 81 #[.agg #[.int .i64 14,.int .i64 a,.int .i64 b],.slice aA an ac,.agg (mC pc fuel (.slice sA sn sc) r0 r1 r2 r3 (.slice oA on oc) ov e0),.slice bA bn bc] w
   (StepPost B (.slice sA sn sc) (.slice oA on oc) (.slice bA bn bc) (pc + a) fuel st r0 r1 r2 r3 ou ov e0 own w):=by
 obtain ⟨z,hz⟩:∃ z,z=pc + a:=⟨_,rfl⟩
 have hz':pc + a=z:=hz.symm
 rw [← hz]
 clear hz
 have hbe:=hid (nR_below ⟨14,a,b⟩ (mC z fuel (.slice sA sn sc) r0 r1 r2 r3 (.slice oA on oc) ov e0) w)
 have hbx:=hid (nR_box ⟨14,a,b⟩ (mC z fuel (.slice sA sn sc) r0 r1 r2 r3 (.slice oA on oc) ov e0) w)
 have R1:=hid (nR_res ⟨14,a,b⟩ (mC z fuel (.slice sA sn sc) r0 r1 r2 r3 (.slice oA on oc) ov e0) w)
 have HR:=hid hR
 clear hR
 go_enter Tryz.func81,Tryz.ntmps81
 go_wp2_with (first
  | (with_reducible refine ld_mach (w.heap.size + 1) hbx.out _ rfl rfl rfl ?_)
  | (with_reducible refine st_mach (w.heap.size + 1 + 1) R1.out rfl rfl _ _ rfl rfl rfl rfl ?_))
 exact bodyPost_ret (v:=.tuple #[.agg (mC z fuel (.slice sA sn sc) r0 r1 r2 r3 (.slice oA on oc) ov e0),.slice bA bn bc]) (res2_mach rfl _ _ (w.heap.size + 1 + 1) _ rfl rfl (Bk.setRow R1.out _)) rfl
  ⟨_,_,_,_,_,_,_,_,_,rfl,(HR.out.below hbe.out).setRow (HR.out.off (by omega)) _,(Rows3.start hB hbe.out).setRow hB (by omega) _⟩
theorem behind_stop (a b:Int) (B:Nat) (st ou:List Int) (own:Blks) (w:World) (hB:B≤w.heap.size) (hR:MRow B w st ou own sA sn sc oA on oc bA bn bc) :
  Calls Tryz.prog 81 #[.agg #[.int .i64 16,.int .i64 a,.int .i64 b],.slice aA an ac,.agg (mC pc fuel (.slice sA sn sc) r0 r1 r2 r3 (.slice oA on oc) ov e0),.slice bA bn bc] w
   (StepPost B (.slice sA sn sc) (.slice oA on oc) (.slice bA bn bc) pc fuel st r0 r1 r2 r3 [] true 13 own w):=by
 have hbe:=hid (nR_below ⟨16,a,b⟩ (mC pc fuel (.slice sA sn sc) r0 r1 r2 r3 (.slice oA on oc) ov e0) w)
 have hbx:=hid (nR_box ⟨16,a,b⟩ (mC pc fuel (.slice sA sn sc) r0 r1 r2 r3 (.slice oA on oc) ov e0) w)
 have hrs:=hid (nR_res ⟨16,a,b⟩ (mC pc fuel (.slice sA sn sc) r0 r1 r2 r3 (.slice oA on oc) ov e0) w)
 have HR:=hid hR
 have hof:=hid ((hR.below hbe.out).offM hrs.out)
 have hov:=hid (fun W=>over_bad pc fuel sA sn sc r0 r1 r2 r3 oA on oc ov e0 13 (by decide) W)
 clear hR
 go_enter Tryz.func81,Tryz.ntmps81
 go_wp2_with (first
  | (with_reducible refine ld_mach (w.heap.size + 1) hbx.out _ rfl rfl rfl ?_)
  | (go_at_call 79;go_must ((with_reducible refine (hov.out _).mono ?_);rintro e w1 ⟨rfl,hb1⟩;have B2:=hid (bnext hbe.out hb1);have R1:=hid (hrs.out.below hb1);clear hb1))
  | (with_reducible refine st_mach (w.heap.size + 1 + 1) R1.out rfl rfl _ _ rfl rfl rfl rfl ?_))
 exact bodyPost_ret (v:=.tuple #[.agg (mC pc fuel (.slice sA sn sc) r0 r1 r2 r3 (.slice none 0 0) true 13),.slice bA bn bc]) (res2_mach rfl _ _ (w.heap.size + 1 + 1) _ rfl rfl (Bk.setRow R1.out _)) rfl
  ⟨_,_,_,_,_,_,_,_,_,rfl,(HR.out.below B2.out).mute.setRow (HR.out.mute.off (by omega)) _,(Rows3.start hB B2.out).setRow hB (by omega) _⟩
theorem behind_end (a b:Int) (B:Nat) (st ou:List Int) (own:Blks) (w:World) (hB:B≤w.heap.size) (hR:MRow B w st ou own sA sn sc oA on oc bA bn bc) :
  Calls Tryz.prog 81 #[.agg #[.int .i64 17,.int .i64 a,.int .i64 b],.slice aA an ac,.agg (mC pc fuel (.slice sA sn sc) r0 r1 r2 r3 (.slice oA on oc) ov e0),.slice bA bn bc] w
   (StepPost B (.slice sA sn sc) (.slice oA on oc) (.slice bA bn bc) pc fuel st r0 r1 r2 r3 ou true 0 own w):=by
 have hbe:=hid (nR_below ⟨17,a,b⟩ (mC pc fuel (.slice sA sn sc) r0 r1 r2 r3 (.slice oA on oc) ov e0) w)
 have hbx:=hid (nR_box ⟨17,a,b⟩ (mC pc fuel (.slice sA sn sc) r0 r1 r2 r3 (.slice oA on oc) ov e0) w)
 have hrs:=hid (nR_res ⟨17,a,b⟩ (mC pc fuel (.slice sA sn sc) r0 r1 r2 r3 (.slice oA on oc) ov e0) w)
 have HR:=hid hR
 have hof:=hid ((hR.below hbe.out).offM hrs.out)
 have hov:=hid (fun W=>over_well pc fuel sA sn sc r0 r1 r2 r3 oA on oc ov e0 W)
 clear hR
 go_enter Tryz.func81,Tryz.ntmps81
 go_wp2_with (first
  | (with_reducible refine ld_mach (w.heap.size + 1) hbx.out _ rfl rfl rfl ?_)
  | (go_at_call 79;go_must ((with_reducible refine (hov.out _).mono ?_);rintro e w1 ⟨rfl,hb1⟩;have B2:=hid (bnext hbe.out hb1);have R1:=hid (hrs.out.below hb1);clear hb1))
  | (with_reducible refine st_mach (w.heap.size + 1 + 1) R1.out rfl rfl _ _ rfl rfl rfl rfl ?_))
 exact bodyPost_ret (v:=.tuple #[.agg (mC pc fuel (.slice sA sn sc) r0 r1 r2 r3 (.slice oA on oc) true 0),.slice bA bn bc]) (res2_mach rfl _ _ (w.heap.size + 1 + 1) _ rfl rfl (Bk.setRow R1.out _)) rfl
  ⟨_,_,_,_,_,_,_,_,_,rfl,(HR.out.below B2.out).setRow (HR.out.off (by omega)) _,(Rows3.start hB B2.out).setRow hB (by omega) _⟩
end
end
section
open Go.RowKit
section
variable (pc fuel:Int) (sA:Option Addr) (sc:Nat) (r0 r1 r2 r3:Int) (oA:Option Addr) (on oc:Nat) (ov:Bool) (e0:Int) (bA:Option Addr) (bn bc:Nat)
theorem takes_keep0 (k:Nat) (b:Int) (B:Nat) (st ou:List Int) (own:Blks) (w:World) (hB:B≤w.heap.size) (hR:MRow B w st ou own sA (k + 1) sc oA on oc bA bn bc) (hk:k≤1000) :
  Calls Tryz.prog 112 #[.agg #[.int .i64 3,.int .i64 0,.int .i64 b],.agg (mC pc fuel (.slice sA (k + 1:Nat) sc) r0 r1 r2 r3 (.slice oA on oc) ov e0),.slice bA bn bc] w
   (StepPost B (.slice sA (k + 1:Nat) sc) (.slice oA on oc) (.slice bA bn bc) pc fuel (st.take k) (st[k]?.getD 0) r1 r2 r3 ou ov e0 own w):=by
 obtain ⟨g,rfl,hg,hsc,hv⟩:=hR.top (j:=k) (Nat.le_refl _)
 have hb0:=nR_below ⟨3,0,b⟩ (mC pc fuel (.slice (some ⟨g,0,none⟩) (k + 1:Nat) sc) r0 r1 r2 r3 (.slice oA on oc) ov e0) w
 have hat:=hid (atInt_in g 0 (k + 1) sc k _ (nR ⟨3,0,b⟩ (mC pc fuel (.slice (some ⟨g,0,none⟩) (k + 1:Nat) sc) r0 r1 r2 r3 (.slice oA on oc) ov e0) w) (by omega) hsc ((hb0.cell (p:=⟨g,0 + k,none⟩) hg).trans hv))
 have hk2:(k:Int) < (sc:Int):=by omega
 generalize st[k]?.getD 0=top at *
 have hR':=hid (hR.cut (k:=k) (by omega))
 clear hv hR hb0
 have hat2:Hid (∀ n,Calls Tryz.prog 127 #[.slice (some ⟨w.heap.size + 1,3,none⟩) 4 4,.int .i64 0] ((nR ⟨3,0,b⟩ (mC pc fuel (.slice (some ⟨g,0,none⟩) k sc) r0 r1 r2 r3 (.slice oA on oc) ov e0) w).drewN n)
   fun e w'=>e=.returned (.tuple #[.int .i64 r0,.bool true])∧w'=(nR ⟨3,0,b⟩ (mC pc fuel (.slice (some ⟨g,0,none⟩) k sc) r0 r1 r2 r3 (.slice oA on oc) ov e0) w).drewN n):=hid (fun n=>
  (atInt_in (w.heap.size + 1) 3 4 4 0 _ _ (by decide) (Nat.le_refl _) (((nR_box ⟨3,0,b⟩ _ w).drewN n).cell (3))).mono fun e w' ⟨h1,h2⟩=>⟨h1,h2.symm⟩)
 have hbx:Hid (∀ n,Bk (((nR ⟨3,0,b⟩ (mC pc fuel (.slice (some ⟨g,0,none⟩) k sc) r0 r1 r2 r3 (.slice oA on oc) ov e0) w).drewN n).setCell ⟨w.heap.size + 1,3,none⟩ (.int .i64 top)) (w.heap.size + 1) 64 (mC pc fuel (.slice (some ⟨g,0,none⟩) k sc) top r1 r2 r3 (.slice oA on oc) ov e0)):=hid (fun n=>by
  have:=((nR_box ⟨3,0,b⟩ (mC pc fuel (.slice (some ⟨g,0,none⟩) k sc) r0 r1 r2 r3 (.slice oA on oc) ov e0) w).drewN n).set (3) (.int .i64 top)
  simpa using this)
 have hrs:Hid (∀ n,Bk (((nR ⟨3,0,b⟩ (mC pc fuel (.slice (some ⟨g,0,none⟩) k sc) r0 r1 r2 r3 (.slice oA on oc) ov e0) w).drewN n).setCell ⟨w.heap.size + 1,3,none⟩ (.int .i64 top)) (w.heap.size + 1 + 1) 64 mZ):=hid (fun n=>
  ((nR_res ⟨3,0,b⟩ (mC pc fuel (.slice (some ⟨g,0,none⟩) k sc) r0 r1 r2 r3 (.slice oA on oc) ov e0) w).drewN n).far (p:=⟨w.heap.size + 1,3,none⟩) (by simp) _)
 have hbe:=hid (fun n=>bnext (nR_below ⟨3,0,b⟩ (mC pc fuel (.slice (some ⟨g,0,none⟩) k sc) r0 r1 r2 r3 (.slice oA on oc) ov e0) w) (drewN_below _ n))
 go_enter Tryz.func112,Tryz.ntmps112
 go_wp2_with (go_at_call 127;go_must ((with_reducible refine hat.out.mono ?_);rintro e w1 ⟨rfl,rfl⟩))
 go_quiet ((go_at_call 127;exact Calls.quiet_of_same (hat2.out _)))
 go_wp2_with (first
  | (with_reducible refine ld_mach (w.heap.size + 1) (hbx.out _) _ rfl rfl rfl ?_)
  | (with_reducible refine st_mach (w.heap.size + 1 + 1) (hrs.out _) rfl rfl _ _ rfl rfl rfl rfl ?_))
 exact bodyPost_ret (v:=.tuple #[.agg (mC pc fuel (.slice (some ⟨g,0,none⟩) k sc) top r1 r2 r3 (.slice oA on oc) ov e0),.slice bA bn bc]) (res2_mach rfl _ _ (w.heap.size + 1 + 1) _ rfl rfl (Bk.setRow (hrs.out _) _)) rfl
  ⟨_,_,_,_,_,_,_,_,_,rfl,((hR'.out.below (hbe.out _)).set (hR'.out.off (by omega)) _ _).setRow (hR'.out.off (by omega)) _,((Rows3.start hB (hbe.out _)).set hB (by omega) _ _).setRow hB (by omega) _⟩
theorem takes_keep1 (k:Nat) (b:Int) (B:Nat) (st ou:List Int) (own:Blks) (w:World) (hB:B≤w.heap.size) (hR:MRow B w st ou own sA (k + 1) sc oA on oc bA bn bc) (hk:k≤1000) :
  Calls Tryz.prog 112 #[.agg #[.int .i64 3,.int .i64 1,.int .i64 b],.agg (mC pc fuel (.slice sA (k + 1:Nat) sc) r0 r1 r2 r3 (.slice oA on oc) ov e0),.slice bA bn bc] w
   (StepPost B (.slice sA (k + 1:Nat) sc) (.slice oA on oc) (.slice bA bn bc) pc fuel (st.take k) r0 (st[k]?.getD 0) r2 r3 ou ov e0 own w):=by
 obtain ⟨g,rfl,hg,hsc,hv⟩:=hR.top (j:=k) (Nat.le_refl _)
 have hb0:=nR_below ⟨3,1,b⟩ (mC pc fuel (.slice (some ⟨g,0,none⟩) (k + 1:Nat) sc) r0 r1 r2 r3 (.slice oA on oc) ov e0) w
 have hat:=hid (atInt_in g 0 (k + 1) sc k _ (nR ⟨3,1,b⟩ (mC pc fuel (.slice (some ⟨g,0,none⟩) (k + 1:Nat) sc) r0 r1 r2 r3 (.slice oA on oc) ov e0) w) (by omega) hsc ((hb0.cell (p:=⟨g,0 + k,none⟩) hg).trans hv))
 have hk2:(k:Int) < (sc:Int):=by omega
 generalize st[k]?.getD 0=top at *
 have hR':=hid (hR.cut (k:=k) (by omega))
 clear hv hR hb0
 have hat2:Hid (∀ n,Calls Tryz.prog 127 #[.slice (some ⟨w.heap.size + 1,3,none⟩) 4 4,.int .i64 1] ((nR ⟨3,1,b⟩ (mC pc fuel (.slice (some ⟨g,0,none⟩) k sc) r0 r1 r2 r3 (.slice oA on oc) ov e0) w).drewN n)
   fun e w'=>e=.returned (.tuple #[.int .i64 r1,.bool true])∧w'=(nR ⟨3,1,b⟩ (mC pc fuel (.slice (some ⟨g,0,none⟩) k sc) r0 r1 r2 r3 (.slice oA on oc) ov e0) w).drewN n):=hid (fun n=>
  (atInt_in (w.heap.size + 1) 3 4 4 1 _ _ (by decide) (Nat.le_refl _) (((nR_box ⟨3,1,b⟩ _ w).drewN n).cell (4))).mono fun e w' ⟨h1,h2⟩=>⟨h1,h2.symm⟩)
 have hbx:Hid (∀ n,Bk (((nR ⟨3,1,b⟩ (mC pc fuel (.slice (some ⟨g,0,none⟩) k sc) r0 r1 r2 r3 (.slice oA on oc) ov e0) w).drewN n).setCell ⟨w.heap.size + 1,4,none⟩ (.int .i64 top)) (w.heap.size + 1) 64 (mC pc fuel (.slice (some ⟨g,0,none⟩) k sc) r0 top r2 r3 (.slice oA on oc) ov e0)):=hid (fun n=>by
  have:=((nR_box ⟨3,1,b⟩ (mC pc fuel (.slice (some ⟨g,0,none⟩) k sc) r0 r1 r2 r3 (.slice oA on oc) ov e0) w).drewN n).set (4) (.int .i64 top)
  simpa using this)
 have hrs:Hid (∀ n,Bk (((nR ⟨3,1,b⟩ (mC pc fuel (.slice (some ⟨g,0,none⟩) k sc) r0 r1 r2 r3 (.slice oA on oc) ov e0) w).drewN n).setCell ⟨w.heap.size + 1,4,none⟩ (.int .i64 top)) (w.heap.size + 1 + 1) 64 mZ):=hid (fun n=>
  ((nR_res ⟨3,1,b⟩ (mC pc fuel (.slice (some ⟨g,0,none⟩) k sc) r0 r1 r2 r3 (.slice oA on oc) ov e0) w).drewN n).far (p:=⟨w.heap.size + 1,4,none⟩) (by simp) _)
 have hbe:=hid (fun n=>bnext (nR_below ⟨3,1,b⟩ (mC pc fuel (.slice (some ⟨g,0,none⟩) k sc) r0 r1 r2 r3 (.slice oA on oc) ov e0) w) (drewN_below _ n))
 go_enter Tryz.func112,Tryz.ntmps112
 go_wp2_with (go_at_call 127;go_must ((with_reducible refine hat.out.mono ?_);rintro e w1 ⟨rfl,rfl⟩))
 go_quiet ((go_at_call 127;exact Calls.quiet_of_same (hat2.out _)))
 go_wp2_with (first
  | (with_reducible refine ld_mach (w.heap.size + 1) (hbx.out _) _ rfl rfl rfl ?_)
  | (with_reducible refine st_mach (w.heap.size + 1 + 1) (hrs.out _) rfl rfl _ _ rfl rfl rfl rfl ?_))
 exact bodyPost_ret (v:=.tuple #[.agg (mC pc fuel (.slice (some ⟨g,0,none⟩) k sc) r0 top r2 r3 (.slice oA on oc) ov e0),.slice bA bn bc]) (res2_mach rfl _ _ (w.heap.size + 1 + 1) _ rfl rfl (Bk.setRow (hrs.out _) _)) rfl
  ⟨_,_,_,_,_,_,_,_,_,rfl,((hR'.out.below (hbe.out _)).set (hR'.out.off (by omega)) _ _).setRow (hR'.out.off (by omega)) _,((Rows3.start hB (hbe.out _)).set hB (by omega) _ _).setRow hB (by omega) _⟩
theorem takes_keep2 (k:Nat) (b:Int) (B:Nat) (st ou:List Int) (own:Blks) (w:World) (hB:B≤w.heap.size) (hR:MRow B w st ou own sA (k + 1) sc oA on oc bA bn bc) (hk:k≤1000) :
  Calls Tryz.prog 112 #[.agg #[.int .i64 3,.int .i64 2,.int .i64 b],.agg (mC pc fuel (.slice sA (k + 1:Nat) sc) r0 r1 r2 r3 (.slice oA on oc) ov e0),.slice bA bn bc] w
   (StepPost B (.slice sA (k + 1:Nat) sc) (.slice oA on oc) (.slice bA bn bc) pc fuel (st.take k) r0 r1 (st[k]?.getD 0) r3 ou ov e0 own w):=by
 obtain ⟨g,rfl,hg,hsc,hv⟩:=hR.top (j:=k) (Nat.le_refl _)
 have hb0:=nR_below ⟨3,2,b⟩ (mC pc fuel (.slice (some ⟨g,0,none⟩) (k + 1:Nat) sc) r0 r1 r2 r3 (.slice oA on oc) ov e0) w
 have hat:=hid (atInt_in g 0 (k + 1) sc k _ (nR ⟨3,2,b⟩ (mC pc fuel (.slice (some ⟨g,0,none⟩) (k + 1:Nat) sc) r0 r1 r2 r3 (.slice oA on oc) ov e0) w) (by omega) hsc ((hb0.cell (p:=⟨g,0 + k,none⟩) hg).trans hv))
 have hk2:(k:Int) < (sc:Int):=by omega
 generalize st[k]?.getD 0=top at *
 have hR':=hid (hR.cut (k:=k) (by omega))
 clear hv hR hb0
 have hat2:Hid (∀ n,Calls Tryz.prog 127 #[.slice (some ⟨w.heap.size + 1,3,none⟩) 4 4,.int .i64 2] ((nR ⟨3,2,b⟩ (mC pc fuel (.slice (some ⟨g,0,none⟩) k sc) r0 r1 r2 r3 (.slice oA on oc) ov e0) w).drewN n)
   fun e w'=>e=.returned (.tuple #[.int .i64 r2,.bool true])∧w'=(nR ⟨3,2,b⟩ (mC pc fuel (.slice (some ⟨g,0,none⟩) k sc) r0 r1 r2 r3 (.slice oA on oc) ov e0) w).drewN n):=hid (fun n=>
  (atInt_in (w.heap.size + 1) 3 4 4 2 _ _ (by decide) (Nat.le_refl _) (((nR_box ⟨3,2,b⟩ _ w).drewN n).cell (5))).mono fun e w' ⟨h1,h2⟩=>⟨h1,h2.symm⟩)
 have hbx:Hid (∀ n,Bk (((nR ⟨3,2,b⟩ (mC pc fuel (.slice (some ⟨g,0,none⟩) k sc) r0 r1 r2 r3 (.slice oA on oc) ov e0) w).drewN n).setCell ⟨w.heap.size + 1,5,none⟩ (.int .i64 top)) (w.heap.size + 1) 64 (mC pc fuel (.slice (some ⟨g,0,none⟩) k sc) r0 r1 top r3 (.slice oA on oc) ov e0)):=hid (fun n=>by
  have:=((nR_box ⟨3,2,b⟩ (mC pc fuel (.slice (some ⟨g,0,none⟩) k sc) r0 r1 r2 r3 (.slice oA on oc) ov e0) w).drewN n).set (5) (.int .i64 top)
  simpa using this)
 have hrs:Hid (∀ n,Bk (((nR ⟨3,2,b⟩ (mC pc fuel (.slice (some ⟨g,0,none⟩) k sc) r0 r1 r2 r3 (.slice oA on oc) ov e0) w).drewN n).setCell ⟨w.heap.size + 1,5,none⟩ (.int .i64 top)) (w.heap.size + 1 + 1) 64 mZ):=hid (fun n=>
  ((nR_res ⟨3,2,b⟩ (mC pc fuel (.slice (some ⟨g,0,none⟩) k sc) r0 r1 r2 r3 (.slice oA on oc) ov e0) w).drewN n).far (p:=⟨w.heap.size + 1,5,none⟩) (by simp) _)
 have hbe:=hid (fun n=>bnext (nR_below ⟨3,2,b⟩ (mC pc fuel (.slice (some ⟨g,0,none⟩) k sc) r0 r1 r2 r3 (.slice oA on oc) ov e0) w) (drewN_below _ n))
 go_enter Tryz.func112,Tryz.ntmps112
 go_wp2_with (go_at_call 127;go_must ((with_reducible refine hat.out.mono ?_);rintro e w1 ⟨rfl,rfl⟩))
 go_quiet ((go_at_call 127;exact Calls.quiet_of_same (hat2.out _)))
 go_wp2_with (first
  | (with_reducible refine ld_mach (w.heap.size + 1) (hbx.out _) _ rfl rfl rfl ?_)
  | (with_reducible refine st_mach (w.heap.size + 1 + 1) (hrs.out _) rfl rfl _ _ rfl rfl rfl rfl ?_))
 exact bodyPost_ret (v:=.tuple #[.agg (mC pc fuel (.slice (some ⟨g,0,none⟩) k sc) r0 r1 top r3 (.slice oA on oc) ov e0),.slice bA bn bc]) (res2_mach rfl _ _ (w.heap.size + 1 + 1) _ rfl rfl (Bk.setRow (hrs.out _) _)) rfl
  ⟨_,_,_,_,_,_,_,_,_,rfl,((hR'.out.below (hbe.out _)).set (hR'.out.off (by omega)) _ _).setRow (hR'.out.off (by omega)) _,((Rows3.start hB (hbe.out _)).set hB (by omega) _ _).setRow hB (by omega) _⟩
theorem takes_keep3 (k:Nat) (b:Int) (B:Nat) (st ou:List Int) (own:Blks) (w:World) (hB:B≤w.heap.size) (hR:MRow B w st ou own sA (k + 1) sc oA on oc bA bn bc) (hk:k≤1000) :
  Calls Tryz.prog 112 #[.agg #[.int .i64 3,.int .i64 3,.int .i64 b],.agg (mC pc fuel (.slice sA (k + 1:Nat) sc) r0 r1 r2 r3 (.slice oA on oc) ov e0),.slice bA bn bc] w
   (StepPost B (.slice sA (k + 1:Nat) sc) (.slice oA on oc) (.slice bA bn bc) pc fuel (st.take k) r0 r1 r2 (st[k]?.getD 0) ou ov e0 own w):=by
 obtain ⟨g,rfl,hg,hsc,hv⟩:=hR.top (j:=k) (Nat.le_refl _)
 have hb0:=nR_below ⟨3,3,b⟩ (mC pc fuel (.slice (some ⟨g,0,none⟩) (k + 1:Nat) sc) r0 r1 r2 r3 (.slice oA on oc) ov e0) w
 have hat:=hid (atInt_in g 0 (k + 1) sc k _ (nR ⟨3,3,b⟩ (mC pc fuel (.slice (some ⟨g,0,none⟩) (k + 1:Nat) sc) r0 r1 r2 r3 (.slice oA on oc) ov e0) w) (by omega) hsc ((hb0.cell (p:=⟨g,0 + k,none⟩) hg).trans hv))
 have hk2:(k:Int) < (sc:Int):=by omega
 generalize st[k]?.getD 0=top at *
 have hR':=hid (hR.cut (k:=k) (by omega))
 clear hv hR hb0
 have hat2:Hid (∀ n,Calls Tryz.prog 127 #[.slice (some ⟨w.heap.size + 1,3,none⟩) 4 4,.int .i64 3] ((nR ⟨3,3,b⟩ (mC pc fuel (.slice (some ⟨g,0,none⟩) k sc) r0 r1 r2 r3 (.slice oA on oc) ov e0) w).drewN n)
   fun e w'=>e=.returned (.tuple #[.int .i64 r3,.bool true])∧w'=(nR ⟨3,3,b⟩ (mC pc fuel (.slice (some ⟨g,0,none⟩) k sc) r0 r1 r2 r3 (.slice oA on oc) ov e0) w).drewN n):=hid (fun n=>
  (atInt_in (w.heap.size + 1) 3 4 4 3 _ _ (by decide) (Nat.le_refl _) (((nR_box ⟨3,3,b⟩ _ w).drewN n).cell (6))).mono fun e w' ⟨h1,h2⟩=>⟨h1,h2.symm⟩)
 have hbx:Hid (∀ n,Bk (((nR ⟨3,3,b⟩ (mC pc fuel (.slice (some ⟨g,0,none⟩) k sc) r0 r1 r2 r3 (.slice oA on oc) ov e0) w).drewN n).setCell ⟨w.heap.size + 1,6,none⟩ (.int .i64 top)) (w.heap.size + 1) 64 (mC pc fuel (.slice (some ⟨g,0,none⟩) k sc) r0 r1 r2 top (.slice oA on oc) ov e0)):=hid (fun n=>by
  have:=((nR_box ⟨3,3,b⟩ (mC pc fuel (.slice (some ⟨g,0,none⟩) k sc) r0 r1 r2 r3 (.slice oA on oc) ov e0) w).drewN n).set (6) (.int .i64 top)
  simpa using this)
 have hrs:Hid (∀ n,Bk (((nR ⟨3,3,b⟩ (mC pc fuel (.slice (some ⟨g,0,none⟩) k sc) r0 r1 r2 r3 (.slice oA on oc) ov e0) w).drewN n).setCell ⟨w.heap.size + 1,6,none⟩ (.int .i64 top)) (w.heap.size + 1 + 1) 64 mZ):=hid (fun n=>
  ((nR_res ⟨3,3,b⟩ (mC pc fuel (.slice (some ⟨g,0,none⟩) k sc) r0 r1 r2 r3 (.slice oA on oc) ov e0) w).drewN n).far (p:=⟨w.heap.size + 1,6,none⟩) (by simp) _)
 have hbe:=hid (fun n=>bnext (nR_below ⟨3,3,b⟩ (mC pc fuel (.slice (some ⟨g,0,none⟩) k sc) r0 r1 r2 r3 (.slice oA on oc) ov e0) w) (drewN_below _ n))
 go_enter Tryz.func112,Tryz.ntmps112
 go_wp2_with (go_at_call 127;go_must ((with_reducible refine hat.out.mono ?_);rintro e w1 ⟨rfl,rfl⟩))
 go_quiet ((go_at_call 127;exact Calls.quiet_of_same (hat2.out _)))
 go_wp2_with (first
  | (with_reducible refine ld_mach (w.heap.size + 1) (hbx.out _) _ rfl rfl rfl ?_)
  | (with_reducible refine st_mach (w.heap.size + 1 + 1) (hrs.out _) rfl rfl _ _ rfl rfl rfl rfl ?_))
 exact bodyPost_ret (v:=.tuple #[.agg (mC pc fuel (.slice (some ⟨g,0,none⟩) k sc) r0 r1 r2 top (.slice oA on oc) ov e0),.slice bA bn bc]) (res2_mach rfl _ _ (w.heap.size + 1 + 1) _ rfl rfl (Bk.setRow (hrs.out _) _)) rfl
  ⟨_,_,_,_,_,_,_,_,_,rfl,((hR'.out.below (hbe.out _)).set (hR'.out.off (by omega)) _ _).setRow (hR'.out.off (by omega)) _,((Rows3.start hB (hbe.out _)).set hB (by omega) _ _).setRow hB (by omega) _⟩
end
end
section
open Go.RowKit
section
variable (pc fuel:Int) (sA:Option Addr) (sc:Nat) (r0 r1 r2 r3:Int) (oA:Option Addr) (on oc:Nat) (ov:Bool) (e0:Int) (bA:Option Addr) (bn bc:Nat)
theorem takes_emit (k:Nat) (a b:Int) (B:Nat) (st ou:List Int) (own:Blks) (w:World) (hB:B≤w.heap.size) (hR:MRow B w st ou own sA (k + 1) sc oA on oc bA bn bc) (hk:k≤1000) (ho:on≤1000) :
  Calls Tryz.prog 112 #[.agg #[.int .i64 15,.int .i64 a,.int .i64 b],.agg (mC pc fuel (.slice sA (k + 1:Nat) sc) r0 r1 r2 r3 (.slice oA on oc) ov e0),.slice bA bn bc] w
   (StepPost B (.slice sA (k + 1:Nat) sc) (.slice oA on oc) (.slice bA bn bc) pc fuel (st.take k) r0 r1 r2 r3 (ou ++ [st[k]?.getD 0]) ov e0 own w):=by
 obtain ⟨i0,hi,hz0,hz1,hz2⟩:=infoInt
 obtain ⟨g,rfl,hg,hsc,hv⟩:=hR.top (j:=k) (Nat.le_refl _)
 have hb0:=nR_below ⟨15,a,b⟩ (mC pc fuel (.slice (some ⟨g,0,none⟩) (k + 1:Nat) sc) r0 r1 r2 r3 (.slice oA on oc) ov e0) w
 have hat:=hid (atInt_in g 0 (k + 1) sc k _ (nR ⟨15,a,b⟩ (mC pc fuel (.slice (some ⟨g,0,none⟩) (k + 1:Nat) sc) r0 r1 r2 r3 (.slice oA on oc) ov e0) w) (by omega) hsc ((hb0.cell (p:=⟨g,0 + k,none⟩) hg).trans hv))
 have hk2:(k:Int) < (sc:Int):=by omega
 generalize st[k]?.getD 0=top at *
 have hR':=hid (hR.cut (k:=k) (by omega))
 clear hv hR hb0
 have hbx:=hid (nR_box ⟨15,a,b⟩ (mC pc fuel (.slice (some ⟨g,0,none⟩) k sc) r0 r1 r2 r3 (.slice oA on oc) ov e0) w)
 have hrs:=hid (nR_res ⟨15,a,b⟩ (mC pc fuel (.slice (some ⟨g,0,none⟩) k sc) r0 r1 r2 r3 (.slice oA on oc) ov e0) w)
 have hbe:=hid (nR_below ⟨15,a,b⟩ (mC pc fuel (.slice (some ⟨g,0,none⟩) k sc) r0 r1 r2 r3 (.slice oA on oc) ov e0) w)
 go_enter Tryz.func112,Tryz.ntmps112
 go_wp2_with (first
  | (go_at_call 127;go_must ((with_reducible refine hat.out.mono ?_);rintro e w1 ⟨rfl,rfl⟩))
  | (at_builtin;go_must (refine append_rowH rfl (.tmp 94) (.tmp 96) _ rfl B 3 i0 _ 1 8 Tryz.underlying49 hi hz0 hz1 hz2 rfl (by decide) (.slice oA on oc) on (ou.map (.int .i64)) rfl (own_below (own_below hR'.out.ou hbe.out) (below_alloc1 _ _)) (w.heap.size + 1 + 1 + 1) #[.int .i64 top] rfl (by
    have:=Bk.new (nR ⟨15,a,b⟩ (mC pc fuel (.slice (some ⟨g,0,none⟩) k sc) r0 r1 r2 r3 (.slice oA on oc) ov e0) w) 3 #[.int .i64 top]
    rwa [World.size_alloc,World.size_alloc,World.size_alloc] at this) rfl rfl (by unfold maxLen;omega) (by omega) (by simp only [World.size_alloc];omega) ?_;intro g2 cap w2 ho2 hg2 hl2;have X2:=hid ((hbx.out.alloc _).grown hg2 (fun e=>(hR'.out.off (b:=w.heap.size + 1) (by omega)).2.1 _ e.symm rfl));have R2:=hid ((hrs.out.alloc _).grown hg2 (fun e=>(hR'.out.off (b:=w.heap.size + 1 + 1) (by omega)).2.1 _ e.symm rfl));have M2:=hid (((hR'.out.below hbe.out).below (below_alloc1 _ _)).told ho2 hg2 hl2);have BB:Hid (Rows3 B (.slice (some ⟨g,0,none⟩) (k + 1:Nat) sc) (.slice oA on oc) (.slice bA bn bc) w w2):=hid ((Rows3.start hB (bnext hbe.out (below_alloc1 _ _))).grown hB hg2 (.inr rfl) (fun k hk=>own_ge hR'.out.ou hk));have Q2:=hid hl2;have y2:=X2.out.cell 7;have yf:=X2.out.frozen;have yl:=X2.out.lt;have X3:Hid (Bk (w2.setCell ⟨w.heap.size + 1,7,none⟩ (.slice (some ⟨g2,0,none⟩) (on + 1) cap)) (w.heap.size + 1) 64 (mC pc fuel (.slice (some ⟨g,0,none⟩) k sc) r0 r1 r2 r3 (.slice (some ⟨g2,0,none⟩) (on + 1) cap) ov e0)):=hid (by simpa using X2.out.set 7 (.slice (some ⟨g2,0,none⟩) (on + 1) cap));have R3:=hid (R2.out.far (p:=⟨w.heap.size + 1,7,none⟩) (by simp) (.slice (some ⟨g2,0,none⟩) (on + 1) cap));simp only [List.getElem?_toArray,List.getElem?_cons_zero,List.getElem?_cons_succ] at y2;clear ho2 hg2 hl2))
  | (with_reducible refine ld_mach (w.heap.size + 1) X3.out _ rfl rfl rfl ?_)
  | (with_reducible refine st_mach (w.heap.size + 1 + 1) R3.out rfl rfl _ _ rfl rfl rfl rfl ?_))
 have hoff:∀ b,b=w.heap.size + 1∨b=w.heap.size + 1 + 1→offB b (.slice (some ⟨g,0,none⟩) k sc)∧offB b (.slice (some ⟨g2,0,none⟩) (on + 1) cap)∧offB b (.slice bA bn bc):=fun b hb=>by
  have ho:=hR'.out.off (b:=b) (by omega)
  refine ⟨ho.1,fun k hk=>?_,ho.2.2⟩
  obtain rfl:g2=k:=by simpa [Value.ownBlock] using hk
  rcases Q2.out with h | h
  ·exact ho.2.1 g2 h
  ·have:=hrs.out.lt
   simp only [World.size_alloc] at h
   omega
 exact bodyPost_ret (v:=.tuple #[.agg (mC pc fuel (.slice (some ⟨g,0,none⟩) k sc) r0 r1 r2 r3 (.slice (some ⟨g2,0,none⟩) (on + 1) cap) ov e0),.slice bA bn bc]) (res2_mach rfl _ _ (w.heap.size + 1 + 1) _ rfl rfl (Bk.setRow R3.out _)) rfl
  ⟨_,_,_,_,_,_,_,_,_,rfl,(M2.out.set (hoff _ (.inl rfl)) _ _).setRow (hoff _ (.inr rfl)) _,(BB.out.set hB (by omega) _ _).setRow hB (by omega) _⟩
end
end
end Go.Proofs.YtpaocjpjlogkgaaGreat
