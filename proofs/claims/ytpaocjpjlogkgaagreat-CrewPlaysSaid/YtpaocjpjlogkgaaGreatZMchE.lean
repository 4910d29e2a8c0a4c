/-
  What machine.named answers, in whatever memory, where what is named is there. No conditions but those that stand there.
-/
import Derived.Test.YtpaocjpjlogkgaaGreatQMchC
import Derived.Test.YtpaocjpjlogkgaaGreatQWords
import Derived.Test.YtpaocjpjlogkgaaGreatQCelA
import Derived.Deep.QuietTactic
import Derived.BigQuiet
namespace Go.Proofs.YtpaocjpjlogkgaaGreat
open Go.RowKit
set_option maxRecDepth 100000
abbrev nB (x:Ins) (cs:Array Value) (w:World):World:=(w.alloc (IObj x)).alloc (.cells cs 64)
theorem nB_below (x:Ins) (cs:Array Value) (w:World):Below w.heap.size w (nB x cs w):=((Below.refl _ _).alloc (Nat.le_refl _) _).alloc (by rw [World.size_alloc];omega) _
theorem nB_ins (x:Ins) (cs:Array Value) (w:World):Bk (nB x cs w) w.heap.size 72 #[.int .i64 x.op,.int .i64 x.a,.int .i64 x.b]:=(Bk.new w _ _).alloc _
theorem nB_box (x:Ins) (cs:Array Value) (w:World):Bk (nB x cs w) (w.heap.size + 1) 64 cs:=by
 have:=Bk.new (w.alloc (IObj x)) 64 cs
 rwa [World.size_alloc] at this
section
variable (pc fuel:Int) (sA:Option Addr) (sn sc:Nat) (r0 r1 r2 r3:Int) (oA:Option Addr) (on oc:Nat) (ov:Bool) (e0:Int) (aA:Option Addr) (an ac:Nat) (bA:Option Addr) (bn bc:Nat)
abbrev NamedPost (v:Int) (w:World) (e:Ending) (w':World):Prop:=e=.returned (.tuple #[.int .i64 v,.bool true])∧Below w.heap.size w w'
theorem named_push (a b:Int) (w:World):Calls Tryz.prog 126 #[.agg #[.int .i64 1,.int .i64 a,.int .i64 b],.slice aA an ac,.agg (mC pc fuel (.slice sA sn sc) r0 r1 r2 r3 (.slice oA on oc) ov e0),.slice bA bn bc] w (NamedPost a w):=by
 have hB:=Lib.hid (nB_below ⟨1,a,b⟩ (mC pc fuel (.slice sA sn sc) r0 r1 r2 r3 (.slice oA on oc) ov e0) w)
 go_enter Tryz.func126,Tryz.ntmps126
 go_wp2
 go_ret2
 exact ⟨rfl,hB.out⟩
theorem named_load (k:Nat) (b v:Int) (hk:k < 4) (hv:(mC pc fuel (.slice sA sn sc) r0 r1 r2 r3 (.slice oA on oc) ov e0)[3 + k]? = some (.int .i64 v)) (w:World) :
  Calls Tryz.prog 126 #[.agg #[.int .i64 2,.int .i64 (k:Int),.int .i64 b],.slice aA an ac,.agg (mC pc fuel (.slice sA sn sc) r0 r1 r2 r3 (.slice oA on oc) ov e0),.slice bA bn bc] w (NamedPost v w):=by
 have hB:=Lib.hid (nB_below ⟨2,k,b⟩ (mC pc fuel (.slice sA sn sc) r0 r1 r2 r3 (.slice oA on oc) ov e0) w)
 have hat:Hid (∀ n,Calls Tryz.prog 127 #[.slice (some ⟨w.heap.size + 1,3,none⟩) 4 4,.int .i64 (k:Int)] ((nB ⟨2,k,b⟩ (mC pc fuel (.slice sA sn sc) r0 r1 r2 r3 (.slice oA on oc) ov e0) w).drewN n)
   fun e w'=>e=.returned (.tuple #[.int .i64 v,.bool true])∧w'=(nB ⟨2,k,b⟩ (mC pc fuel (.slice sA sn sc) r0 r1 r2 r3 (.slice oA on oc) ov e0) w).drewN n):=Lib.hid (fun n=>
  (atInt_in (w.heap.size + 1) 3 4 4 k v _ hk (Nat.le_refl _) ((((nB_box ⟨2,k,b⟩ _ w).below (drewN_below _ n)).cell (3 + k)).trans hv)).mono fun e w' ⟨h1,h2⟩=>⟨h1,h2.symm⟩)
 clear hv hk
 go_enter Tryz.func126,Tryz.ntmps126
 go_wp2
 go_quiet ((go_at_call 127;exact Calls.quiet_of_same (hat.out _)))
 go_wp2
 go_ret2
 exact ⟨rfl,hB.out.trans (below_drewQ _ _ _)⟩
theorem named_arg (args:List Int) (w:World) (hA:Ints w aA ac args) (hn:args.length=an) (k:Nat) (b:Int) (hk:k < an) :
  Calls Tryz.prog 126 #[.agg #[.int .i64 6,.int .i64 (k:Int),.int .i64 b],.slice aA an ac,.agg (mC pc fuel (.slice sA sn sc) r0 r1 r2 r3 (.slice oA on oc) ov e0),.slice bA bn bc] w (NamedPost (args[k]?.getD 0) w):=by
 have hB:=Lib.hid (nB_below ⟨6,k,b⟩ (mC pc fuel (.slice sA sn sc) r0 r1 r2 r3 (.slice oA on oc) ov e0) w)
 subst hn
 have hc:=hA.2.1
 obtain ⟨g,off,rfl,hg,hv⟩:=(hA.below hB.out).cellAt (j:=k) hk
 have hat:=Lib.hid (atInt_in g off args.length ac k _ _ hk hc hv)
 generalize args[k]?.getD 0=v at *
 generalize args.length=an at *
 clear hA hv hg
 go_enter Tryz.func126,Tryz.ntmps126
 go_wp2_with (go_at_call 127;go_must ((with_reducible refine hat.out.mono ?_);rintro e w1 ⟨rfl,rfl⟩))
 go_ret2
 exact ⟨rfl,hB.out⟩
theorem named_get (own:Blks) (w:World) (hO:Blocks w bA bc own) (h8:∀ x∈own,x.length=8) (hn:own.length=bn) (k:Nat) (b:Int) (hk:k < bn) :
  Calls Tryz.prog 126 #[.agg #[.int .i64 4,.int .i64 (k:Int),.int .i64 b],.slice aA an ac,.agg (mC pc fuel (.slice sA sn sc) r0 r1 r2 r3 (.slice oA on oc) ov e0),.slice bA bn bc] w (NamedPost (getC (own[k]?.getD []) b) w):=by
 have hB:=Lib.hid (nB_below ⟨4,k,b⟩ (mC pc fuel (.slice sA sn sc) r0 r1 r2 r3 (.slice oA on oc) ov e0) w)
 have hI:=Lib.hid (nB_ins ⟨4,k,b⟩ (mC pc fuel (.slice sA sn sc) r0 r1 r2 r3 (.slice oA on oc) ov e0) w)
 subst hn
 have hat:=Lib.hid (atBlk_in own bA bc k _ (hO.below hB.out) h8 hk)
 have hl:(own[k]?.getD []).length=8:=by
  rw [List.getElem?_eq_getElem hk]
  exact h8 _ (List.getElem_mem _)
 have hge:=Lib.hid (fun W=>get_any (own[k]?.getD []) hl b W)
 have i8:=infoBlk hl
 have s8:(bkC (own[k]?.getD [])).size=8:=by rw [bkC_size,hl]
 generalize own[k]?.getD []=x at *
 generalize own.length=bn at *
 clear hO h8 hl hk
 go_enter Tryz.func126,Tryz.ntmps126
 go_wp2_with (first
  | (go_at_call 128;go_must ((with_reducible refine hat.out.mono ?_);rintro e w1 ⟨rfl,hb1⟩;have I1:=Lib.hid ((hI.out.below hb1));have B1:=Lib.hid (bnext hB.out hb1);have N1:=Lib.hid (Bk.new w1 74 (bkC (List.replicate 8 0)));have L1:=I1.out.lt;have M1:=Lib.hid ((I1.out.alloc (.cells (bkC (List.replicate 8 0)) 74)).farRow (h:=w1.heap.size) (by omega) (bkC x));have c2:=M1.out.cell 2;simp only [List.getElem?_toArray,List.getElem?_cons_zero,List.getElem?_cons_succ] at c2;rw [bkC_noughts] at N1 c2;clear hb1))
  | (refine wpList_store_row rfl 74 _ _ rfl w1.heap.size (bkC x) rfl rfl 74 _ N1.out i8 (by rw [s8];rfl) (bkC_all x) ?_)
  | (refine wpList_load_row rfl 74 _ rfl w1.heap.size rfl 74 _ (0,0) _ (Bk.setRow N1.out _) Tryz.underlying74 rfl i8 ?_)
  | (go_at_call 140;go_must ((with_reducible refine (hge.out _).mono ?_);rintro e w2 ⟨rfl,hb2⟩)))
 go_ret2
 exact ⟨rfl,bnext (below_row (bnext B1.out (below_alloc1 _ _)) (by omega) _) hb2⟩
end
end Go.Proofs.YtpaocjpjlogkgaaGreat
