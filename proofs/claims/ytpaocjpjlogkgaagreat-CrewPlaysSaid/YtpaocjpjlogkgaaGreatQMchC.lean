/-
  Words and contracts of this claim, 2 texts laid into one, each under its own remark. No conditions but those that stand at each.
-/
import Derived.Test.YtpaocjpjlogkgaaGreatQMacNr
import Derived.Test.YtpaocjpjlogkgaaGreatZMchB
import Derived.Test.YtpaocjpjlogkgaaGreatQWords
namespace Go.Proofs.YtpaocjpjlogkgaaGreat
set_option maxRecDepth 100000
set_option maxHeartbeats 32000000
open Go
open Go.Lib (hid)
section
open Go.RowKit
theorem res2_row {fn:Func} {p q:Tmp} {ty:TypeId} (h:fn.results = #[.cell p ty,.tmp q]) (tmps:Array Value) (w:World) (g:Nat) (cs:Array Value) (x:Value)
  (hp:tmps.getD p undef=.pointer (some ⟨g,0,none⟩)) (hq:tmps.getD q undef=x) (hl:(loadVar ty ⟨g,0,none⟩).run Tryz.prog w=.ok (.agg cs) w) :
  (results fn tmps).run Tryz.prog w=.ok (.tuple #[.agg cs,x]) w:=by
 have hp':tmps[p]?.getD undef=.pointer (some ⟨g,0,none⟩):=by simpa using hp
 have hq':tmps[q]?.getD undef=x:=by simpa using hq
 simp [results,h,hp',hq',asAddr,hl]
theorem res2_mach {fn:Func} {p q:Tmp} (hf:fn.results = #[.cell p 64,.tmp q]) (tmps:Array Value) (w:World) (g:Nat) {pc fuel:Int} {S:Value} {r0 r1 r2 r3:Int} {O:Value} {ov:Bool} {e0:Int} (x:Value)
  (hp:tmps.getD p undef=.pointer (some ⟨g,0,none⟩)) (hq:tmps.getD q undef=x) (hk:Bk w g 64 (mC pc fuel S r0 r1 r2 r3 O ov e0)):(results fn tmps).run Tryz.prog w=.ok (.tuple #[.agg (mC pc fuel S r0 r1 r2 r3 O ov e0),x]) w:=
 res2_row hf tmps w g _ x hp hq (run_loadVar_row w g _ _ _ (0,0) _ hk Tryz.underlying64 rfl infoMc)
theorem atInt_in (b off n c i:Nat) (v:Int) (w:World) (hi:i < n) (hc:n≤c) (hv:w.cell? ⟨b,off + i,none⟩=some (.int .i64 v)) :
  Calls Tryz.prog 127 #[.slice (some ⟨b,off,none⟩) n c,.int .i64 (i:Int)] w fun e w'=>e=.returned (.tuple #[.int .i64 v,.bool true])∧w=w':=by
 have d1:(i:Int) < (n:Int):=by omega
 have d2:(i:Int) < (c:Int):=by omega
 have d3:decide ((n:Int)≤(i:Int))=false:=decide_eq_false (by omega)
 go_enter Tryz.func127,Tryz.ntmps127
 go_wp2
 go_ret2
 exact ⟨rfl,rfl⟩
theorem atIns_in (l:List Ins) (A:Option Addr) (c i:Nat) (w:World) (h:Inss w A c l) (hi:i < l.length) :
  Calls Tryz.prog 80 #[.slice A l.length c,.int .i64 (i:Int)] w fun e w'=>e=.returned (.tuple #[.agg #[.int .i64 (insAt l i).op,.int .i64 (insAt l i).a,.int .i64 (insAt l i).b],.bool true])∧Below w.heap.size w w':=by
 have hc:=h.2.1
 have d1:(i:Int) < (l.length:Int):=by omega
 have d2:(i:Int) < (c:Int):=by omega
 obtain ⟨b,off,rfl,hbl,x0,x1,x2⟩:=h.cellAt (j:=i) hi
 have hB:=hid ((Below.refl w.heap.size w).alloc (Nat.le_refl _) (.cells #[.int .i64 (insAt l i).op,.int .i64 (insAt l i).a,.int .i64 (insAt l i).b] 72))
 generalize insAt l i=x at *
 generalize l.length=n at *
 clear h
 go_enter Tryz.func80,Tryz.ntmps80
 go_wp2
 exact bodyPost_ret (v:=.tuple #[.agg #[.int .i64 x.op,.int .i64 x.a,.int .i64 x.b],.bool true]) (by simp [results,Tryz.results80,go_sem]) rfl ⟨rfl,hB.out⟩
theorem atBlk_in (own:Blks) (A:Option Addr) (c i:Nat) (w:World) (h:Blocks w A c own) (h8:∀ b∈own,b.length=8) (hi:i < own.length) :
  Calls Tryz.prog 128 #[.slice A own.length c,.int .i64 (i:Int)] w fun e w'=>e=.returned (.tuple #[.agg (bkC (own[i]?.getD [])),.bool true])∧Below w.heap.size w w':=by
 have hc:=h.2.1
 have d1:(i:Int) < (own.length:Int):=by omega
 have d2:(i:Int) < (c:Int):=by omega
 obtain ⟨b,off,rfl,hbl,hr⟩:=h.range h8 (i:=i) hi
 have hl:(own[i]?.getD []).length=8:=by
  rw [List.getElem?_eq_getElem hi]
  exact h8 _ (List.getElem_mem _)
 generalize own[i]?.getD []=x at *
 generalize own.length=n at *
 have hR:=hid (hr:w.rangeAt b (off + i * 8) (x.map (.int .i64)))
 have hB:=hid ((Below.refl w.heap.size w).alloc (Nat.le_refl _) (.cells (bkC (List.replicate 8 0)) 74))
 have hN:=hid (Bk.new w 74 (bkC (List.replicate 8 0)))
 rw [bkC_noughts] at hB hN
 have i8:(Tryz.prog.info? 74).map (·.size)=some (x.map (Value.int .i64)).length:=by rw [List.length_map,hl];exact infoBlk8
 have i8':=infoBlk hl
 have s8:(bkC x).size=8:=by rw [bkC_size,hl]
 clear h h8 hr
 go_enter Tryz.func128,Tryz.ntmps128
 go_wp2_with (first
  | (refine wpList_load_mid rfl 74 _ rfl b (off + i * 8) rfl _ _ (World.rangeAt_alloc hR.out _) Tryz.underlying74 rfl i8 ?_)
  | (refine wpList_store_row rfl 74 _ _ rfl w.heap.size (bkC x) rfl rfl 74 _ hN.out i8' (by rw [s8];rfl) (bkC_all x) ?_))
 exact bodyPost_ret (v:=.tuple #[.agg (bkC x),.bool true]) (res2_row rfl _ _ w.heap.size _ _ rfl rfl (load_blk hl (Bk.setRow hN.out _))) rfl ⟨rfl,below_row hB.out (Nat.le_refl _) _⟩
theorem truth_any (b:Bool) (w:World):Calls Tryz.prog 142 #[.bool b] w fun e w'=>e=.returned (.int .i64 (if b then 1 else 0))∧w=w':=by
 cases b
 iterate 2
  ·go_enter Tryz.func142,Tryz.ntmps142
   go_wp2
   go_ret
   exact ⟨rfl,rfl⟩
end
section
open Go.RowKit
def madeV (op a b:Int):Value:=match twoN op a b with
 | some n=>.tuple #[.int .i64 n,.int .i64 0]
 | none=>.tuple #[.int .i64 0,.int .i64 12]
theorem made_any (op a b:Int) (h:7≤op∧op≤12) (w:World):Calls Tryz.prog 130 #[.int .i64 op,.int .i64 a,.int .i64 b] w fun e w'=>e=.returned (madeV op a b)∧w=w':=by
 have h1:Hid (∀ W:World,Calls Tryz.prog 142 #[.bool true] W fun e w'=>e=.returned (.int .i64 1)∧W=w'):=hid (fun W=>truth_any true W)
 have h0:Hid (∀ W:World,Calls Tryz.prog 142 #[.bool false] W fun e w'=>e=.returned (.int .i64 0)∧W=w'):=hid (fun W=>truth_any false W)
 rcases (show op=7∨op=8∨op=9∨op=10∨op=11∨op=12 by omega) with rfl | rfl | rfl | rfl | rfl | rfl
 iterate 3
  ·go_enter Tryz.func130,Tryz.ntmps130
   go_wp2
   go_ret2
   exact ⟨rfl,rfl⟩
 ·by_cases hb:b=0
  ·subst hb
   go_enter Tryz.func130,Tryz.ntmps130
   go_wp2
   go_ret2
   exact ⟨rfl,rfl⟩
  ·have hb':(b == 0)=false:=by simpa using hb
   have hm:Hid (madeV 10 a b=.tuple #[.int .i64 (wrap64 (a.tdiv b)),.int .i64 0]):=hid (by simp [madeV,twoN,hb])
   go_enter Tryz.func130,Tryz.ntmps130
   go_wp2
   go_ret2
   exact ⟨by rw [hm.out];rfl,rfl⟩
 ·by_cases hc:a < b
  ·have hm:Hid (madeV 11 a b=.tuple #[.int .i64 1,.int .i64 0]):=hid (by simp [madeV,twoN,hc])
   go_enter Tryz.func130,Tryz.ntmps130
   go_wp2_with (go_at_call 142;go_must ((with_reducible refine (h1.out _).mono ?_);rintro e w1 ⟨rfl,rfl⟩))
   go_ret2
   exact ⟨by rw [hm.out];rfl,rfl⟩
  ·have hm:Hid (madeV 11 a b=.tuple #[.int .i64 0,.int .i64 0]):=hid (by simp [madeV,twoN,hc])
   go_enter Tryz.func130,Tryz.ntmps130
   go_wp2_with (go_at_call 142;go_must ((with_reducible refine (h0.out _).mono ?_);rintro e w1 ⟨rfl,rfl⟩))
   go_ret2
   exact ⟨by rw [hm.out];rfl,rfl⟩
 ·by_cases hc:a=b
  ·have hm:Hid (madeV 12 a b=.tuple #[.int .i64 1,.int .i64 0]):=hid (by simp [madeV,twoN,hc])
   have hd:(a == b)=true:=by simpa using hc
   clear hc
   go_enter Tryz.func130,Tryz.ntmps130
   go_wp2_with (go_at_call 142;go_must ((with_reducible refine (h1.out _).mono ?_);rintro e w1 ⟨rfl,rfl⟩))
   go_ret2
   exact ⟨by rw [hm.out];rfl,rfl⟩
  ·have hm:Hid (madeV 12 a b=.tuple #[.int .i64 0,.int .i64 0]):=hid (by simp [madeV,twoN,hc])
   have hd:(a == b)=false:=by simpa using hc
   clear hc
   go_enter Tryz.func130,Tryz.ntmps130
   go_wp2_with (go_at_call 142;go_must ((with_reducible refine (h0.out _).mono ?_);rintro e w1 ⟨rfl,rfl⟩))
   go_ret2
   exact ⟨by rw [hm.out];rfl,rfl⟩
end
end Go.Proofs.YtpaocjpjlogkgaaGreat
