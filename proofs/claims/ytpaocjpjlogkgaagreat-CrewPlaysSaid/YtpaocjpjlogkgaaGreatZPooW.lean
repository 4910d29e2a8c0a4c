/-
  What foremanref16.With and Without answer, in whatever memory. No conditions but those that stand there.
-/
import Derived.Test.YtpaocjpjlogkgaaGreatQWords
import Derived.OwnWalk
import Derived.Deep.DeepMust
import Derived.Deep.MidRow
namespace Go.Proofs.YtpaocjpjlogkgaaGreat
open Go.RowKit
set_option maxRecDepth 100000
theorem tkA_all (t:TkL):(tkA t).all (·.oneCell')=true:=all_oneCell_toArray (cs:=tkC t) (tkC_one t)
section
variable {ops:Array Oper} {rest:List Oper} {o:Oper} {a:Act} {w:World} {Q:Exit→Act→World→Prop}
theorem ld_tsk (g:Nat) {t:TkL} (hk:Bk w g 67 (tkA t)) (x:Operand) (hgd:o.guard=none) (ho:o.op=.load 67 x) (hx:a.eval x=.pointer (some ⟨g,0,none⟩))
  (h:wpList Tryz.prog ops Q rest (a.put o.dst (.agg (tkA t))) w):wpList Tryz.prog ops Q (o :: rest) a w:=
 wpList_load_row hgd _ x ho g hx _ _ (0,0) _ hk Tryz.underlying67 rfl infoTk h
end
section
variable (l:List TkL) (A:Option Addr) (n c:Nat)
set_option maxHeartbeats 4000000 in
theorem rwith16_any (i:Nat) (t:TkL) (w:World) (h:Tks w A c l) (hN:l.length=n) (hi:i < n) (hz:n≤100000) (ht:t.In w) :
  Calls Tryz.prog 43 #[.slice A n c,.int .i64 (i:Int),.agg (tkA t)] w (TkPost (l.set i t) w):=by
 obtain ⟨i0,hi0,hz0,hz1,hz2⟩:=infoTsk
 have BA:=below_alloc1 w (.cells (tkA t) 67)
 have BB:=below_alloc1 (w.alloc (.cells (tkA t) 67)) (.cells #[] 67)
 have B0:=Lib.hid (bnext BA BB)
 have K0:=Lib.hid ((Bk.new w 67 (tkA t)).below BB)
 have hs:=(h.below (bnext BA BB)).1
 rw [hN] at hs
 have SL:=Lib.hid hs
 have ho:=World.ownsRow_lit (e:=67) (size:=18) (w.alloc (.cells (tkA t) 67)) #[] 0 (Nat.le_refl (w.alloc (.cells (tkA t) 67)).heap.size) (by decide) rfl
 rw [World.size_alloc] at ho
 have O0:=Lib.hid ho
 have hs0:w.heap.size + 1≤((w.alloc (.cells (tkA t) 67)).alloc (.cells #[] 67)).heap.size:=by rw [World.size_alloc,World.size_alloc];omega
 have HN:=Lib.hid hN
 have HI:=Lib.hid h.2
 have HT:=Lib.hid ht
 have d1:(i:Int) < (n:Int):=by omega
 clear h hN hs ht BA BB ho
 go_enter Tryz.func43,Tryz.ntmps43
 go_wp2_with (first
  | (at_builtin;go_must (refine append_sl rfl _ _ _ rfl (w.heap.size + 1) 67 i0 _ 18 256 Tryz.underlying28 hi0 hz0 hz1 hz2 rfl (by decide) _ 0 _ rfl O0.out A n c _ rfl SL.out (tksW_one l) (by unfold maxLen;omega) (by omega) hs0 ?_;intro v' w1 hown hgr;obtain ⟨A1,k1,rfl,-⟩:=Sl.own hown;simp only [Nat.zero_add,List.nil_append] at hown;rw [Nat.zero_add];have C1:=Lib.hid (B0.out.grown hgr (by rw [World.size_alloc,World.size_alloc];omega) (fun b hb=>by have:=own_ge O0.out hb;omega));have K1:=Lib.hid (K0.out.grown hgr (by have:=own_ne O0.out (g:=w.heap.size) (by omega);exact fun e=>this e.symm));have O1:Hid (TkOwn w.heap.size w1 A1 n k1 l):=Lib.hid ⟨HN.out,own_lower hown (by omega),fun u hu=>(HI.out u hu).below C1.out⟩;have hcap:=O1.out.cap;have d2:(i:Int) < (k1:Int):=(by omega);obtain ⟨g,cs,rfl,hg,hkg,hsz2⟩:=O1.out.pos (by omega);have ht:=Lib.hid (hkg.there (o:=i * 18) (n:=(tkA t).size) (by show i * 18 + 18≤cs.size;omega));have hgl:=hkg.lt;clear hown hgr hkg))
  | (with_reducible refine ld_tsk w.heap.size K1.out _ rfl rfl rfl ?_)
  | (refine wpList_store_mid rfl 67 _ _ rfl g (i * 18) (tkA t) rfl rfl ht.out infoTk (tkA_all t) ?_))
 go_ret
 have C2:=below_setCells C1.out hg (tkC t) (i * 18)
 exact ⟨_,_,_,rfl,O1.out.set (by omega) fun u hu=>by
  rcases List.mem_or_eq_of_mem_set hu with q | q
  ·exact (HI.out u q).below C2
  ·rw [q]
   exact HT.out.below C2,C2⟩
end
end Go.Proofs.YtpaocjpjlogkgaaGreat
