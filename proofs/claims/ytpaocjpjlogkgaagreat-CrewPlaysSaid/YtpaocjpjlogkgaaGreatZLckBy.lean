/-
  What locks.has and Ready answer, in whatever memory, of commands whose blocks are there. No conditions but those that stand there.
-/
import Derived.Test.YtpaocjpjlogkgaaGreatQWords
import Derived.Test.YtpaocjpjlogkgaaGreatQQueE
import Derived.Test.YtpaocjpjlogkgaaGreatQRely
import Derived.BigQuiet
import Derived.Shelf.Abstract
namespace Go.Proofs.YtpaocjpjlogkgaaGreat
open Go.RowKit Go.Shelf
set_option maxRecDepth 100000
attribute [local go_sem] look findAt
attribute [local simp] depsOf isV Region.binds
theorem lhas_any (A:Option Addr) (n c:Nat) (i:Int) (h0:0≤i) (h1:i < (n:Int)) (w:World) :
  Calls Tryz.prog 101 #[.slice A n c,.int .i64 i] w fun e w'=>e=.returned (.bool true)∧w=w':=by
 go_enter Tryz.func101,Tryz.ntmps101
 go_wp2
 go_ret
 exact ⟨rfl,rfl⟩
set_option maxHeartbeats 4000000 in
theorem idxI_any (l:List Int) (p:Int→Bool) (fn:Nat) (lb:Array Value) (eg:∀ args w,(callFunc fn args).run Tryz.prog w=.ok (.enter fn args) w) (A:Option Addr) (n c:Nat) (w:World) (h:Ints w A c l) (hN:l.length=n) (hz:n≤100000)
  (hp:∀ x∈l,∀ W,Below w.heap.size w W→Calls Tryz.prog fn (#[.int .i64 x] ++ lb) W fun e w'=>e=.returned (.bool (p x))∧Below W.heap.size W w') :
  Calls Tryz.prog 125 #[.slice A n c,.func (.func fn) #[] lb] w fun e w'=>e=.returned (.int .i64 (idxP p l))∧Below w.heap.size w w':=by
 have hc:n≤c:=by have:=h.2.1;omega
 have h':=Lib.hid h
 have hN':=Lib.hid hN
 have hp':=Lib.hid hp
 obtain ⟨r,hr⟩:∃ r,r=idxP p l:=⟨_,rfl⟩
 rw [← hr]
 have hr':=Lib.hid hr
 clear h hN hp hr
 go_enter Tryz.func125,Tryz.ntmps125
 go_wp2
 go_loopw [8] (fun cc wr=>∃ i:Nat,i≤n∧cc=.int .i64 i∧Hid (∀ j y,j < i→l[j]? = some y→p y=false)∧Hid (Below w.heap.size w wr)) (fun cc _=>n - (intOf cc).toNat)
 case atStart=>exact ⟨0,Nat.zero_le _,rfl,Lib.hid (fun j y hj=>absurd hj (by omega)),Lib.hid (Below.refl _ _)⟩
 case round=>
  obtain ⟨i,hi,rfl,HB,HW⟩:=hrel
  by_cases hlt:i < n
  ·have d1:(i:Int) < (n:Int):=by omega
   have d2:(i:Int) < (c:Int):=by omega
   obtain ⟨x,hx,hxm⟩:=int_at (l:=l) (i:=i) (by rw [hN'.out];exact hlt)
   obtain ⟨bb,off,rfl,hbl,x0⟩:=(h'.out.below HW.out).cellAt (j:=i) (by rw [hN'.out];exact hlt)
   rw [hx,Option.getD_some] at x0
   have hcall:=Lib.hid (hp'.out x hxm wr HW.out)
   have hx':=Lib.hid hx
   clear hx hxm
   cases hq:p x with
   | true=>
    rw [hq] at hcall
    obtain rfl:(i:Int)=r:=by rw [hr'.out];exact (idxP_at hx'.out hq HB.out).symm
    clear hq
    go_wp2_with (go_at_fn fn;go_must (refine hcall.out.mono ?_;rintro e w1 ⟨rfl,hb1⟩;have B1:=Lib.hid (bnext HW.out hb1);clear hb1))
    go_ret
    exact ⟨rfl,B1.out⟩
   | false=>
    rw [hq] at hcall
    have HB2:Hid (∀ j y,j < i + 1→l[j]? = some y→p y=false):=Lib.hid (fun j y hj hy=>by
     by_cases he:j=i
     ·subst he
      have:=hx'.out
      rw [hy] at this
      injection this with this
      rw [this]
      exact hq
     ·exact HB.out j y (by omega) hy)
    clear hq
    go_wp2_with (go_at_fn fn;go_must (refine hcall.out.mono ?_;rintro e w1 ⟨rfl,hb1⟩;have B1:=Lib.hid (bnext HW.out hb1);clear hb1))
    go_roundw
    case rel=>exact ⟨i + 1,by omega,by go_num,HB2,B1⟩
    case measure=>simp [intOf];omega
  ·obtain rfl:i=n:=by omega
   obtain rfl : -1=r:=by
    rw [hr'.out]
    exact (idxP_none fun j y hj hy=>HB.out j y (by rw [← hN'.out];exact hj) hy).symm
   clear hlt
   go_wp2
   go_ret
   exact ⟨rfl,HW.out⟩
theorem conI_any (l:List Int) (p:Int→Bool) (fn:Nat) (lb:Array Value) (eg:∀ args w,(callFunc fn args).run Tryz.prog w=.ok (.enter fn args) w) (A:Option Addr) (n c:Nat) (w:World) (h:Ints w A c l) (hN:l.length=n) (hz:n≤100000)
  (hp:∀ x∈l,∀ W,Below w.heap.size w W→Calls Tryz.prog fn (#[.int .i64 x] ++ lb) W fun e w'=>e=.returned (.bool (p x))∧Below W.heap.size W w') :
  Calls Tryz.prog 109 #[.slice A n c,.func (.func fn) #[] lb] w fun e w'=>e=.returned (.bool (l.any p))∧Below w.heap.size w w':=by
 have hi:=Lib.hid (idxI_any l p fn lb eg A n c w h hN hz hp)
 rw [← idxP_any]
 obtain ⟨r,hr⟩:∃ r,r=idxP p l:=⟨_,rfl⟩
 rw [← hr] at hi ⊢
 clear h hN hp hr
 go_enter Tryz.func109,Tryz.ntmps109
 go_wp2_with (go_at_call 125;go_must ((with_reducible refine hi.out.mono ?_);rintro e w1 ⟨rfl,hb1⟩;have B1:=Lib.hid hb1;clear hb1))
 go_ret
 exact ⟨rfl,B1.out⟩
theorem lhas_B (A:Option Addr) (n c:Nat) (i:Int) (h0:0≤i) (h1:i < (n:Int)) (w:World) :
  Calls Tryz.prog 101 #[.slice A n c,.int .i64 i] w fun e w'=>e=.returned (.bool true)∧Below w.heap.size w w':=
 (lhas_any A n c i h0 h1 w).mono fun _ _ ⟨h,hw⟩=>⟨h,by rw [← hw];exact Below.refl _ _⟩
set_option maxHeartbeats 8000000 in
theorem ready1_any (L:Lks) (A:Option Addr) (n c:Nat) (s:Int) (j g1 g2:Nat) (w:World) (h:LkSl w A n c L) (hG:GrL L) (hj:j < n) (hM:(lkAt L j).length≤9000) (hg1:w.cell? ⟨g1,0,none⟩=some (.slice A n c)) (hg2:w.cell? ⟨g2,0,none⟩=some (.int .i64 s)) (l1:g1 < w.heap.size) (l2:g2 < w.heap.size) :
  Calls Tryz.prog 107 #[.int .i64 (j:Int),.pointer (some ⟨g1,0,none⟩),.pointer (some ⟨g2,0,none⟩)] w fun e w'=>e=.returned (.bool (!hasS (lkAt L j) s))∧Below w.heap.size w w':=by
 have hcap:=h.cap
 obtain ⟨g,off,A',m,k,rfl,hgl,x0,hm,hw,-⟩:=h.at hj
 have d1:(j:Int) < (n:Int):=by omega
 have d2:(j:Int) < (c:Int):=by omega
 have hQ:Hid (∀ X,Below w.heap.size w X→X.cell? ⟨g1,0,none⟩=some (.slice (some ⟨g,off,none⟩) n c)∧X.cell? ⟨g2,0,none⟩=some (.int .i64 s)∧X.cell? ⟨g,off + j,none⟩=some (.slice A' m k)∧g1 < X.heap.size∧g2 < X.heap.size∧g < X.heap.size):=Lib.hid (fun X hX=>⟨(hX.cell (p:=⟨g1,_,none⟩) l1).trans hg1,(hX.cell (p:=⟨g2,_,none⟩) l2).trans hg2,(hX.cell (p:=⟨g,_,none⟩) hgl).trans x0,Nat.lt_of_lt_of_le l1 hX.size,Nat.lt_of_lt_of_le l2 hX.size,Nat.lt_of_lt_of_le hgl hX.size⟩)
 have hh:=Lib.hid (fun X (_:Below w.heap.size w X)=>lhas_B (some ⟨g,off,none⟩) n c (j:Int) (by omega) d1 X)
 have hs:Hid (∀ X,Below w.heap.size w X→Calls Tryz.prog 108 #[.slice A' m k,.int .i64 s] X fun e w'=>e=.returned (.bool (hasS (lkAt L j) s))∧Below X.heap.size X w'):=Lib.hid (fun X hX=>by
  have hm':(lkAt L j).length=m:=hm
  have:=has_any (lkAt L j) A' m k s X (hw.below hX) hm (by omega)
  rwa [hG.has] at this)
 generalize hasS (lkAt L j) s=hb at *
 clear h hG hM hg1 hg2 x0 hm hw
 go_enter Tryz.func107,Tryz.ntmps107
 go_wp2
 try simp only [List.append_eq,List.cons_append,List.nil_append]
 refine wp_region_saysK 13 (fun x y=>Below x.heap.size x y) (fun _ _ _ h k=>bnext h k) w (below_drew1 w) (by kernel_rfl) (by kernel_rfl) (by kernel_rfl) (by kernel_rfl) (by rfl) ?_
 simp only [List.take_succ_cons,List.take_zero,List.drop_succ_cons,List.drop_zero]
 iterate 2
  refine wkI ?_ (fun u X hX hd=>?_) ?_
  rotate_left
  ·obtain ⟨q1,q2,q3,q4,q5,q6⟩:=hQ.out X hX
   try simp at hd
   go_simp
   try rfl
 refine walkK_call (isV (.bool true)) 101 ?_ (by first | exact gs0 rfl | exact gs1 rfl rfl rfl) (fun _ _ _ _ h=>h) (fun u X hX hd=>?_) (fun X hX=>?_) ?_
 rotate_left
 ·obtain ⟨q1,q2,q3,q4,q5,q6⟩:=hQ.out X hX
  try simp at hd
  go_simp
  try rfl
 ·exact (hh.out X hX).mono fun e X' ⟨he,hb⟩=>⟨_,he,hb,rfl⟩
 refine wkN ?_
 iterate 2
  refine wkI (.bool false) (fun u X hX hd=>?_) ?_
  ·obtain ⟨q1,q2,q3,q4,q5,q6⟩:=hQ.out X hX
   try simp at hd
   go_simp
   try rfl
 iterate 5
  refine wkI ?_ (fun u X hX hd=>?_) ?_
  rotate_left
  ·obtain ⟨q1,q2,q3,q4,q5,q6⟩:=hQ.out X hX
   try simp at hd
   go_simp
   try rfl
 refine walkK_call (isV (.bool hb)) 108 ?_ (by first | exact gs0 rfl | exact gs1 rfl rfl rfl) (fun _ _ _ _ h=>h) (fun u X hX hd=>?_) (fun X hX=>?_) ?_
 rotate_left
 ·obtain ⟨q1,q2,q3,q4,q5,q6⟩:=hQ.out X hX
  try simp at hd
  go_simp
  try rfl
 ·exact (hs.out X hX).mono fun e X' ⟨he,hb⟩=>⟨_,he,hb,rfl⟩
 refine wkN ?_
 refine wkI ?_ (fun u X hX hd=>?_) ?_
 rotate_left
 ·obtain ⟨q1,q2,q3,q4,q5,q6⟩:=hQ.out X hX
  try simp at hd
  go_simp
  try rfl
 refine wkI (.bool (!hb)) (fun u X hX hd=>?_) ?_
 ·obtain ⟨q1,q2,q3,q4,q5,q6⟩:=hQ.out X hX
  try simp at hd
  go_simp
  try rfl
 intro u X hX hsay
 simp only [sayAll,isV] at hsay
 obtain ⟨-,-,-,-,-,-,-,-,-,-,-,-,v12,-⟩:=hsay
 simp only [putAll,Act.put,v12,List.setIfInBounds_toArray,List.set_cons_succ,List.set_cons_zero,Nat.zero_add,Nat.reduceAdd]
 have BX:=Lib.hid hX
 go_wp2
 go_ret
 exact ⟨rfl,BX.out⟩
theorem egReady1:∀ args w,(callFunc 107 args).run Tryz.prog w=.ok (.enter 107 args) w:=enters_of Tryz.func107 (by kernel_rfl) rfl
section
variable (c:Cmd) (ra:Option Addr) (nr rc:Nat) (wa:Option Addr) (nw wc:Nat) (aa:Option Addr) (na ac:Nat) (fuel:Int) (ca:Option Addr) (nc cc:Nat) (L:Lks) (A:Option Addr) (n k:Nat) (s:Int)
set_option maxHeartbeats 4000000 in
theorem lready_any (w:World) (h:LkSl w A n k L) (hG:GrL L) (hM:∀ b,(lkAt L b).length≤8000) (hc:CmLk w c ra nr rc wa nw wc n) :
  Calls Tryz.prog 73 #[.slice A n k,cmV ra nr rc wa nw wc aa na ac fuel ca nc cc,.int .i64 s] w fun e w'=>e=.returned (.bool (readyL L c s))∧Below w.heap.size w w':=by
 have B0:=below_alloc1 w (.cells #[.slice A n k] 27)
 have B1:=below_alloc1 (w.alloc (.cells #[.slice A n k] 27)) (CmObj ra nr rc wa nw wc aa na ac fuel ca nc cc)
 have B2:=below_alloc1 ((w.alloc (.cells #[.slice A n k] 27)).alloc (CmObj ra nr rc wa nw wc aa na ac fuel ca nc cc)) (.cells #[.int .i64 s] 3)
 have BB:=bnext B0 (bnext B1 B2)
 have K0:=((Bk.new w 27 #[.slice A n k]).below B1).below B2
 have C0:=(Bk.new (w.alloc (.cells #[.slice A n k] 27)) 56 #[.slice ra nr rc,.slice wa nw wc,.slice aa na ac,.int .i64 fuel,.slice ca nc cc]).below B2
 have V0:=Bk.new ((w.alloc (.cells #[.slice A n k] 27)).alloc (CmObj ra nr rc wa nw wc aa na ac fuel ca nc cc)) 3 #[.int .i64 s]
 rw [World.size_alloc] at C0
 rw [World.size_alloc,World.size_alloc] at V0
 obtain ⟨W0,hW0⟩:∃ W,W=((w.alloc (.cells #[.slice A n k] 27)).alloc (CmObj ra nr rc wa nw wc aa na ac fuel ca nc cc)).alloc (.cells #[.int .i64 s] 3):=⟨_,rfl⟩
 rw [← hW0] at K0 C0 V0 BB
 have hcon:∀ (W:World) (l:List Int) (la:Option Addr) (ln lc:Nat),Below W0.heap.size W0 W→Ints W0 la lc l→l.length=ln→ln≤8→(∀ x∈l,0≤x∧x < (n:Int))→Calls Tryz.prog 109 #[.slice la ln lc,.func (.func 107) #[] #[.pointer (some ⟨w.heap.size,0,none⟩),.pointer (some ⟨w.heap.size + 1 + 1,0,none⟩)]] W fun e w'=>e=.returned (.bool (l.any fun x=>!hasS (lkAt L x.toNat) s))∧Below W.heap.size W w':=fun W l la ln lc hW hl hN h8 hin=>
  conI_any l _ 107 _ egReady1 la ln lc W (hl.below hW) hN (by omega) (fun x hx V hV=>by
   obtain ⟨h1,h2⟩:=hin x hx
   obtain ⟨j,rfl⟩:=Int.eq_ofNat_of_zero_le h1
   rw [Int.toNat_natCast]
   have hWV:=bnext hW hV
   exact ready1_any L A n k s j w.heap.size (w.heap.size + 1 + 1) V ((h.below BB).below hWV) hG (by omega) (by have:=hM j;omega) ((K0.below hWV).cell 0) ((V0.below hWV).cell 0) (K0.below hWV).lt (V0.below hWV).lt)
 have hb0:=hc.below BB
 have HR1:=Lib.hid (fun W (hW:Below W0.heap.size W0 W)=>hcon W c.reads ra nr rc hW hb0.reads hc.lr hc.br hc.inr)
 have HR2:=Lib.hid (fun W (hW:Below W0.heap.size W0 W)=>hcon W c.writes wa nw wc hW hb0.writes hc.lw hc.bw hc.inw)
 have CC:Hid (∀ W,Below W0.heap.size W0 W→Bk W (w.heap.size + 1) 56 #[.slice ra nr rc,.slice wa nw wc,.slice aa na ac,.int .i64 fuel,.slice ca nc cc]):=Lib.hid (fun W hW=>C0.below hW)
 have HBB:=Lib.hid BB
 rw [readyL_eq]
 clear hcon hb0 h hM hG hc K0 C0 V0 B0 B1 B2 BB
 generalize (c.reads.any fun x=>!hasS (lkAt L x.toNat) s)=r1 at *
 generalize (c.writes.any fun x=>!hasS (lkAt L x.toNat) s)=r2 at *
 obtain ⟨c0,c1,c2,c3,c4,cf⟩:=(CC.out _ (Below.refl _ _)).cmd
 have cl:=(CC.out _ (Below.refl _ _)).lt
 have HR0:=Lib.hid (HR1.out _ (Below.refl _ _))
 rw [hW0] at HR0 c0 c1 c2 c3 c4 cl cf
 have HWW:=Lib.hid hW0
 clear hW0 HR1
 cases r1 with
 | true=>
  go_enter Tryz.func73,Tryz.ntmps73
  go_wp2_with (go_at_call 109;go_must ((with_reducible refine HR0.out.mono ?_);rintro e w1 ⟨rfl,hb1⟩;rw [← HWW.out] at hb1;have B1:=Lib.hid (bnext HBB.out hb1);clear hb1))
  go_ret
  exact ⟨rfl,B1.out⟩
 | false=>
  have m1:True:=trivial
  go_enter Tryz.func73,Tryz.ntmps73
  go_wp2_with (first
   | (go_at_call 109;clear m1;go_must ((with_reducible refine HR0.out.mono ?_);rintro e w1 ⟨rfl,hb1⟩;rw [← HWW.out] at hb1;have B1:=Lib.hid hb1;clear c0 c1 c2 c3 c4 cf cl;obtain ⟨c0,c1,c2,c3,c4,cf⟩:=(CC.out _ hb1).cmd;have cl:=(CC.out _ hb1).lt;clear hb1))
   | (go_at_call 109;go_must ((with_reducible refine (HR2.out _ B1.out).mono ?_);rintro e w2 ⟨rfl,hb2⟩;have B2:=Lib.hid (bnext HBB.out (bnext B1.out hb2));clear hb2)))
  go_ret
  exact ⟨rfl,B2.out⟩
end
end Go.Proofs.YtpaocjpjlogkgaaGreat
