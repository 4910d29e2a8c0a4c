/-
  Words and contracts of this claim, 2 texts laid into one, each under its own remark. No conditions but those that stand at each.
-/
import Derived.Test.YtpaocjpjlogkgaaGreatZPooW
import Derived.Test.YtpaocjpjlogkgaaGreatQRowN
import Derived.Test.YtpaocjpjlogkgaaGreatQMacNr
namespace Go.Proofs.YtpaocjpjlogkgaaGreat
set_option maxRecDepth 100000
set_option maxHeartbeats 32000000
open Go
open Go.Lib (hid)
section
open Go Go.RowKit
attribute [local go_sem] look findAt
attribute [local simp] depsOf isV Region.binds
def newT (s:Int) (x:CmL):TkL:=⟨s,x,newM x.c,none,0,0,none,0,0,[],none,0,0,-1⟩
theorem newT_tsk (s:Int) (x:CmL):(newT s x).tsk=⟨s,x.c,newM x.c,[],-1⟩:=rfl
theorem newT_in {s:Int} {x:CmL} {w:World} (h:x.In w):(newT s x).In w:=
 ⟨h,⟨⟨rfl,Nat.le_refl _,fun _=>⟨rfl,rfl⟩,fun h=>absurd h (Nat.lt_irrefl 0)⟩,⟨rfl,Nat.le_refl _,fun _=>⟨rfl,rfl⟩,fun h=>absurd h (Nat.lt_irrefl 0)⟩,⟨rfl,Nat.le_refl _,fun _=>⟨rfl,rfl⟩,fun h=>absurd h (Nat.lt_irrefl 0)⟩⟩,rfl,rfl,fun b hb=>by cases hb⟩
theorem exec_noneTk (ρ:Operand→Value) (w:World) (o:Oper) (ho:o.op=.buildSlice 28 0 #[]):(execOp ρ o).run Tryz.prog w=.ok (.value (.slice (some ⟨w.heap.size,0,none⟩) 0 0)) (w.alloc (.cells #[] 67)):=by
 unfold execOp
 simp only [ho]
 go_simp
theorem exec_singTk (ρ:Operand→Value) (w:World) (o:Oper) (x:Operand) (t:TkL) (ho:o.op=.buildSlice 28 1 #[(0,x)]) (hx:ρ x=.agg (tkA t)):(execOp ρ o).run Tryz.prog w=.ok (.value (.slice (some ⟨w.heap.size,0,none⟩) 1 1)) (w.alloc (.cells (tkA t) 67)):=by
 unfold execOp
 simp only [ho]
 go_simp
 try rw [hx]
 try go_simp
theorem radd16_any (l:List TkL) (A:Option Addr) (n c:Nat) (x:CmL) (s:Int) (w:World) (h:Tks w A c l) (hN:l.length=n) (hx:x.In w) (hz:n≤1000) :
  Calls Tryz.prog 28 #[.slice A n c,.agg (cmlC x).toArray,.int .i64 s] w (TkPost (l ++ [newT s x]) w):=by
 obtain ⟨i0,hi0,hz0,hz1,hz2⟩:=infoTsk
 have BA:=below_alloc1 w (.cells (cmlC x).toArray 56)
 have CC0:=Bk.new w 56 (cmlC x).toArray
 have HL:=(h.below BA).1
 rw [hN] at HL
 have HN:=hid hN
 have HI:=hid h.2
 have HX:=hid hx
 obtain ⟨W0,hW0⟩:∃ W0,W0=w.alloc (.cells (cmlC x).toArray 56):=⟨_,rfl⟩
 rw [← hW0] at BA CC0 HL
 have B0:=hid BA
 have hBX:Hid (∀ X,TurnK W0.heap.size 67 (n * 18) (tkC (newT s x)) W0 X→W0.heap.size≤X.heap.size):=hid (fun X hX=>hX.1.size)
 have CC:Hid (∀ X,TurnK W0.heap.size 67 (n * 18) (tkC (newT s x)) W0 X→X.cell? ⟨w.heap.size,0,none⟩=some (.slice x.ra x.nr x.rc)∧X.cell? ⟨w.heap.size,1,none⟩=some (.slice x.wa x.nw x.wc)∧X.cell? ⟨w.heap.size,2,none⟩=some (.slice x.aa x.na x.ac)∧X.cell? ⟨w.heap.size,3,none⟩=some (.int .i64 x.c.fuel)∧X.cell? ⟨w.heap.size,4,none⟩=some (.slice x.ca x.nc x.cc)∧w.heap.size < X.heap.size):=hid (fun X hX=>by
  have hb:=CC0.below hX.1
  exact ⟨hb.cell 0,hb.cell 1,hb.cell 2,hb.cell 3,hb.cell 4,hb.lt⟩)
 have SL:Hid (∀ X,TurnK W0.heap.size 67 (n * 18) (tkC (newT s x)) W0 X→Sl X 18 A n c (tksW l)):=hid (fun X hX=>Sl.below HL hX.1)
 have hw:W0.heap.size=w.heap.size + 1:=by rw [hW0,World.size_alloc]
 have hlen:=tksW_length l
 rw [hN] at hlen
 have HLEN:=hid hlen
 clear h hN hx BA CC0 HL hlen
 have HW:=hid hW0
 go_enter Tryz.func28,Tryz.ntmps28
 go_wp2
 rw [← HW.out]
 clear hW0
 try simp only [List.append_eq,List.cons_append,List.nil_append]
 refine wp_region_saysK 10 (fun x' y'=>TurnK W0.heap.size 67 (n * 18) (tkC (newT s x)) x' y') TurnK.trans W0 (TurnK.of (Nat.le_refl _) (below_drew1 W0)) (by kernel_rfl) (by kernel_rfl) (by kernel_rfl) (by kernel_rfl) (by rfl) ?_
 simp only [List.take_succ_cons,List.take_zero,List.drop_succ_cons,List.drop_zero]
 refine walkK_new (recV W0.heap.size 67 18 0 []) (by first | exact gs0 rfl | exact gs1 rfl rfl rfl) (fun v x' y' hb h=>recV_turn (Nat.zero_le _) v x' y' hb h) (fun u X hX hd=>⟨_,_,exec_noneTk _ _ _ rfl,TurnK.of (hBX.out X hX) (below_alloc1 _ _),_,_,rfl,World.ownsRow_lit X #[] 0 (hBX.out X hX) (by decide) rfl,fun _=>rfl⟩) ?_
 refine wkN ?_
 refine walkK_is ?_ (by first | exact gs0 rfl | exact gs1 rfl rfl rfl) (fun _=>TurnK.refl _) (fun u X hX hd=>?_) ?_
 rotate_left
 ·skip
  try simp at hd
  go_simp
  try rfl
 refine wkN ?_
 refine walkK_new (recV W0.heap.size 67 18 n (tksW l)) (by first | exact gs0 rfl | exact gs1 rfl rfl rfl) (fun v x' y' hb h=>recV_turn (Nat.le_refl _) v x' y' hb h) (fun u X hX hd=>?_) ?_
 ·simp at hd
  obtain ⟨⟨A0,c0,hv,ho,hc0⟩,h4⟩:=hd
  obtain ⟨v',w',hr,hT,A1,c1,hv1,ho1,hz1'⟩:=run_append_recs (P:=Tryz.prog) X 28 28 W0.heap.size 67 i0 _ 18 256 Tryz.underlying28 hi0 hz0 hz1 hz2 rfl (by decide) (hBX.out X hX) A0 0 c0 [] ho hc0 A n c (tksW l) (SL.out X hX) (tksW_one l) (by unfold maxLen;omega) (by omega)
  rw [Nat.zero_mul] at hT
  rw [Nat.zero_add] at hv1 ho1 hz1'
  rw [List.nil_append] at ho1
  exact ⟨v',w',exec_append _ _ _ _ _ _ rfl (by go_simp;try exact hv) (by go_simp;try exact h4) hr,hT.zero,A1,c1,hv1,ho1,hz1'⟩
 refine wkN ?_
 refine walkK_is ?_ (by first | exact gs0 rfl | exact gs1 rfl rfl rfl) (fun _=>TurnK.refl _) (fun u X hX hd=>?_) ?_
 rotate_left
 ·skip
  try simp at hd
  go_simp
  try rfl
 iterate 2
  refine wkN ?_
  refine walkK_is ?_ (by first | exact gs0 rfl | exact gs1 rfl rfl rfl) (fun _=>TurnK.refl _) (fun u X hX hd=>?_) ?_
  rotate_left
  ·obtain ⟨q0,q1,q2,q3,q4,ql⟩:=CC.out X hX
   try simp at hd
   go_simp
   try rfl
 refine wkN ?_
 refine walkK_call (isV (.agg (mC 0 x.c.fuel (.slice none 0 0) 0 0 0 0 (.slice none 0 0) false 0))) 65 ?_ (by first | exact gs0 rfl | exact gs1 rfl rfl rfl) (fun _ _ _ _ h=>h) (fun u X hX hd=>?_) (fun X hX=>?_) ?_
 rotate_left
 ·try simp at hd
  go_simp
  try rfl
 ·exact (rmnew_any x.ra x.nr x.rc x.wa x.nw x.wc x.aa x.na x.ac x.c.fuel x.ca x.nc x.cc X).mono fun e X' ⟨he,hb⟩=>⟨_,he,TurnK.of (hBX.out X hX) hb,rfl⟩
 refine wkN ?_
 refine walkK_is (.agg (tkA (newT s x))) (by first | exact gs0 rfl | exact gs1 rfl rfl rfl) (fun _=>TurnK.refl _) (fun u X hX hd=>?_) ?_
 ·skip
  try simp at hd
  go_simp
  simp [newT,newM,rg]
 refine wkN ?_
 refine walkK_new (recV W0.heap.size 67 18 1 (tkC (newT s x))) (by first | exact gs0 rfl | exact gs1 rfl rfl rfl) (fun v x' y' hb h=>recV_sing (by omega) v x' y' hb h) (fun u X hX hd=>⟨_,_,exec_singTk _ _ _ _ (newT s x) rfl (by (try simp at hd);go_simp;try exact hd),TurnK.of (hBX.out X hX) (below_alloc1 _ _),_,_,rfl,World.ownsRow_lit X (tkA (newT s x)) 1 (hBX.out X hX) (by decide) rfl,fun h=>absurd h (by decide)⟩) ?_
 refine wkN ?_
 refine walkK_new (recV W0.heap.size 67 18 (n + 1) (tksW l ++ tkC (newT s x))) (by first | exact gs0 rfl | exact gs1 rfl rfl rfl) (fun v x' y' hb h=>recV_more (m:=1) HLEN.out rfl v x' y' hb h) (fun u X hX hd=>?_) ?_
 ·simp at hd
  obtain ⟨⟨A0,c0,hv,ho,hc0⟩,⟨A2,c2,hv2,ho2,-⟩,-⟩:=hd
  obtain ⟨v',w',hr,hT,hV⟩:=run_append_recs (P:=Tryz.prog) X 28 28 W0.heap.size 67 i0 _ 18 256 Tryz.underlying28 hi0 hz0 hz1 hz2 rfl (by decide) (hBX.out X hX) A0 n c0 (tksW l) ho hc0 A2 1 c2 (tkC (newT s x)) (Sl.own' ho2) (tkC_one _) (by unfold maxLen;omega) (by omega)
  exact ⟨v',w',exec_append _ _ _ _ _ _ rfl (by go_simp;try exact hv) (by go_simp;try exact hv2) hr,hT,hV⟩
 refine wkN ?_
 intro u X hX hsay
 simp only [sayAll,isV] at hsay
 obtain ⟨-,-,-,-,-,-,-,-,-,v9,-⟩:=hsay
 obtain ⟨A3,c3,v9,hO,-⟩:=v9
 simp only [putAll,Act.put,v9,List.setIfInBounds_toArray,List.set_cons_succ,List.set_cons_zero,Nat.zero_add,Nat.reduceAdd]
 have hb:=bnext B0.out hX.1
 have hP:Hid (TkOwn w.heap.size X A3 (n + 1) c3 (l ++ [newT s x])):=hid ⟨by rw [List.length_append,HN.out];rfl,by rw [tksW_append,tksW_sing];exact own_lower hO (by omega),fun t ht=>by
  rcases List.mem_append.1 ht with q | q
  ·exact (HI.out t q).below hb
  ·rw [List.mem_singleton] at q
   rw [q]
   exact newT_in (HX.out.below hb)⟩
 have HB:=hid hb
 clear hO hb hX v9
 go_wp2
 go_ret
 exact ⟨_,_,_,rfl,hP.out,HB.out⟩
end
section
open Go Go.RowKit
attribute [local go_sem] look findAt
attribute [local simp] depsOf isV Region.binds
theorem Sl.firstK {w:World} {size n k c:Nat} {A:Option Addr} {xs:List Value} (h:Sl w size A n c xs) (hk:k≤n) (hA:A=none→n=0):Sl w size A k c (xs.take (k * size)):=by
 have hl:=h.1
 have hks:k * size≤n * size:=Nat.mul_le_mul_right size hk
 refine ⟨by rw [List.length_take,hl];omega,by have:=h.2.1;omega,fun e=>?_,fun h0=>?_⟩
 ·obtain ⟨-,hc⟩:=h.2.2.1 e
  exact ⟨by have:=hA e;omega,hc⟩
 ·obtain ⟨b,off,e,hb,hc⟩:=h.2.2.2 (by omega)
  refine ⟨b,off,e,hb,fun j hj=>?_⟩
  rw [hc j (by omega),List.getElem?_take,if_pos hj]
def restK (b off q k size:Nat):Option Addr:=if q=k then some ⟨b,off,none⟩ else some ⟨b,off + k * size,none⟩
theorem Sl.restK {w:World} {size b off n k c:Nat} {xs:List Value} (h:Sl w size (some ⟨b,off,none⟩) n c xs) (hk:k≤n):Sl w size (Go.Proofs.YtpaocjpjlogkgaaGreat.restK b off c k size) (n - k) (c - k) (xs.drop (k * size)):=by
 have hl:=h.1
 have hc0:=h.2.1
 have hks:k * size≤n * size:=Nat.mul_le_mul_right size hk
 have hsub:(n - k) * size=n * size - k * size:=Nat.sub_mul ..
 unfold Go.Proofs.YtpaocjpjlogkgaaGreat.restK
 by_cases e:c=k
 ·rw [if_pos e]
  exact ⟨by rw [List.length_drop,hl,hsub],by omega,(fun h=>by cases h),fun hn=>absurd hn (by omega)⟩
 ·rw [if_neg e]
  refine ⟨by rw [List.length_drop,hl,hsub],by omega,(fun h=>by cases h),fun hn=>?_⟩
  obtain ⟨b',off',e',hb,hc⟩:=h.2.2.2 (by omega)
  injection e' with e'
  injection e' with e1 e2
  subst e1
  subst e2
  refine ⟨b,off + k * size,rfl,hb,fun j hj=>?_⟩
  rw [List.getElem?_drop,Nat.add_assoc]
  exact hc _ (by omega)
def lessT (l:List TkL) (i:Nat):List TkL:=l.take i ++ l.drop (i + 1)
theorem lessT_length {l:List TkL} {i:Nat} (h:i < l.length):(lessT l i).length=l.length - 1:=by
 unfold lessT
 rw [List.length_append,List.length_take,List.length_drop]
 omega
theorem tksW_take (l:List TkL) (n:Nat):(tksW l).take (n * 18)=tksW (l.take n):=recs_take tkC_length l n
theorem tksW_drop (l:List TkL) (n:Nat):(tksW l).drop (n * 18)=tksW (l.drop n):=by
 have h1:=List.take_append_drop (n * 18) (tksW l)
 have h2:tksW (l.take n) ++ tksW (l.drop n)=tksW l:=by rw [← tksW_append,List.take_append_drop]
 rw [tksW_take] at h1
 exact List.append_cancel_left (h1.trans h2.symm)
theorem rwithout16_any (l:List TkL) (A:Option Addr) (n c i:Nat) (w:World) (h:Tks w A c l) (hN:l.length=n) (hi:i < n) (hz:n≤1000) :
  Calls Tryz.prog 94 #[.slice A n c,.int .i64 (i:Int)] w (TkPost (lessT l i) w):=by
 obtain ⟨i0,hi0,hz0,hz1,hz2⟩:=infoTsk
 obtain ⟨j,hj⟩:∃ j,j=i + 1:=⟨_,rfl⟩
 have HJ:=hid hj
 have HL:=h.1
 rw [hN] at HL
 obtain ⟨b,off,rfl,hbl,-⟩:=HL.2.2.2 (by omega)
 have hnc:n≤c:=HL.2.1
 have S1:=Sl.firstK HL (k:=i) (by omega) (fun e=>by cases e)
 rw [tksW_take] at S1
 have S2:=Sl.restK HL (k:=j) (by omega)
 rw [tksW_drop] at S2
 have HN:=hid hN
 have HI:=hid h.2
 have d1:(i:Int) < (n:Int):=by omega
 have d2:(i:Int)≤(c:Int):=by omega
 have d3:(j:Int)≤(n:Int):=by omega
 have d4:(0:Int)≤(j:Int):=by omega
 have dw:IntKind.i64.wrap ((i:Int) + 1)=(j:Int):=by rw [IntKind.wrap_i64];omega
 have d10:i≤c:=by omega
 have d11:j≤n:=by omega
 have hBX:Hid (∀ X,TurnK w.heap.size 67 (i * 18) (tksW (l.drop j)) w X→w.heap.size≤X.heap.size):=hid (fun X hX=>hX.1.size)
 have SL1:Hid (∀ X,TurnK w.heap.size 67 (i * 18) (tksW (l.drop j)) w X→Sl X 18 (some ⟨b,off,none⟩) i c (tksW (l.take i))):=hid (fun X hX=>Sl.below S1 hX.1)
 have SL2:Hid (∀ X,TurnK w.heap.size 67 (i * 18) (tksW (l.drop j)) w X→Sl X 18 (restK b off c j 18) (n - j) (c - j) (tksW (l.drop j))):=hid (fun X hX=>Sl.below S2 hX.1)
 have hlen1:(tksW (l.take i)).length=i * 18:=by rw [tksW_length,List.length_take,hN,Nat.min_eq_left (by omega)]
 have hlen2:(tksW (l.drop j)).length=(n - j) * 18:=by rw [tksW_length,List.length_drop,hN]
 have HLEN1:=hid hlen1
 have HLEN2:=hid hlen2
 clear h hN HL S1 S2 hlen1 hlen2 hj
 go_enter Tryz.func94,Tryz.ntmps94
 go_wp2
 try simp only [List.append_eq,List.cons_append,List.nil_append]
 refine wp_region_saysK 10 (fun x' y'=>TurnK w.heap.size 67 (i * 18) (tksW (l.drop j)) x' y') TurnK.trans w (TurnK.of (Nat.le_refl _) (below_drew1 w)) (by kernel_rfl) (by kernel_rfl) (by kernel_rfl) (by kernel_rfl) (by rfl) ?_
 simp only [List.take_succ_cons,List.take_zero,List.drop_succ_cons,List.drop_zero]
 refine walkK_new (recV w.heap.size 67 18 0 []) (by first | exact gs0 rfl | exact gs1 rfl rfl rfl) (fun v x' y' hb h=>recV_turn (Nat.zero_le _) v x' y' hb h) (fun u X hX hd=>⟨_,_,exec_noneTk _ _ _ rfl,TurnK.of (hBX.out X hX) (below_alloc1 _ _),_,_,rfl,World.ownsRow_lit X #[] 0 (hBX.out X hX) (by decide) rfl,fun _=>rfl⟩) ?_
 iterate 2
  refine wkN ?_
  refine walkK_is ?_ (by first | exact gs0 rfl | exact gs1 rfl rfl rfl) (fun _=>TurnK.refl _) (fun u X hX hd=>?_) ?_
  rotate_left
  ·skip
   try simp at hd
   go_simp
   try rfl
 refine wkN ?_
 refine walkK_is (.slice (some ⟨b,off,none⟩) i c) (by first | exact gs0 rfl | exact gs1 rfl rfl rfl) (fun _=>TurnK.refl _) (fun u X hX hd=>?_) ?_
 ·skip
  try simp at hd
  go_simp
  try rfl
 refine wkN ?_
 refine walkK_new (recV w.heap.size 67 18 i (tksW (l.take i))) (by first | exact gs0 rfl | exact gs1 rfl rfl rfl) (fun v x' y' hb h=>recV_turn (Nat.le_refl _) v x' y' hb h) (fun u X hX hd=>?_) ?_
 ·simp at hd
  obtain ⟨⟨A0,c0,hv,ho,hc0⟩,h4⟩:=hd
  obtain ⟨v',w',hr,hT,A1,c1,hv1,ho1,hz1'⟩:=run_append_recs (P:=Tryz.prog) X 28 28 w.heap.size 67 i0 _ 18 256 Tryz.underlying28 hi0 hz0 hz1 hz2 rfl (by decide) (hBX.out X hX) A0 0 c0 [] ho hc0 (some ⟨b,off,none⟩) i c (tksW (l.take i)) (SL1.out X hX) (tksW_one _) (by have:=HJ.out;unfold maxLen;omega) (by have:=HJ.out;omega)
  rw [Nat.zero_mul] at hT
  rw [Nat.zero_add] at hv1 ho1 hz1'
  rw [List.nil_append] at ho1
  exact ⟨v',w',exec_append _ _ _ _ _ _ rfl (by go_simp;try exact hv) (by go_simp;try exact h4) hr,hT.zero,A1,c1,hv1,ho1,hz1'⟩
 iterate 2
  refine wkN ?_
  refine walkK_is ?_ (by first | exact gs0 rfl | exact gs1 rfl rfl rfl) (fun _=>TurnK.refl _) (fun u X hX hd=>?_) ?_
  rotate_left
  ·skip
   try simp at hd
   go_simp
   try rfl
 refine wkN ?_
 refine walkK_is (.int .i64 (j:Int)) (by first | exact gs0 rfl | exact gs1 rfl rfl rfl) (fun _=>TurnK.refl _) (fun u X hX hd=>?_) ?_
 ·skip
  try simp at hd
  go_simp
  try rw [dw]
 refine wkN ?_
 refine walkK_is (.slice (restK b off c j 18) (n - j) (c - j)) (by first | exact gs0 rfl | exact gs1 rfl rfl rfl) (fun _=>TurnK.refl _) (fun u X hX hd=>?_) ?_
 ·skip
  try simp at hd
  go_simp
  try simp [restK]
 refine wkN ?_
 refine walkK_new (recV w.heap.size 67 18 (i + (n - j)) (tksW (l.take i) ++ tksW (l.drop j))) (by first | exact gs0 rfl | exact gs1 rfl rfl rfl) (fun v x' y' hb h=>recV_more (m:=n - j) HLEN1.out HLEN2.out v x' y' hb h) (fun u X hX hd=>?_) ?_
 ·simp at hd
  obtain ⟨⟨A0,c0,hv,ho,hc0⟩,hv2⟩:=hd
  obtain ⟨v',w',hr,hT,hV⟩:=run_append_recs (P:=Tryz.prog) X 28 28 w.heap.size 67 i0 _ 18 256 Tryz.underlying28 hi0 hz0 hz1 hz2 rfl (by decide) (hBX.out X hX) A0 i c0 (tksW (l.take i)) ho hc0 (restK b off c j 18) (n - j) (c - j) (tksW (l.drop j)) (SL2.out X hX) (tksW_one _) (by have:=HJ.out;unfold maxLen;omega) (by have:=HJ.out;omega)
  exact ⟨v',w',exec_append _ _ _ _ _ _ rfl (by go_simp;try exact hv) (by go_simp;try exact hv2) hr,hT,hV⟩
 refine wkN ?_
 intro u X hX hsay
 simp only [sayAll,isV] at hsay
 obtain ⟨-,-,-,-,-,-,-,-,-,v9,-⟩:=hsay
 obtain ⟨A3,c3,v9,hO,-⟩:=v9
 simp only [putAll,Act.put,v9,List.setIfInBounds_toArray,List.set_cons_succ,List.set_cons_zero,Nat.zero_add,Nat.reduceAdd]
 have hb:=hX.1
 have hP:Hid (TkOwn w.heap.size X A3 (i + (n - j)) c3 (lessT l i)):=hid ⟨by rw [lessT_length (by rw [HN.out];omega),HN.out];have:=HJ.out;omega,by unfold lessT;rw [tksW_append,← HJ.out];exact hO,fun t ht=>by
  rcases List.mem_append.1 ht with q | q
  ·exact (HI.out t (List.mem_of_mem_take q)).below hb
  ·exact (HI.out t (List.mem_of_mem_drop q)).below hb⟩
 have HB:=hid hb
 clear hO hb hX v9
 go_wp2
 go_ret
 exact ⟨_,_,_,rfl,hP.out,HB.out⟩
end
end Go.Proofs.YtpaocjpjlogkgaaGreat
