/-
  Words and contracts of this claim, 3 texts laid into one, each under its own remark. No conditions but those that stand at each.
-/
import Derived.Test.YtpaocjpjlogkgaaGreatQTskC
import Derived.Test.YtpaocjpjlogkgaaGreatZMchB
import Derived.Test.YtpaocjpjlogkgaaGreatZPooW
namespace Go.Proofs.YtpaocjpjlogkgaaGreat
set_option maxRecDepth 100000
set_option maxHeartbeats 32000000
open Go
open Go.Lib (hid)
section
open Go Go.RowKit
attribute [local go_sem] look findAt
attribute [local simp] depsOf isV Region.binds
theorem Sl.up {B:Nat} {w w':World} {size n c:Nat} {A:Option Addr} {xs:List Value} (h:Sl w size A n c xs) (ho:overA B A n) (hk:KeptUp B w w'):Sl w' size A n c xs:=by
 refine ⟨h.1,h.2.1,h.2.2.1,fun hn=>?_⟩
 obtain ⟨b,off,e,hb,hc⟩:=h.2.2.2 hn
 refine ⟨b,off,e,by have:=hk.1;omega,fun j hj=>?_⟩
 rw [← hc j hj]
 unfold World.cell?
 simp only
 rw [hk.2 b (ho hn b off e) hb]
theorem CmRaw.mk' {w:World} {c:Cmd} {ra:Option Addr} {nr rc:Nat} {wa:Option Addr} {nw wc:Nat} {aa:Option Addr} {na ac:Nat} {ca:Option Addr} {nc cc:Nat} (l1:c.reads.length=nr) (l2:c.writes.length=nw) (l3:c.args.length=na) (l4:c.code.length=nc)
  (h1:Sl w 1 ra nr rc (c.reads.map (.int .i64))) (h2:Sl w 1 wa nw wc (c.writes.map (.int .i64))) (h3:Sl w 1 aa na ac (c.args.map (.int .i64))) (h4:Sl w 3 ca nc cc (inssW c.code)):CmRaw w c ra nr rc wa nw wc aa na ac ca nc cc:=by
 refine ⟨l1,l2,l3,l4,?_,?_,?_,?_⟩
 ·unfold Ints;rw [l1];exact h1
 ·unfold Ints;rw [l2];exact h2
 ·unfold Ints;rw [l3];exact h3
 ·unfold Inss;rw [l4];exact h4
theorem CmRaw.sls {w:World} {c:Cmd} {ra:Option Addr} {nr rc:Nat} {wa:Option Addr} {nw wc:Nat} {aa:Option Addr} {na ac:Nat} {ca:Option Addr} {nc cc:Nat} (h:CmRaw w c ra nr rc wa nw wc aa na ac ca nc cc) :
  Sl w 1 ra nr rc (c.reads.map (.int .i64))∧Sl w 1 wa nw wc (c.writes.map (.int .i64))∧Sl w 1 aa na ac (c.args.map (.int .i64))∧Sl w 3 ca nc cc (inssW c.code):=by
 have h1:=h.reads
 have h2:=h.writes
 have h3:=h.args
 have h4:=h.code
 unfold Ints at h1 h2 h3
 unfold Inss at h4
 rw [h.lr] at h1
 rw [h.lw] at h2
 rw [h.la] at h3
 rw [h.lc] at h4
 exact ⟨h1,h2,h3,h4⟩
theorem CmL.In.up {B:Nat} {x:CmL} {w w':World} (h:x.In w) (ho:x.Over B) (hk:KeptUp B w w'):x.In w':=by
 obtain ⟨h1,h2,h3,h4⟩:=CmRaw.sls h
 exact CmRaw.mk' h.lr h.lw h.la h.lc (h1.up ho.r hk) (h2.up ho.w hk) (h3.up ho.a hk) (h4.up ho.c hk)
theorem infoCm5:(Tryz.prog.info? 56).map (·.size)=some 5:=by kernel_rfl
abbrev cmZ:Array Value:=#[.slice none 0 0,.slice none 0 0,.slice none 0 0,.int .i64 0,.slice none 0 0]
theorem int_one {w:World} {A:Option Addr} {n c:Nat} {l:List Int} (_:Sl w 1 A n c (l.map (.int .i64))):∀ u∈l.map (Value.int .i64),u.oneCell'=true:=fun u hu=>by
 obtain ⟨x,_,rfl⟩:=List.mem_map.1 hu
 rfl
theorem ins_one (l:List Ins):∀ u∈inssW l,u.oneCell'=true:=fun u hu=>by
 obtain ⟨x,_,hx⟩:=List.mem_flatMap.1 hu
 simp only [insW,List.mem_cons,List.not_mem_nil,or_false] at hx
 rcases hx with rfl | rfl | rfl <;> rfl
theorem clone_intsV {B:Nat} {A:Option Addr} {n c:Nat} {l:List Int} {X:World} (h:Sl X 1 A n c (l.map (.int .i64))) (hn:n≤1000) (hB:B≤X.heap.size) :
  Calls Tryz.prog 77 #[.slice A n c] X fun e X'=>∃ v,e=.returned v∧Below X.heap.size X X'∧ownV B 3 1 n (l.map (.int .i64)) v X':=
 (clone_ints A n c _ X h hn (int_one h)).mono fun _ _ ⟨A',c',he,ho,hb⟩=>⟨_,he,hb,A',c',rfl,own_lower ho hB⟩
theorem clone_inssV {B:Nat} {A:Option Addr} {n c:Nat} {l:List Ins} {X:World} (h:Sl X 3 A n c (inssW l)) (hn:n≤1000) (hB:B≤X.heap.size) :
  Calls Tryz.prog 120 #[.slice A n c] X fun e X'=>∃ v,e=.returned v∧Below X.heap.size X X'∧ownV B 72 3 n (inssW l) v X':=
 (clone_inss A n c _ X h hn (ins_one l)).mono fun _ _ ⟨A',c',he,ho,hb⟩=>⟨_,he,hb,A',c',rfl,own_lower ho hB⟩
section
variable {ops:Array Oper} {rest:List Oper} {o:Oper} {a:Act} {w:World} {Q:Exit→Act→World→Prop}
theorem st_cmd (g:Nat) {cs:Array Value} (hk:Bk w g 56 cs) (hs:cs.size=5) (A1:Option Addr) (n1 c1:Nat) (A2:Option Addr) (n2 c2:Nat) (A3:Option Addr) (n3 c3:Nat) (f:Int) (A4:Option Addr) (n4 c4:Nat) (x y:Operand) (hgd:o.guard=none) (ho:o.op=.store 56 x y) (hx:a.eval x=.pointer (some ⟨g,0,none⟩)) (hy:a.eval y=.agg #[.slice A1 n1 c1,.slice A2 n2 c2,.slice A3 n3 c3,.int .i64 f,.slice A4 n4 c4])
  (h:wpList Tryz.prog ops Q rest (a.put o.dst undef) (w.setRow g #[.slice A1 n1 c1,.slice A2 n2 c2,.slice A3 n3 c3,.int .i64 f,.slice A4 n4 c4])):wpList Tryz.prog ops Q (o :: rest) a w:=
 wpList_store_row hgd _ x y ho g _ hx hy _ _ hk infoCm5 hs (by simp [Value.oneCell']) h
theorem st_tsk (g:Nat) {cs:Array Value} (hk:Bk w g 67 cs) (hs:cs.size=18) (t:TkL) (x y:Operand) (hgd:o.guard=none) (ho:o.op=.store 67 x y) (hx:a.eval x=.pointer (some ⟨g,0,none⟩)) (hy:a.eval y=.agg (tkA t))
  (h:wpList Tryz.prog ops Q rest (a.put o.dst undef) (w.setRow g (tkA t))):wpList Tryz.prog ops Q (o :: rest) a w:=
 wpList_store_row hgd _ x y ho g _ hx hy _ _ hk infoTk hs (tkA_all t) h
end
theorem owncmd_any (x:CmL) (w:World) (h:x.In w) (hf:x.nr≤1000∧x.nw≤1000∧x.na≤1000∧x.nc≤1000) :
  Calls Tryz.prog 98 #[.agg (cmlC x).toArray] w fun e w'=>∃ y:CmL,e=.returned (.agg (cmlC y).toArray)∧y.c=x.c∧y.In w'∧y.Over w.heap.size∧Below w.heap.size w w':=by
 obtain ⟨xc,ra,nr,rc,wa,nw,wc,aa,na,ac,ca,nc,cc⟩:=x
 have h:CmRaw w xc ra nr rc wa nw wc aa na ac ca nc cc:=h
 simp only at hf
 obtain ⟨f1,f2,f3,f4⟩:=hf
 show Calls Tryz.prog 98 #[cmV ra nr rc wa nw wc aa na ac xc.fuel ca nc cc] w _
 have BA:=below_alloc1 w (CmObj ra nr rc wa nw wc aa na ac xc.fuel ca nc cc)
 have BB:=below_alloc1 (w.alloc (CmObj ra nr rc wa nw wc aa na ac xc.fuel ca nc cc)) (.cells cmZ 56)
 have b0:=bnext BA BB
 have k0:=(Bk.new w 56 #[.slice ra nr rc,.slice wa nw wc,.slice aa na ac,.int .i64 xc.fuel,.slice ca nc cc]).below BB
 have z0:=Bk.new (w.alloc (CmObj ra nr rc wa nw wc aa na ac xc.fuel ca nc cc)) 56 cmZ
 rw [World.size_alloc] at z0
 obtain ⟨W0,hW0⟩:∃ W0,W0=(w.alloc (CmObj ra nr rc wa nw wc aa na ac xc.fuel ca nc cc)).alloc (.cells cmZ 56):=⟨_,rfl⟩
 rw [← hW0] at b0 k0 z0
 have hw0:W0.heap.size=w.heap.size + 2:=by rw [hW0,World.size_alloc,World.size_alloc]
 have HW:=hid hW0
 have B0:=hid b0
 have K0:=hid k0
 have Z0:=hid z0
 have LN:=hid (And.intro h.lr (And.intro h.lw (And.intro h.la h.lc)))
 obtain ⟨s1,s2,s3,s4⟩:=CmRaw.sls h
 have c1:Hid (∀ X,Below W0.heap.size W0 X→Calls Tryz.prog 77 #[.slice ra nr rc] X fun e X'=>∃ v,e=.returned v∧Below X.heap.size X X'∧ownV (w.heap.size + 2) 3 1 nr (xc.reads.map (.int .i64)) v X'):=hid (fun X hX=>clone_intsV ((s1.below b0).below hX) f1 (by have:=hX.size;omega))
 have c2:Hid (∀ X,Below W0.heap.size W0 X→Calls Tryz.prog 77 #[.slice wa nw wc] X fun e X'=>∃ v,e=.returned v∧Below X.heap.size X X'∧ownV (w.heap.size + 2) 3 1 nw (xc.writes.map (.int .i64)) v X'):=hid (fun X hX=>clone_intsV ((s2.below b0).below hX) f2 (by have:=hX.size;omega))
 have c3:Hid (∀ X,Below w.heap.size w X→w.heap.size + 2≤X.heap.size→Calls Tryz.prog 77 #[.slice aa na ac] X fun e X'=>∃ v,e=.returned v∧Below X.heap.size X X'∧ownV (w.heap.size + 2) 3 1 na (xc.args.map (.int .i64)) v X'):=hid (fun X hX hB=>clone_intsV (s3.below hX) f3 hB)
 have c4:Hid (∀ X,Below w.heap.size w X→w.heap.size + 2≤X.heap.size→Calls Tryz.prog 120 #[.slice ca nc cc] X fun e X'=>∃ v,e=.returned v∧Below X.heap.size X X'∧ownV (w.heap.size + 2) 72 3 nc (inssW xc.code) v X'):=hid (fun X hX hB=>clone_inssV (s4.below hX) f4 hB)
 have CC:Hid (∀ X,Below W0.heap.size W0 X→X.cell? ⟨w.heap.size,0,none⟩=some (.slice ra nr rc)∧X.cell? ⟨w.heap.size,1,none⟩=some (.slice wa nw wc)∧w.heap.size < X.heap.size):=hid (fun X hX=>by
  have hk:=k0.below hX
  exact ⟨hk.cell 0,hk.cell 1,hk.lt⟩)
 clear h s1 s2 s3 s4 BA BB b0 k0 z0 hW0
 go_enter Tryz.func98,Tryz.ntmps98
 go_wp2
 rw [← HW.out]
 try simp only [List.append_eq,List.cons_append,List.nil_append]
 refine wp_region_saysK 7 (fun x y=>Below x.heap.size x y) (fun _ _ _ h k=>bnext h k) W0 (below_drew1 W0) (by kernel_rfl) (by kernel_rfl) (by kernel_rfl) (by kernel_rfl) (by rfl) ?_
 simp only [List.take_succ_cons,List.take_zero,List.drop_succ_cons,List.drop_zero]
 iterate 2
  refine wkI ?_ (fun u X hX hd=>?_) ?_
  rotate_left
  ·obtain ⟨q0,q1,ql⟩:=CC.out X hX
   try simp at hd
   go_simp
   try rfl
 refine walkK_call (ownV (w.heap.size + 2) 3 1 nr (xc.reads.map (.int .i64))) 77 ?_ (by first | exact gs0 rfl | exact gs1 rfl rfl rfl) (fun v x y hb h=>ownV_keep v x y hb h) (fun u X hX hd=>?_) (fun X hX=>?_) ?_
 rotate_left
 ·obtain ⟨q0,q1,ql⟩:=CC.out X hX
  try simp at hd
  go_simp
  try rfl
 ·exact c1.out X hX
 refine wkN ?_
 iterate 2
  refine wkI ?_ (fun u X hX hd=>?_) ?_
  rotate_left
  ·obtain ⟨q0,q1,ql⟩:=CC.out X hX
   try simp at hd
   go_simp
   try rfl
 refine walkK_call (ownV (w.heap.size + 2) 3 1 nw (xc.writes.map (.int .i64))) 77 ?_ (by first | exact gs0 rfl | exact gs1 rfl rfl rfl) (fun v x y hb h=>ownV_keep v x y hb h) (fun u X hX hd=>?_) (fun X hX=>?_) ?_
 rotate_left
 ·obtain ⟨q0,q1,ql⟩:=CC.out X hX
  try simp at hd
  go_simp
  try rfl
 ·exact c2.out X hX
 refine wkN ?_
 refine wkI ?_ (fun u X hX hd=>?_) ?_
 rotate_left
 ·obtain ⟨q0,q1,ql⟩:=CC.out X hX
  try simp at hd
  go_simp
  try rfl
 intro u X hX hsay
 simp only [sayAll,isV] at hsay
 obtain ⟨-,-,v2,-,-,v5,v6,-⟩:=hsay
 obtain ⟨A1,k1,v2,o1⟩:=v2
 obtain ⟨A2,k2,v5,o2⟩:=v5
 simp only [putAll,Act.put,v2,v5,v6,List.setIfInBounds_toArray,List.set_cons_succ,List.set_cons_zero,Nat.zero_add,Nat.reduceAdd]
 have kx:=K0.out.below hX
 obtain ⟨p0,p1,p2,p3,p4,pf⟩:=kx.cmd
 have pl:=kx.lt
 have KX:=hid kx
 have ZX:=hid (Z0.out.below hX)
 have BX:=hid (bnext B0.out hX)
 have hx2:w.heap.size + 2≤X.heap.size:=by have:=hX.size;omega
 have O1:=hid o1
 have O2:=hid o2
 clear v2 v5 v6 o1 o2 kx hX
 go_wp2
 obtain ⟨W1,hW1⟩:∃ W1,W1=(X.setCell ⟨w.heap.size,0,none⟩ (.slice A1 nr k1)).setCell ⟨w.heap.size,1,none⟩ (.slice A2 nw k2):=⟨_,rfl⟩
 rw [← hW1]
 have k1':=(KX.out.set 0 (.slice A1 nr k1)).set 1 (.slice A2 nw k2)
 rw [← hW1] at k1'
 simp only [List.setIfInBounds_toArray,List.set_cons_zero,List.set_cons_succ] at k1'
 have KW:=hid k1'
 have ZW:Hid (Bk W1 (w.heap.size + 1) 56 cmZ):=hid (by rw [hW1];exact (ZX.out.far (p:=⟨w.heap.size,0,none⟩) (by show w.heap.size + 1≠w.heap.size;omega) _).far (p:=⟨w.heap.size,1,none⟩) (by show w.heap.size + 1≠w.heap.size;omega) _)
 have BW:Hid (Below w.heap.size w W1):=hid (by rw [hW1];exact (BX.out.setCell (p:=⟨w.heap.size,0,none⟩) (Nat.le_refl _) _).setCell (p:=⟨w.heap.size,1,none⟩) (Nat.le_refl _) _)
 have hs1:W1.heap.size=X.heap.size:=by rw [hW1];simp [World.setCell]
 have UW:Hid (KeptUp (w.heap.size + 2) X W1):=hid (by rw [hW1];exact ((KeptUp.refl _ X).setCell (by omega) 0 _).setCell (by omega) 1 _)
 have OA:=hid (own_up UW.out O1.out (Nat.le_refl _))
 have OB:=hid (own_up UW.out O2.out (Nat.le_refl _))
 have CD:Hid (∀ Y,Below W1.heap.size W1 Y→Y.cell? ⟨w.heap.size,2,none⟩=some (.slice aa na ac)∧Y.cell? ⟨w.heap.size,4,none⟩=some (.slice ca nc cc)∧w.heap.size < Y.heap.size):=hid (fun Y hY=>by
  have hk:=k1'.below hY
  exact ⟨hk.cell 2,hk.cell 4,hk.lt⟩)
 have d3:Hid (∀ Y,Below W1.heap.size W1 Y→Calls Tryz.prog 77 #[.slice aa na ac] Y fun e X'=>∃ v,e=.returned v∧Below Y.heap.size Y X'∧ownV (w.heap.size + 2) 3 1 na (xc.args.map (.int .i64)) v X'):=hid (fun Y hY=>c3.out Y (bnext BW.out (hY)) (by have:=hY.size;omega))
 have d4:Hid (∀ Y,Below W1.heap.size W1 Y→Calls Tryz.prog 120 #[.slice ca nc cc] Y fun e X'=>∃ v,e=.returned v∧Below Y.heap.size Y X'∧ownV (w.heap.size + 2) 72 3 nc (inssW xc.code) v X'):=hid (fun Y hY=>c4.out Y (bnext BW.out (hY)) (by have:=hY.size;omega))
 clear hW1 k1' p0 p1 p2 p3 p4 pf pl O1 O2 KX ZX
 try simp only [List.append_eq,List.cons_append,List.nil_append]
 refine wp_region_saysK 7 (fun x y=>Below x.heap.size x y) (fun _ _ _ h k=>bnext h k) W1 (below_drew1 W1) (by kernel_rfl) (by kernel_rfl) (by kernel_rfl) (by kernel_rfl) (by rfl) ?_
 simp only [List.take_succ_cons,List.take_zero,List.drop_succ_cons,List.drop_zero]
 iterate 2
  refine wkI ?_ (fun u Y hX hd=>?_) ?_
  rotate_left
  ·obtain ⟨q0,q1,ql⟩:=CD.out Y hX
   try simp at hd
   go_simp
   try rfl
 refine walkK_call (ownV (w.heap.size + 2) 3 1 na (xc.args.map (.int .i64))) 77 ?_ (by first | exact gs0 rfl | exact gs1 rfl rfl rfl) (fun v x y hb h=>ownV_keep v x y hb h) (fun u Y hX hd=>?_) (fun Y hX=>?_) ?_
 rotate_left
 ·obtain ⟨q0,q1,ql⟩:=CD.out Y hX
  try simp at hd
  go_simp
  try rfl
 ·exact d3.out Y hX
 refine wkN ?_
 iterate 2
  refine wkI ?_ (fun u Y hX hd=>?_) ?_
  rotate_left
  ·obtain ⟨q0,q1,ql⟩:=CD.out Y hX
   try simp at hd
   go_simp
   try rfl
 refine walkK_call (ownV (w.heap.size + 2) 72 3 nc (inssW xc.code)) 120 ?_ (by first | exact gs0 rfl | exact gs1 rfl rfl rfl) (fun v x y hb h=>ownV_keep v x y hb h) (fun u Y hX hd=>?_) (fun Y hX=>?_) ?_
 rotate_left
 ·obtain ⟨q0,q1,ql⟩:=CD.out Y hX
  try simp at hd
  go_simp
  try rfl
 ·exact d4.out Y hX
 refine wkN ?_
 refine wkI ?_ (fun u Y hX hd=>?_) ?_
 rotate_left
 ·obtain ⟨q0,q1,ql⟩:=CD.out Y hX
  try simp at hd
  go_simp
  try rfl
 intro u Y hX hsay
 simp only [sayAll,isV] at hsay
 obtain ⟨-,-,v2,-,-,v5,v6,-⟩:=hsay
 obtain ⟨A3,k3,v2,o3⟩:=v2
 obtain ⟨A4,k4,v5,o4⟩:=v5
 simp only [putAll,Act.put,v2,v5,v6,List.setIfInBounds_toArray,List.set_cons_succ,List.set_cons_zero,Nat.zero_add,Nat.reduceAdd]
 have ky:=KW.out.below hX
 obtain ⟨p0,p1,p2,p3,p4,pf⟩:=ky.cmd
 have pl:=ky.lt
 have kz:=(ky.set 2 (.slice A3 na k3)).set 4 (.slice A4 nc k4)
 simp only [List.setIfInBounds_toArray,List.set_cons_zero,List.set_cons_succ] at kz
 have hz:=(((ZW.out.below hX).far (p:=⟨w.heap.size,2,none⟩) (by show w.heap.size + 1≠w.heap.size;omega) (.slice A3 na k3)).far (p:=⟨w.heap.size,4,none⟩) (by show w.heap.size + 1≠w.heap.size;omega) (.slice A4 nc k4))
 have by':=((bnext BW.out hX).setCell (p:=⟨w.heap.size,2,none⟩) (Nat.le_refl _) (.slice A3 na k3)).setCell (p:=⟨w.heap.size,4,none⟩) (Nat.le_refl _) (.slice A4 nc k4)
 have uy:=((KeptUp.refl (w.heap.size + 2) Y).setCell (show w.heap.size < w.heap.size + 2 by omega) 2 (.slice A3 na k3)).setCell (show w.heap.size < w.heap.size + 2 by omega) 4 (.slice A4 nc k4)
 obtain ⟨W2,hW2⟩:∃ W2,W2=(Y.setCell ⟨w.heap.size,2,none⟩ (.slice A3 na k3)).setCell ⟨w.heap.size,4,none⟩ (.slice A4 nc k4):=⟨_,rfl⟩
 rw [← hW2] at kz hz by' uy
 have PA:=hid (own_up ((KeptUp.of (B:=w.heap.size + 2) hX).trans uy) OA.out (Nat.le_refl _))
 have PB:=hid (own_up ((KeptUp.of (B:=w.heap.size + 2) hX).trans uy) OB.out (Nat.le_refl _))
 have PC:=hid (own_up uy o3 (Nat.le_refl _))
 have PD:=hid (own_up uy o4 (Nat.le_refl _))
 have KF:=hid kz
 have ZF:=hid hz
 have BF:=hid by'
 have HW2:=hid hW2
 clear v2 v5 v6 o3 o4 ky hX kz hz by' uy hW2
 go_wp2_with (first
  | (rw [← HW2.out];refine wpList_load_row rfl 56 _ rfl w.heap.size rfl 56 _ (0,0) _ KF.out Tryz.underlying56 rfl infoCm5 ?_)
  | (refine st_cmd (w.heap.size + 1) ZF.out rfl A1 nr k1 A2 nw k2 A3 na k3 xc.fuel A4 nc k4 _ _ rfl rfl rfl rfl ?_))
 have UF:=(KeptUp.refl (w.heap.size + 2) W2).setRow (show w.heap.size + 1 < w.heap.size + 2 by omega) #[.slice A1 nr k1,.slice A2 nw k2,.slice A3 na k3,.int .i64 xc.fuel,.slice A4 nc k4]
 have hin:=CmRaw.mk' LN.out.1 LN.out.2.1 LN.out.2.2.1 LN.out.2.2.2 (Sl.own' (own_up UF PA.out (Nat.le_refl _))) (Sl.own' (own_up UF PB.out (Nat.le_refl _))) (Sl.own' (own_up UF PC.out (Nat.le_refl _))) (Sl.own' (own_up UF PD.out (Nat.le_refl _)))
 have hov:CmL.Over w.heap.size ⟨xc,A1,nr,k1,A2,nw,k2,A3,na,k3,A4,nc,k4⟩:=⟨(own_over PA.out).lower (by omega),(own_over PB.out).lower (by omega),(own_over PC.out).lower (by omega),(own_over PD.out).lower (by omega)⟩
 exact bodyPost_ret (v:=.agg #[.slice A1 nr k1,.slice A2 nw k2,.slice A3 na k3,.int .i64 xc.fuel,.slice A4 nc k4]) (results_cell_row rfl _ _ (w.heap.size + 1) _ _ (0,0) _ rfl (Bk.setRow ZF.out _) Tryz.underlying56 rfl infoCm5) rfl ⟨⟨xc,A1,nr,k1,A2,nw,k2,A3,na,k3,A4,nc,k4⟩,rfl,rfl,hin,hov,below_row BF.out (by omega) _⟩
end
section
open Go Go.RowKit
attribute [local go_sem] look findAt
attribute [local simp] depsOf isV Region.binds
theorem cmlC_all (x:CmL):(cmlC x).toArray.all (·.oneCell')=true:=by simp [cmlC,Value.oneCell']
theorem clone_blksV {B:Nat} {A:Option Addr} {n c:Nat} {l:Blks} {X:World} (h:Sl X 8 A n c (blksW l)) (hn:n≤1000) (hB:B≤X.heap.size) :
  Calls Tryz.prog 78 #[.slice A n c] X fun e X'=>∃ A' c',e=.returned (.slice A' n c')∧X'.ownsRow B 74 8 (.slice A' n c') n (blksW l)∧Below X.heap.size X X':=
 (clone_blks A n c _ X h hn (blksW_one l)).mono fun _ _ ⟨A',c',he,ho,hb⟩=>⟨A',c',he,own_lower ho hB,hb⟩
theorem owntask_any (t:TkL) (w:World) (h:t.In w) (hf:fewT t) :
  Calls Tryz.prog 59 #[.agg (tkA t)] w fun e w'=>∃ u:TkL,e=.returned (.agg (tkA u))∧u.tsk=t.tsk∧u.In w'∧u.Over w.heap.size∧Below w.heap.size w w':=by
 have BA:=below_alloc1 w (.cells (tkA t) 67)
 have BB:=below_alloc1 (w.alloc (.cells (tkA t) 67)) (.cells tkZ 67)
 have b0:=bnext BA BB
 have k0:=(Bk.new w 67 (tkA t)).below BB
 have z0:=Bk.new (w.alloc (.cells (tkA t) 67)) 67 tkZ
 rw [World.size_alloc] at z0
 obtain ⟨W0,hW0⟩:∃ W0,W0=(w.alloc (.cells (tkA t) 67)).alloc (.cells tkZ 67):=⟨_,rfl⟩
 rw [← hW0] at b0 k0 z0
 have hw0:W0.heap.size=w.heap.size + 2:=by rw [hW0,World.size_alloc,World.size_alloc]
 have HW:=hid hW0
 have B0:=hid b0
 have K0:=hid k0
 have Z0:=hid z0
 have hoc:=hid (owncmd_any t.x W0 (h.cmd.below b0) ⟨hf.r,hf.w,hf.a,hf.c⟩)
 have c1:Hid (∀ X,Below w.heap.size w X→w.heap.size + 2≤X.heap.size→Calls Tryz.prog 77 #[.slice t.sA t.sn t.sc] X fun e X'=>∃ v,e=.returned v∧Below X.heap.size X X'∧ownV (w.heap.size + 2) 3 1 t.sn (t.m.stack.map (.int .i64)) v X'):=hid (fun X hX hB=>clone_intsV (h.mac.below hX).st hf.s hB)
 have c2:Hid (∀ X,Below w.heap.size w X→w.heap.size + 2≤X.heap.size→Calls Tryz.prog 77 #[.slice t.oA t.on t.oc] X fun e X'=>∃ v,e=.returned v∧Below X.heap.size X X'∧ownV (w.heap.size + 2) 3 1 t.on (t.m.out.map (.int .i64)) v X'):=hid (fun X hX hB=>clone_intsV (h.mac.below hX).ou hf.o hB)
 have c3:Hid (∀ X,Below w.heap.size w X→w.heap.size + 2≤X.heap.size→Calls Tryz.prog 78 #[.slice t.bA t.bn t.bc] X fun e X'=>∃ A' c',e=.returned (.slice A' t.bn c')∧X'.ownsRow (w.heap.size + 2) 74 8 (.slice A' t.bn c') t.bn (blksW t.own)∧Below X.heap.size X X'):=hid (fun X hX hB=>clone_blksV (h.mac.below hX).bk hf.b hB)
 have HI:=hid h
 have r0:W0.rangeAt w.heap.size 1 (cmlC t.x):=fun j v hv=>by
  have hj:j < 5:=by
   rcases Nat.lt_or_ge j 5 with q | q
   ·exact q
   ·rw [List.getElem?_eq_none (by exact q)] at hv;cases hv
  rw [k0.cell,← hv]
  rcases (show j=0∨j=1∨j=2∨j=3∨j=4 by omega) with e | e | e | e | e <;> subst e <;> rfl
 have R0:=hid r0
 clear h hf BA BB b0 k0 z0 hW0 r0
 go_enter Tryz.func59,Tryz.ntmps59
 go_wp2_with (first
  | (rw [← HW.out];refine wpList_load_mid rfl 56 _ rfl w.heap.size 1 rfl (cmlC t.x) _ R0.out Tryz.underlying56 rfl infoCm5 ?_)
  | (go_at_call 98;go_must ((with_reducible refine hoc.out.mono ?_);rintro e w1 ⟨y,rfl,hyc,hyi,hyo,hb1⟩;have YC:=hid hyc;have YI:=hid hyi;have YO:=hid hyo;have B1:=hid hb1;have K1:=hid (K0.out.below hb1);have Z1:=hid (Z0.out.below hb1);have ht:=hid (K1.out.there (o:=1) (n:=(cmlC y).toArray.size) (by show 1 + 5≤18;decide));clear hyc hyi hyo hb1))
  | (refine wpList_store_mid rfl 56 _ _ rfl w.heap.size 1 (cmlC y).toArray rfl rfl ht.out infoCm5 (cmlC_all y) ?_))
 obtain ⟨W1,hW1⟩:∃ W1,W1=w1.setCells w.heap.size 1 (cmlC y).toArray.toList:=⟨_,rfl⟩
 rw [← hW1]
 obtain ⟨t1,ht1⟩:∃ t1,t1=({ t with x:=y }:TkL):=⟨_,rfl⟩
 have k1:Bk W1 w.heap.size 67 (tkA t1):=by
  rw [hW1,ht1]
  have:=((((K1.out.set 1 (.slice y.ra y.nr y.rc)).set 2 (.slice y.wa y.nw y.wc)).set 3 (.slice y.aa y.na y.ac)).set 4 (.int .i64 y.c.fuel)).set 5 (.slice y.ca y.nc y.cc)
  simp only [List.setIfInBounds_toArray,List.set_cons_zero,List.set_cons_succ] at this
  exact this
 have z1:Bk W1 (w.heap.size + 1) 67 tkZ:=by rw [hW1];exact Z1.out.setCells (by omega) _ _
 have b1:Below w.heap.size w W1:=by rw [hW1];exact below_setCells (bnext B0.out B1.out) (Nat.le_refl _) _ _
 have u1:KeptUp (w.heap.size + 2) w1 W1:=by rw [hW1];exact (KeptUp.refl _ w1).setCells (by omega) _ _
 have yo:=YO.out.lower (B':=w.heap.size + 2) (by omega)
 have yi:=hid (YI.out.up yo u1)
 have YO2:=hid yo
 have hs1:w.heap.size + 2≤W1.heap.size:=by have:=u1.1;have:=B1.out.size;omega
 have e8:t1.sA=t.sA∧t1.sn=t.sn∧t1.sc=t.sc∧t1.oA=t.oA∧t1.on=t.on∧t1.oc=t.oc:=by rw [ht1];exact ⟨rfl,rfl,rfl,rfl,rfl,rfl⟩
 obtain ⟨e81,e82,e83,e84,e85,e86⟩:=e8
 have CC:Hid (∀ X,Below W1.heap.size W1 X→X.cell? ⟨w.heap.size,8,none⟩=some (.slice t.sA t.sn t.sc)∧X.cell? ⟨w.heap.size,13,none⟩=some (.slice t.oA t.on t.oc)∧w.heap.size < X.heap.size):=hid (fun X hX=>by
  have hk:=k1.below hX
  exact ⟨by rw [← e81,← e82,← e83];exact hk.cell 8,by rw [← e84,← e85,← e86];exact hk.cell 13,hk.lt⟩)
 have K2:=hid k1
 have Z2:=hid z1
 have B2:=hid b1
 have T1:=hid ht1
 clear hW1 ht1 k1 z1 b1 u1 yo e81 e82 e83 e84 e85 e86
 try simp only [List.append_eq,List.cons_append,List.nil_append]
 refine wp_region_saysK 10 (fun x y=>Below x.heap.size x y) (fun _ _ _ h k=>bnext h k) W1 (below_drew1 W1) (by kernel_rfl) (by kernel_rfl) (by kernel_rfl) (by kernel_rfl) (by rfl) ?_
 simp only [List.take_succ_cons,List.take_zero,List.drop_succ_cons,List.drop_zero]
 iterate 3
  refine wkI ?_ (fun u X hX hd=>?_) ?_
  rotate_left
  ·obtain ⟨q0,q1,ql⟩:=CC.out X hX
   try simp at hd
   go_simp
   try rfl
 refine walkK_call (ownV (w.heap.size + 2) 3 1 t.sn (t.m.stack.map (.int .i64))) 77 ?_ (by first | exact gs0 rfl | exact gs1 rfl rfl rfl) (fun v x y hb h=>ownV_keep v x y hb h) (fun u X hX hd=>?_) (fun X hX=>?_) ?_
 rotate_left
 ·obtain ⟨q0,q1,ql⟩:=CC.out X hX
  try simp at hd
  go_simp
  try rfl
 ·exact c1.out X (bnext B2.out hX) (Nat.le_trans hs1 hX.size)
 refine wkN ?_
 iterate 3
  refine wkI ?_ (fun u X hX hd=>?_) ?_
  rotate_left
  ·obtain ⟨q0,q1,ql⟩:=CC.out X hX
   try simp at hd
   go_simp
   try rfl
 refine walkK_call (ownV (w.heap.size + 2) 3 1 t.on (t.m.out.map (.int .i64))) 77 ?_ (by first | exact gs0 rfl | exact gs1 rfl rfl rfl) (fun v x y hb h=>ownV_keep v x y hb h) (fun u X hX hd=>?_) (fun X hX=>?_) ?_
 rotate_left
 ·obtain ⟨q0,q1,ql⟩:=CC.out X hX
  try simp at hd
  go_simp
  try rfl
 ·exact c2.out X (bnext B2.out hX) (Nat.le_trans hs1 hX.size)
 refine wkN ?_
 iterate 2
  refine wkI ?_ (fun u X hX hd=>?_) ?_
  rotate_left
  ·obtain ⟨q0,q1,ql⟩:=CC.out X hX
   try simp at hd
   go_simp
   try rfl
 intro u X hX hsay
 simp only [sayAll,isV] at hsay
 obtain ⟨-,-,-,v3,-,-,-,v7,v8,v9,-⟩:=hsay
 obtain ⟨A1,l1,v3,o1⟩:=v3
 obtain ⟨A2,l2,v7,o2⟩:=v7
 simp only [putAll,Act.put,v3,v7,v8,v9,List.setIfInBounds_toArray,List.set_cons_succ,List.set_cons_zero,Nat.zero_add,Nat.reduceAdd]
 have kx:=K2.out.below hX
 have p8:=kx.cell 8
 have p13:=kx.cell 13
 have p16:=kx.cell 16
 have pf:=fun o=>kx.frozen o
 have pl:=kx.lt
 simp only [List.getElem?_toArray,List.getElem?_cons_zero,List.getElem?_cons_succ] at p8 p13 p16
 have e16':t1.bA=t.bA∧t1.bn=t.bn∧t1.bc=t.bc:=by rw [T1.out];exact ⟨rfl,rfl,rfl⟩
 rw [e16'.1,e16'.2.1,e16'.2.2] at p16
 clear e16'
 have hx2:w.heap.size + 2≤X.heap.size:=by have:=hX.size;omega
 have k3:=(kx.set 8 (.slice A1 t.sn l1)).set 13 (.slice A2 t.on l2)
 simp only [List.setIfInBounds_toArray,List.set_cons_zero,List.set_cons_succ] at k3
 have z3:=((Z2.out.below hX).far (p:=⟨w.heap.size,8,none⟩) (by show w.heap.size + 1≠w.heap.size;omega) (.slice A1 t.sn l1)).far (p:=⟨w.heap.size,13,none⟩) (by show w.heap.size + 1≠w.heap.size;omega) (.slice A2 t.on l2)
 have b3:=((bnext B2.out hX).setCell (p:=⟨w.heap.size,8,none⟩) (Nat.le_refl _) (.slice A1 t.sn l1)).setCell (p:=⟨w.heap.size,13,none⟩) (Nat.le_refl _) (.slice A2 t.on l2)
 have u3:=((KeptUp.refl (w.heap.size + 2) X).setCell (show w.heap.size < w.heap.size + 2 by omega) 8 (.slice A1 t.sn l1)).setCell (show w.heap.size < w.heap.size + 2 by omega) 13 (.slice A2 t.on l2)
 obtain ⟨W3,hW3⟩:∃ W3,W3=(X.setCell ⟨w.heap.size,8,none⟩ (.slice A1 t.sn l1)).setCell ⟨w.heap.size,13,none⟩ (.slice A2 t.on l2):=⟨_,rfl⟩
 rw [← hW3] at k3 z3 b3 u3
 obtain ⟨t3,ht3⟩:∃ t3,t3=({ t with x:=y,sA:=A1,sc:=l1,oA:=A2,oc:=l2 }:TkL):=⟨_,rfl⟩
 have k3':Bk W3 w.heap.size 67 (tkA t3):=by
  rw [ht3]
  rw [T1.out] at k3
  exact k3
 have P1:=hid (own_up u3 o1 (Nat.le_refl _))
 have P2:=hid (own_up u3 o2 (Nat.le_refl _))
 have Y3:=hid (yi.out.up YO2.out ((KeptUp.of (B:=w.heap.size + 2) hX).trans u3))
 have hs3:w.heap.size + 2≤W3.heap.size:=by have:=u3.1;omega
 have hcl:=hid (c3.out W3 b3 hs3)
 have y16:=k3'.cell 16
 have yl:=k3'.lt
 have yf:=fun o=>k3'.frozen o
 simp only [List.getElem?_toArray,List.getElem?_cons_zero,List.getElem?_cons_succ] at y16
 have e16:t3.bA=t.bA∧t3.bn=t.bn∧t3.bc=t.bc:=by rw [ht3];exact ⟨rfl,rfl,rfl⟩
 rw [e16.1,e16.2.1,e16.2.2] at y16
 have K3:=hid k3'
 have Z3:=hid z3
 have B3:=hid b3
 have T3:=hid ht3
 have HW3:=hid hW3
 clear v3 v7 v8 v9 o1 o2 kx hX k3 z3 b3 u3 ht3 e16 k3' hW3
 go_wp2_with (first
  | (go_at_call 78;rw [← HW3.out];go_must ((with_reducible refine hcl.out.mono ?_);rintro e w4 ⟨A3,l3,rfl,ho,hb4⟩;have P3:=hid ho;have k4:=K3.out.below hb4;have k5:=k4.set 16 (.slice A3 t.bn l3);rw [T3.out] at k5;simp only [List.setIfInBounds_toArray,List.set_cons_zero,List.set_cons_succ] at k5;have K5:Hid (Bk (w4.setCell ⟨w.heap.size,16,none⟩ (.slice A3 t.bn l3)) w.heap.size 67 (tkA ({ t with x:=y,sA:=A1,sc:=l1,oA:=A2,oc:=l2,bA:=A3,bc:=l3 }:TkL))):=hid k5;have Z5:=hid ((Z3.out.below hb4).far (p:=⟨w.heap.size,16,none⟩) (by show w.heap.size + 1≠w.heap.size;omega) (.slice A3 t.bn l3));have B4:=hid hb4;clear p8 p13 p16 pf pl y16 yl yf ho hb4;have y16:=k4.cell 16;have yl:=k4.lt;have yf:=fun o=>k4.frozen o;clear k4 k5))
  | (refine ld_tsk w.heap.size K5.out _ rfl rfl rfl ?_)
  | (refine st_tsk (w.heap.size + 1) Z5.out rfl ({ t with x:=y,sA:=A1,sc:=l1,oA:=A2,oc:=l2,bA:=A3,bc:=l3 }:TkL) _ _ rfl rfl rfl rfl ?_))
 have up5:=((KeptUp.refl (w.heap.size + 2) w4).setCell (show w.heap.size < w.heap.size + 2 by omega) 16 (.slice A3 t.bn l3)).setRow (show w.heap.size + 1 < w.heap.size + 2 by omega) (tkA ({ t with x:=y,sA:=A1,sc:=l1,oA:=A2,oc:=l2,bA:=A3,bc:=l3 }:TkL))
 have up4:=(KeptUp.of (B:=w.heap.size + 2) B4.out).trans up5
 have hin:TkL.In ({ t with x:=y,sA:=A1,sc:=l1,oA:=A2,oc:=l2,bA:=A3,bc:=l3 }:TkL) _:=⟨Y3.out.up YO2.out up4,⟨Sl.own' (own_up up4 P1.out (Nat.le_refl _)),Sl.own' (own_up up4 P2.out (Nat.le_refl _)),Sl.own' (own_up up5 P3.out (Nat.le_refl _))⟩,HI.out.four,HI.out.own,HI.out.eight⟩
 have hov:TkL.Over w.heap.size ({ t with x:=y,sA:=A1,sc:=l1,oA:=A2,oc:=l2,bA:=A3,bc:=l3 }:TkL):=⟨YO2.out.lower (by omega),(own_over P1.out).lower (by omega),(own_over P2.out).lower (by omega),(own_over P3.out).lower (by omega)⟩
 have hsay:TkL.tsk ({ t with x:=y,sA:=A1,sc:=l1,oA:=A2,oc:=l2,bA:=A3,bc:=l3 }:TkL)=t.tsk:=by unfold TkL.tsk;rw [YC.out]
 exact bodyPost_ret (v:=.agg (tkA ({ t with x:=y,sA:=A1,sc:=l1,oA:=A2,oc:=l2,bA:=A3,bc:=l3 }:TkL))) (results_cell_row rfl _ _ (w.heap.size + 1) _ _ (0,0) _ rfl (Bk.setRow Z5.out _) Tryz.underlying67 rfl infoTk) rfl ⟨_,rfl,hsay,hin,hov,below_row ((bnext B3.out B4.out).setCell (p:=⟨w.heap.size,16,none⟩) (Nat.le_refl _) _) (by omega) _⟩
end
section
open Go Go.RowKit
section
variable {ops:Array Oper} {rest:List Oper} {o:Oper} {a:Act} {w:World} {Q:Exit→Act→World→Prop}
theorem ld_tskm (b i:Nat) {t:TkL} (hc:w.rangeAt b i (tkC t)) (x:Operand) (hgd:o.guard=none) (ho:o.op=.load 67 x) (hx:a.eval x=.pointer (some ⟨b,i,none⟩))
  (h:wpList Tryz.prog ops Q rest (a.put o.dst (.agg (tkA t))) w):wpList Tryz.prog ops Q (o :: rest) a w:=
 wpList_load_mid hgd _ x ho b i hx (tkC t) _ hc Tryz.underlying67 rfl infoTk h
theorem st_tskm (b i:Nat) (t:TkL) (x y:Operand) (hgd:o.guard=none) (ho:o.op=.store 67 x y) (hx:a.eval x=.pointer (some ⟨b,i,none⟩)) (hy:a.eval y=.agg (tkA t)) (ht:w.there b i 18)
  (h:wpList Tryz.prog ops Q rest (a.put o.dst undef) (w.setCells b i (tkC t))):wpList Tryz.prog ops Q (o :: rest) a w:=
 wpList_store_mid hgd _ x y ho b i (tkA t) hx hy ht infoTk (tkA_all t) h
end
structure CpI (l:List TkL) (B:Nat) (A:Option Addr) (i:Nat) (m:List TkL):Prop where
 says:saysT m (l.map TkL.tsk)
 few:∀ t∈m,fewT t
 off:TkOff A m
 over:∀ k t,k < i→m[k]? = some t→t.Over B
theorem CpI.next {l m:List TkL} {B g i:Nat} {t u:TkL} (h:CpI l B (some ⟨g,0,none⟩) i m) (ht:m[i]? = some t) (hs:u.tsk=t.tsk) (hf:fewT u) (ho:u.Over B) (hg:u.Off g):CpI l B (some ⟨g,0,none⟩) (i + 1) (m.set i u):=by
 refine ⟨?_,fun v hv=>?_,fun g' off e v hv=>?_,fun k v hk hv=>?_⟩
 ·unfold saysT
  rw [List.map_set,hs,← h.says]
  apply List.ext_getElem?
  intro j
  by_cases e:j=i
  ·subst e
   rw [List.getElem?_set,if_pos rfl,List.getElem?_map,ht]
   simp only [List.length_map]
   rw [if_pos (tk_lt ht)]
   rfl
  ·rw [List.getElem?_set_ne (Ne.symm e)]
 ·rcases List.mem_or_eq_of_mem_set hv with q | q
  ·exact h.few v q
  ·rw [q];exact hf
 ·injection e with e
  injection e with e1
  subst e1
  rcases List.mem_or_eq_of_mem_set hv with q | q
  ·exact h.off _ _ rfl v q
  ·rw [q];exact hg
 ·by_cases e:k=i
  ·subst e
   rw [List.getElem?_set_self (tk_lt ht)] at hv
   injection hv with hv
   rw [← hv];exact ho
  ·rw [List.getElem?_set_ne (Ne.symm e)] at hv
   exact h.over k v (by omega) hv
theorem pcopied_any (l:List TkL) (A:Option Addr) (n c:Nat) (w:World) (h:Tks w A c l) (hN:l.length=n) (hn:n≤1000) (hf:∀ t∈l,fewT t) :
  Calls Tryz.prog 58 #[.slice A n c] w (TpPost (l.map TkL.tsk) w):=by
 have hcl:=hid (clone_tsks A n c l w h hN hn)
 have H:=hid h
 have HF:=hid hf
 clear h hf hN
 go_enter Tryz.func58,Tryz.ntmps58
 go_wp2_with (go_at_call 97;go_must ((with_reducible refine hcl.out.mono ?_);rintro e w1 ⟨A1,c1,rfl,hO,hb1⟩;have O1:=hid hO;have B1:=hid hb1;clear hO hb1))
 have hcap:=O1.out.cap
 have I0:Hid (CpI l w.heap.size A1 0 l):=hid ⟨rfl,HF.out,fun g off e t ht=>by
  rcases O1.out.2.1.2 with ⟨q,-⟩ | ⟨g',_,_,q,hb,-⟩
  ·injection q with q
   rw [e] at q
   cases q
  ·injection q with q
   rw [e] at q
   injection q with q
   injection q with q1
   subst q1
   exact (H.out.2 t ht).off_ge hb,fun k t hk=>absurd hk (by omega)⟩
 go_loopw [9] (fun cc wr=>∃ (i:Nat) (m:List TkL),i≤n∧cc=.int .i64 i∧Hid (TkOwn w.heap.size wr A1 n c1 m)∧Hid (CpI l w.heap.size A1 i m)∧Hid (Below w.heap.size w wr)) (fun cc _=>n - (intOf cc).toNat)
 case atStart=>exact ⟨0,l,Nat.zero_le _,rfl,O1,I0,B1⟩
 case round=>
  obtain ⟨i,m,hi,rfl,HO,HI,HB⟩:=hrel
  by_cases hlt:i < n
  ·have d1:(i:Int) < (n:Int):=by omega
   have d2:(i:Int) < (c1:Int):=by omega
   obtain ⟨t,ht⟩:=tk_at (l:=m) (i:=i) (by rw [HO.out.1];exact hlt)
   obtain ⟨g,cs,rfl,hg,hk,hsz⟩:=HO.out.pos (by omega)
   obtain ⟨g',off,hA,hat,hin⟩:=HO.out.sl.at ht
   injection hA with hA
   injection hA with hA1 hA2
   subst hA1
   subst hA2
   have hgl:=hk.lt
   have hr:=hat.all
   rw [Nat.zero_add] at hr
   have HR:=hid hr
   have BZ:=below_alloc1 wr (.cells tkZ 67)
   have KZ:=hid (Bk.new wr 67 tkZ)
   have KT:=hid (KZ.out.setRow (tkA t))
   have BT:=below_row BZ (Nat.le_refl _) (tkA t)
   have hc:=hid (owntask_any t _ (hin.below BT) (HI.out.few t (List.mem_of_getElem? ht)))
   have hZ:wr.heap.size≤((wr.alloc (.cells tkZ 67)).setRow wr.heap.size (tkA t)).heap.size:=BT.size
   have HT:=hid ht
   have BT:=hid BT
   have IN:=hid hin
   clear hat hr hin ht hk BZ
   go_wp2_with (first
    | (with_reducible refine ld_tskm g (i * 18) HR.out _ rfl rfl rfl ?_)
    | (with_reducible refine st_tsk wr.heap.size KZ.out rfl t _ _ rfl rfl rfl rfl ?_)
    | (with_reducible refine ld_tsk wr.heap.size KT.out _ rfl rfl rfl ?_)
    | (go_at_call 59;go_must ((with_reducible refine hc.out.mono ?_);rintro e w3 ⟨u,rfl,hus,hui,huo,hb3⟩;have US:=hid hus;have UI:=hid hui;have UO:=hid huo;have B3:=hid (bnext BT.out hb3);clear hus hui huo hb3;have O3:=hid (HO.out.below B3.out);have ht3:Hid (w3.there g (i * 18) 18):=hid (by
      obtain ⟨g',cs',hA,-,hk',hsz'⟩:=O3.out.pos (by omega)
      injection hA with hA
      injection hA with hA1
      subst hA1
      exact hk'.there (by omega))))
    | (with_reducible refine st_tskm g (i * 18) u _ _ rfl rfl rfl rfl ht3.out ?_))
   have hug:u.Off g:=UO.out.off (by omega)
   have hO4:TkOwn w.heap.size (w3.setCells g (i * 18) (tkC u)) (some ⟨g,0,none⟩) n c1 (m.set i u):=O3.out.set hlt fun v hv=>by
    rcases List.mem_or_eq_of_mem_set hv with q | q
    ·exact (O3.out.2.2 v q).setCells (HI.out.off _ _ rfl v q) _ _
    ·rw [q]
     exact UI.out.setCells hug _ _
   have hB4:=below_setCells (HB.out.trans (B3.out.mono HB.out.size)) hg (tkC u) (i * 18)
   have hI4:CpI l w.heap.size (some ⟨g,0,none⟩) (i + 1) (m.set i u):=HI.out.next HT.out US.out ((HI.out.few t (List.mem_of_getElem? HT.out)).of IN.out UI.out US.out) (UO.out.lower (Nat.le_trans HB.out.size hZ)) hug
   have O4:=hid hO4
   have B4:=hid hB4
   have I4:=hid hI4
   clear hO4 hB4 hI4 hug
   go_roundw
   case rel=>exact ⟨i + 1,m.set i u,by omega,by go_num,O4,I4,B4⟩
   case measure=>simp [intOf];omega
  ·obtain rfl:i=n:=by omega
   clear hlt
   go_wp2
   go_ret
   exact ⟨_,_,_,m,rfl,⟨HO.out,HI.out.says,HI.out.few,fun t ht=>by
    obtain ⟨k,hk⟩:=List.getElem?_of_mem ht
    exact HI.out.over k t (by have:=tk_lt hk;rw [HO.out.1] at this;exact this) hk,HI.out.off⟩,HB.out⟩
theorem phas_yes (A:Option Addr) (n c i:Nat) (w:World) (hi:i < n) :
  Calls Tryz.prog 75 #[.slice A n c,.int .i64 (i:Int)] w fun e w'=>e=.returned (.bool true)∧w=w':=by
 have d1:(i:Int) < (n:Int):=by omega
 have d2:(0:Int)≤(i:Int):=by omega
 go_enter Tryz.func75,Tryz.ntmps75
 go_wp2
 go_ret
 exact ⟨rfl,rfl⟩
end
end Go.Proofs.YtpaocjpjlogkgaaGreat
