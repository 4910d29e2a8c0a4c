/-
  CrewFolds, walked: true of whatever comes, in whatever memory.
-/
import Derived.Test.YtpaocjpjlogkgaaGreatZCrwAw
import Derived.Test.YtpaocjpjlogkgaaGreatZCrwWk
import Derived.Test.YtpaocjpjlogkgaaGreatQCrwC
import Derived.Test.YtpaocjpjlogkgaaGreatQCrwF
import Derived.Test.YtpaocjpjlogkgaaGreatQPooV
import Derived.Test.YtpaocjpjlogkgaaGreatQCelK
import Derived.Test.YtpaocjpjlogkgaaGreatQRely
import Derived.Test.YtpaocjpjlogkgaaGreatZLckX
import Derived.Test.YtpaocjpjlogkgaaGreatZTabR
namespace Go.Proofs.YtpaocjpjlogkgaaGreat
open Go Go.RowKit
set_option maxRecDepth 100000
attribute [local go_sem] look findAt
attribute [local simp] depsOf isV Region.binds
theorem st_rslF {ops:Array Oper} {rest:List Oper} {o:Oper} {a:Act} {w:World} {Q:Exit→Act→World→Prop} (g:Nat) {cs:Array Value} (hk:Bk w g 51 cs) (hs:cs.size=3) (y:RsL) (x v:Operand) (hgd:o.guard=none) (ho:o.op=.store 51 x v) (hx:a.eval x=.pointer (some ⟨g,0,none⟩)) (hy:a.eval v=.agg (rslA y))
  (h:wpList Tryz.prog ops Q rest (a.put o.dst undef) (w.setRow g (rslA y))):wpList Tryz.prog ops Q (o :: rest) a w:=
 wpList_store_row hgd _ x v ho g _ hx hy _ _ hk infoRs hs (by simp [Value.oneCell']) h
abbrev rsZF:Array Value:=#[.int .i64 0,.int .i64 0,.slice none 0 0]
theorem fresh_res (w:World) (cs:Array Value):Below w.heap.size w ((w.alloc (.cells rsZF 51)).setRow w.heap.size cs):=below_row (below_alloc1 w _) (Nat.le_refl _) _
theorem take_mem {α:Type} {l:List α} {j:Nat} {x r:α} (hx:l[j]? = some x):r∈l.take (j + 1)↔r∈l.take j∨r=x:=by
 rw [List.take_add_one,hx,Option.toList_some,List.mem_append,List.mem_singleton]
theorem resT_inj {cs:List Cmd} {b0:List Ent} {i k:Nat} (h:resT cs b0 i=resT cs b0 k):i=k:=by
 have:(resT cs b0 i).seq=(resT cs b0 k).seq:=congrArg Rst.seq h
 have:(i:Int) + 1=(k:Int) + 1:=this
 omega
section
variable (l:List CmL) (A:Option Addr) (n c:Nat) (ts:List Int) (tA:Option Addr) (tn tc:Nat)
set_option maxHeartbeats 4000000 in
theorem crewFolds_no (hz:n≤9223372036854775807) (w:World) (h:Cmds w A c l) (hN:l.length=n) (hr:¬ R17 l) :
  Calls Tryz.prog 4 #[.slice A n c,.slice tA tn tc] w fun e w'=>e=.returned (.bool true)∧Below w.heap.size w w':=by
 have aw:=Lib.hid (fun W=>awake17 W)
 have hri:=Lib.hid (right17_no h hN hz hr)
 clear h hN hr
 go_enter Tryz.func4,Tryz.ntmps4
 go_wp2_with (first
  | (go_at_call 6;go_must ((with_reducible refine hri.out.mono ?_);rintro e w1 ⟨rfl,hb1⟩;have B1:=Lib.hid hb1;clear hb1))
  | (go_at_call 7;go_must ((with_reducible refine (aw.out _).mono ?_);rintro e w2 ⟨rfl,hb2⟩;have B2:=Lib.hid (bnext B1.out hb2);clear hb2)))
 go_ret
 exact ⟨rfl,B2.out⟩
set_option maxHeartbeats 4000000 in
theorem crewFolds_many (w:World) (h:Cmds w A c l) (hN:l.length=n) (hr:R17 l) (hm:300 < tn) :
  Calls Tryz.prog 4 #[.slice A n c,.slice tA tn tc] w fun e w'=>e=.returned (.bool true)∧Below w.heap.size w w':=by
 have aw:=Lib.hid (fun W=>awake17 W)
 have hri:=Lib.hid (right17_yes h hN hr)
 have d1:decide ((300:Int) < (tn:Int))=true:=decide_eq_true (by omega)
 clear h hN hr
 go_enter Tryz.func4,Tryz.ntmps4
 go_wp2_with (first
  | (go_at_call 6;go_must ((with_reducible refine hri.out.mono ?_);rintro e w1 ⟨rfl,hb1⟩;have B1:=Lib.hid hb1;clear hb1))
  | (go_at_call 7;go_must ((with_reducible refine (aw.out _).mono ?_);rintro e w2 ⟨rfl,hb2⟩;have B2:=Lib.hid (bnext B1.out hb2);clear hb2)))
 go_ret
 exact ⟨rfl,B2.out⟩
set_option maxHeartbeats 32000000 in
theorem crewFolds_main (w:World) (h:Cmds w A c l) (hN:l.length=n) (hr:R17 l) (hm:tn≤300) (hts:U8s w tA tc ts) (htn:ts.length=tn) (htr:∀ x∈ts,0≤x∧x≤255) :
  Calls Tryz.prog 4 #[.slice A n c,.slice tA tn tc] w fun e w'=>e=.returned (.bool true)∧Below w.heap.size w w':=by
 have aw:=Lib.hid (fun W=>awake17 W)
 have hri:=Lib.hid (right17_yes h hN hr)
 have hre:Hid (∀ W,Calls Tryz.prog 9 #[.int .i64 6] W (AddPost 6 0 hd0 (restX 6) W)):=Lib.hid (fun W=>rest_any 6 (by decide) (by decide) W)
 have hst:=Lib.hid (fun W (hW:Below w.heap.size w W) z (hz:CwIs 6 0 (restX 6) W z)=>start_any (h.below hW) hN hr hz)
 have d1:decide ((300:Int) < (tn:Int))=false:=decide_eq_false (by omega)
 have hn20:n≤20:=by rw [← hN];exact hr.2
 have H:=Lib.hid h
 have HN:=Lib.hid hN
 have HR:=Lib.hid hr
 have HTS:=Lib.hid hts
 have HTN:=Lib.hid htn
 have HTR:=Lib.hid htr
 obtain ⟨gt,gi,g0,-⟩:=hr.goes5000 (tsN ts)
 obtain ⟨R,hR⟩:∃ R,R=goP (tsN ts) 5000 0 (startX 6 (csOf l)):=⟨_,rfl⟩
 rw [← hR] at gt gi g0
 obtain ⟨t,hRt⟩:∃ t:Nat,R.2=(t:Int):=⟨R.2.toNat,by omega⟩
 have hwk:Hid (∀ W z,Below w.heap.size w W→CwIs 6 0 (startX 6 (csOf l)) W z→Calls Tryz.prog 16 #[.agg (cwA 6 0 hd0 z),.slice tA tn tc,.int .i64 5000] W (CwErr 6 0 hd0 R.1 z (t:Int) W)):=Lib.hid (fun W z hW hz=>by
  have:=worked_any 6 0 hd0 (csOf l) b06 (startX 6 (csOf l)) z ts tA tn tc 5000 W hz hr.inv hr.cmds' goodT6 List.length_replicate (by have:=hr.few;omega) (by decide) (by decide) (hts.below hW) htn htr (by decide)
  rwa [← hR,hRt] at this)
 have hcl:(csOf l).length=n:=by rw [List.length_map];exact hN
 obtain ⟨f1,f2,f3,f4⟩:=gi.fin gt
 rw [hcl] at f1 f2 f3 f4
 have GT:=Lib.hid gt
 have F1:=Lib.hid f1
 have F2:=Lib.hid f2
 have F3:=Lib.hid f3
 have F4:=Lib.hid f4
 have hof:=(gi.ok hr.cmds' goodT6 List.length_replicate (by have:=hr.few;omega)).outs
 have FO:=Lib.hid hof
 have hnb:Hid (∀ W,Calls Tryz.prog 17 #[.int .i64 6] W fun e w'=>∃ A c,e=.returned (.slice A 6 c)∧Ents w' A c b06∧Below W.heap.size W w'):=Lib.hid (fun W=>(rnew_any 6 (by decide) W).mono fun e w' ⟨A,c,he,ho,hb⟩=>⟨A,c,he,by unfold Ents;rw [List.length_replicate];exact Sl.own' ho,hb⟩)
 have hap:Hid (∀ W (i:Nat) x lA lc,Below w.heap.size w W→l[i]? = some x→Ents W lA lc (serT (csOf l) b06 i)→Calls Tryz.prog 18 #[.slice lA 6 lc,cmV x.ra x.nr x.rc x.wa x.nw x.wc x.aa x.na x.ac x.c.fuel x.ca x.nc x.cc,.int .i64 ((i:Int) + 1)] W fun e w'=>∃ A c y,e=.returned (.tuple #[.slice A 6 c,.agg (rslA y)])∧Ents w' A c (serT (csOf l) b06 (i + 1))∧y.r=resT (csOf l) b06 i∧y.In w'∧Below W.heap.size W w'):=Lib.hid (fun W i x lA lc hW hx hL=>by
  have hm:=hr.1 x (List.mem_of_getElem? hx)
  have hi:i < l.length:=by
   rcases Nat.lt_or_ge i l.length with q | q
   ·exact q
   ·rw [List.getElem?_eq_none q] at hx;cases hx
  refine rapply_ser ((h.2 x (List.mem_of_getElem? hx)).below hW) hm.1 (by rw [List.length_replicate];exact hm.2) ?_ (ser_good hr.cmds' goodT6 i (by rw [hcl];omega)) List.length_replicate (by decide) hL
  unfold cmAt
  rw [List.getElem?_map,hx]
  rfl)
 have hnw:Hid (∀ W,Calls Tryz.prog 22 #[.int .i64 6] W fun e w'=>∃ v,e=.returned v∧Below W.heap.size W w'∧lksV 6 (lksW [] 6) v w'):=Lib.hid (fun W=>(rnew_who 6 W (by decide) (by decide)).mono fun _ _ h=>h.sl.says)
 clear gt gi g0 hR hRt f1 f2 f3 f4 hcl hof
 clear h hN hr hts htn htr
 go_enter Tryz.func4,Tryz.ntmps4
 have d2:decide ((t:Int) < 0)=false:=decide_eq_false (by omega)
 go_wp2_with (first
  | (go_at_call 6;go_must ((with_reducible refine hri.out.mono ?_);rintro e w1 ⟨rfl,hb1⟩;have B1:=Lib.hid hb1;clear hb1))
  | (go_at_call 9;go_must ((with_reducible refine (hre.out _).mono ?_);rintro e w2 ⟨z2,rfl,hI2,hb2⟩;have I2:=Lib.hid hI2;have B2:=Lib.hid (bnext B1.out hb2);clear hI2 hb2))
  | (go_at_call 8;go_must ((with_reducible refine (hst.out _ B2.out z2 I2.out).mono ?_);rintro e w3 ⟨z3,rfl,hI3,hb3⟩;have I3:=Lib.hid hI3;have B3:=Lib.hid (bnext B2.out hb3);clear hI3 hb3))
  | (go_at_call 16;go_must ((with_reducible refine (hwk.out _ z3 B3.out I3.out).mono ?_);rintro e w5 ⟨z5,rfl,hI5,hb5,-⟩;have N5:=Lib.hid (Bk.new w5 34 cwZ);have n5:z5.tn=0:=(by rw [← hI5.tk.lenL,GT.out];rfl);have m5:z5.rn=n:=(by rw [← hI5.rs.lenR];exact F2.out);obtain ⟨w5',hw5⟩:∃ W,W=(w5.alloc (.cells cwZ 34)).setRow w5.heap.size (cwA 6 0 hd0 z5):=⟨_,rfl⟩;have HW5:=Lib.hid hw5.symm;have f5:Below w5.heap.size w5 w5':=(by rw [hw5];exact fresh_crew w5 _);have I5:=Lib.hid (hI5.below f5);have K5:Hid (Bk w5' w5.heap.size 34 (cwA 6 0 hd0 z5)):=Lib.hid (by rw [hw5];exact N5.out.setRow _);have B5:=Lib.hid (bnext (bnext B3.out hb5) f5);clear hI5 hw5 f5 hb5;obtain ⟨-,-,p2,p3,pl,-⟩:=K5.out.crew;rw [n5] at p2;rw [m5] at p3))
  | (with_reducible refine st_cw w5.heap.size N5.out rfl 6 0 hd0 z5 _ _ rfl rfl rfl rfl ?_;rw [HW5.out])
  | (go_at_call 17;go_must ((with_reducible refine (hnb.out _).mono ?_);rintro e w6 ⟨A6,c6,rfl,hE6,hb6⟩;have E6:=Lib.hid hE6;have I6:=Lib.hid (I5.out.below hb6);have K6:=Lib.hid (K5.out.below hb6);have B6:=Lib.hid (bnext B5.out hb6);clear hE6 hb6 p2 p3 pl)))
 obtain ⟨g,hg⟩:∃ g,g=w5.heap.size:=⟨_,rfl⟩
 rw [← hg] at K6 ⊢
 clear hg K5 I5 HW5 N5 B5 I3 I2 hwk hst hre hri hnb B1 B2 B3
 go_loopw [7,8] (fun bb cc wr=>∃ (i:Nat) (bA:Option Addr) (bc:Nat),i≤n∧bb=.slice bA 6 bc∧cc=.int .i64 i∧Hid (Ents wr bA bc (serT (csOf l) b06 i))∧Hid (CwIs 6 0 R.1 wr z5)∧Hid (Bk wr g 34 (cwA 6 0 hd0 z5))∧Hid (Below w.heap.size w wr)) (fun _ cc _=>n - (intOf cc).toNat)
 case atStart=>exact ⟨0,A6,c6,Nat.zero_le _,rfl,rfl,E6,I6,K6,B6⟩
 case round=>
  obtain ⟨i,bA,bc,hi,rfl,rfl,HE,HI,HK,HB⟩:=hrel
  by_cases hlt:i < n
  ·have d3:(i:Int) < (n:Int):=by omega
   have hcap:n≤c:=by have:=H.out.cap;rw [HN.out] at this;exact this
   have d4:(i:Int) < (c:Int):=by omega
   have dw:IntKind.i64.wrap ((i:Int) + 1)=(i:Int) + 1:=by rw [IntKind.wrap_i64];omega
   obtain ⟨x,hx⟩:=cml_at (l:=l) (i:=i) (by rw [HN.out];exact hlt)
   have hapi:=Lib.hid (hap.out wr i x bA bc HB.out hx HE.out)
   obtain ⟨bb,off,hAA,hA⟩:=(H.out.below HB.out).lies hx
   have HAA:=Lib.hid hAA.symm
   rw [hAA]
   obtain ⟨c0,c1,c2,c3,c4,cl⟩:=hA wr (Below.refl _ _)
   clear hx hA hAA
   go_wp2_with (first
    | (go_at_call 18;go_must ((with_reducible refine hapi.out.mono ?_);rintro e w7 ⟨A7,c7,y,rfl,hE7,hy,hyi,hb7⟩;have E7:=Lib.hid (And.intro hE7 (And.intro hy hyi));have N7:=Lib.hid (Bk.new w7 51 rsZF);have I7:=Lib.hid (HI.out.below hb7);have K7:=Lib.hid (HK.out.below hb7);have B7:=Lib.hid (bnext HB.out hb7);clear hE7 hy hyi hb7 c0 c1 c2 c3 c4 cl))
    | (with_reducible refine st_rslF w7.heap.size N7.out rfl y _ _ rfl rfl rfl rfl ?_))
   obtain ⟨G,hG⟩:∃ G,G=w7.heap.size:=⟨_,rfl⟩
   obtain ⟨w8,hw8⟩:∃ W,W=(w7.alloc (.cells rsZF 51)).setRow w7.heap.size (rslA y):=⟨_,rfl⟩
   have f8:Below w7.heap.size w7 w8:=by rw [hw8];exact fresh_res w7 _
   have E8:=Lib.hid (E7.out.1.below f8)
   have Y8:=Lib.hid (And.intro E7.out.2.1 (E7.out.2.2.below f8))
   have I8:=Lib.hid (I7.out.below f8)
   have K8:=Lib.hid (K7.out.below f8)
   have B8:=Lib.hid (bnext B7.out f8)
   have G8:Hid (Bk w8 G 51 (rslA y)):=Lib.hid (by rw [hw8,hG];exact N7.out.setRow _)
   rw [← hw8,← hG]
   clear hw8 hG f8 N7 E7 I7 K7 B7
   try go_wp2
   go_loopw [11,12] (fun ff kk wq=>∃ (j:Nat) (f:Bool),j≤n∧ff=.bool f∧kk=.int .i64 j∧Hid (f=true↔resT (csOf l) b06 i∈R.1.results.take j)∧Hid (Below w8.heap.size w8 wq)) (fun _ kk _=>n - (intOf kk).toNat)
   case atStart=>exact ⟨0,false,Nat.zero_le _,rfl,rfl,Lib.hid ⟨fun h=>(by cases h),fun h=>by rw [List.take_zero] at h;cases h⟩,Lib.hid (Below.refl _ _)⟩
   case round=>
    obtain ⟨j,f,hj,rfl,rfl,HF,HQ⟩:=hrel
    have HIq:=Lib.hid (I8.out.below HQ.out)
    have HKq:=Lib.hid (K8.out.below HQ.out)
    have HGq:=Lib.hid (G8.out.below HQ.out)
    have hm:z5.rn=n:=m5
    obtain ⟨-,-,-,p3,pl,-⟩:=HKq.out.crew
    rw [hm] at p3
    by_cases hjl:j < n
    ·have d5:(j:Int) < (n:Int):=by omega
     obtain ⟨x',hx'⟩:=rsl_at (l:=z5.rl) (i:=j) (by rw [HIq.out.rs.len,hm];exact hjl)
     obtain ⟨rb,ro,hrA,hat⟩:=HIq.out.rs.sl.lies hx'
     have hrc:=HIq.out.rs.sl.cap
     rw [HIq.out.rs.len,hm] at hrc
     obtain ⟨rc,hrcc⟩:∃ rc,rc=z5.rc:=⟨_,rfl⟩
     have hrj:=HIq.out.rs.at hx'
     obtain ⟨k,hk,hrk⟩:=F4.out x'.r (List.mem_of_getElem? hrj)
     rw [← hrcc] at hrc p3
     have d6:(j:Int) < (rc:Int):=by omega
     have hmem:resT (csOf l) b06 i∈R.1.results.take (j + 1)↔resT (csOf l) b06 i∈R.1.results.take j∨resT (csOf l) b06 i=x'.r:=take_mem hrj
     have hsame:Hid (∀ W,Below wr.heap.size wr W→Calls Tryz.prog 19 #[.agg (rslA x'),.agg (rslA y)] W fun e w'=>e=.returned (.bool (decide (k=i)))∧Below W.heap.size W w'):=Lib.hid (fun W hW=>by
      by_cases hki:k=i
      ·rw [decide_eq_true hki]
       exact rsame_res x' y W ((HIq.out.rs.sl.2 x' (List.mem_of_getElem? hx')).below hW) ((Y8.out.2.below HQ.out).below hW) (by rw [hrk,hki,Y8.out.1]) (by have:=FO.out x'.r (List.mem_of_getElem? hrj);have h1:=(HIq.out.rs.sl.2 x' (List.mem_of_getElem? hx')).1;simp at h1;omega)
      ·rw [decide_eq_false hki]
       exact rsameR_no x' y W (by rw [hrk,Y8.out.1];exact fun e=>hki (by have e2:(k:Int) + 1=(i:Int) + 1:=e;omega)))
     have HM1:Hid ((f || decide (k=i))=true↔resT (csOf l) b06 i∈R.1.results.take (j + 1)):=Lib.hid (by
      rw [hmem,hrk,Bool.or_eq_true,HF.out,decide_eq_true_eq]
      exact ⟨fun h=>h.elim .inl (fun e=>.inr (by rw [e])),fun h=>h.elim .inl (fun e=>.inr (resT_inj e).symm)⟩)
     rw [hrA] at p3
     have HRA:=Lib.hid hrA
     clear hrj hrk hmem hx' hrA
     cases f with
     | true=>
      have HM2:=Lib.hid (HM1.out.1 (Bool.true_or _))
      clear HM1
      go_wp2
      try simp only [List.append_eq,List.cons_append,List.nil_append]
      refine wp_region_saysK 8 (fun x y=>Below x.heap.size x y) (fun _ _ _ h k=>bnext h k) wr (below_drew1 wr) (by kernel_rfl) (by kernel_rfl) (by kernel_rfl) (by kernel_rfl) (by rfl) ?_
      simp only [List.take_succ_cons,List.take_zero,List.drop_succ_cons,List.drop_zero]
      refine walkK_is (.bool true) (by first | exact gs0 rfl | exact gs1 rfl rfl rfl) (fun _=>Below.refl _ _) (fun u X' hX hd=>?_) ?_
      ·skip
       try simp at hd
       go_simp
       try rfl
      apply walkK_norm
      ·first | (simp only [List.nil_append];rfl) | simp only [List.nil_append]
      refine walkK_is (.bool true) (by first | exact gs0 rfl | exact gs1 rfl rfl rfl) (fun _=>Below.refl _ _) (fun u X' hX hd=>?_) ?_
      ·skip
       try simp at hd
       go_simp
       try rfl
      apply walkK_norm
      ·first | (simp only [List.nil_append,List.cons_append];rfl) | simp only [List.nil_append,List.cons_append]
      refine walkK_skip (st1 rfl rfl (by simp)) ?_
      apply walkK_norm
      ·first | (simp only [List.nil_append,List.cons_append];rfl) | simp only [List.nil_append,List.cons_append]
      refine walkK_skip (st1 rfl rfl (by simp)) ?_
      apply walkK_norm
      ·first | (simp only [List.nil_append,List.cons_append];rfl) | simp only [List.nil_append,List.cons_append]
      refine walkK_skip (st1 rfl rfl (by simp)) ?_
      apply walkK_norm
      ·first | (simp only [List.nil_append,List.cons_append];rfl) | simp only [List.nil_append,List.cons_append]
      refine walkK_skip (st1 rfl rfl (by simp)) ?_
      apply walkK_norm
      ·first | (simp only [List.nil_append,List.cons_append];rfl) | simp only [List.nil_append,List.cons_append]
      refine walkK_skip (st1 rfl rfl (by simp)) ?_
      apply walkK_norm
      ·first | (simp only [List.nil_append,List.cons_append];rfl) | simp only [List.nil_append,List.cons_append]
      refine walkK_skip (st1 rfl rfl (by simp)) ?_
      refine walkK_last ?_
      intro u X' hX hsay
      have v0:=sayAll_put hsay 0 (.bool true) rfl
      have v1:=sayAll_put hsay 1 (.bool true) rfl
      clear hsay
      simp only [putAll,Act.put,v0,v1,List.setIfInBounds_toArray,List.set_cons_succ,List.set_cons_zero,Nat.zero_add,Nat.reduceAdd]
      have HX1:=Lib.hid hX
      clear hX v0 v1
      go_wp2
      go_roundw
      case rel=>exact ⟨j + 1,true,by omega,rfl,by go_num,Lib.hid ⟨fun _=>HM2.out,fun _=>rfl⟩,Lib.hid (bnext HQ.out HX1.out)⟩
      case measure=>simp [intOf];omega
     | false=>
      rw [Bool.false_or] at HM1
      go_wp2
      try simp only [List.append_eq,List.cons_append,List.nil_append]
      refine wp_region_saysK 8 (fun x y=>Below x.heap.size x y) (fun _ _ _ h k=>bnext h k) wr (below_drew1 wr) (by kernel_rfl) (by kernel_rfl) (by kernel_rfl) (by kernel_rfl) (by rfl) ?_
      simp only [List.take_succ_cons,List.take_zero,List.drop_succ_cons,List.drop_zero]
      refine walkK_is (.bool false) (by first | exact gs0 rfl | exact gs1 rfl rfl rfl) (fun _=>Below.refl _ _) (fun u X' hX hd=>?_) ?_
      ·obtain ⟨-,-,-,p3,pl,-⟩:=(HKq.out.below hX).crew
       rw [HRA.out] at p3
       obtain ⟨a0,a1,a2,-,al⟩:=hat X' hX
       have kk:=HGq.out.below hX
       have y0:=kk.cell 0
       have y1:=kk.cell 1
       have y2:=kk.cell 2
       have yl:=kk.lt
       simp only [List.getElem?_toArray,List.getElem?_cons_zero,List.getElem?_cons_succ] at y0 y1 y2
       try simp at hd
       go_simp
       try rfl
      apply walkK_norm
      ·first | (simp only [List.nil_append];rfl) | simp only [List.nil_append]
      refine walkK_is (.bool false) (by first | exact gs0 rfl | exact gs1 rfl rfl rfl) (fun _=>Below.refl _ _) (fun u X' hX hd=>?_) ?_
      ·obtain ⟨-,-,-,p3,pl,-⟩:=(HKq.out.below hX).crew
       rw [HRA.out] at p3
       obtain ⟨a0,a1,a2,-,al⟩:=hat X' hX
       have kk:=HGq.out.below hX
       have y0:=kk.cell 0
       have y1:=kk.cell 1
       have y2:=kk.cell 2
       have yl:=kk.lt
       simp only [List.getElem?_toArray,List.getElem?_cons_zero,List.getElem?_cons_succ] at y0 y1 y2
       try simp at hd
       go_simp
       try rfl
      apply walkK_norm
      ·first | (simp only [List.nil_append,List.cons_append];rfl) | simp only [List.nil_append,List.cons_append]
      refine walkK_is (.pointer (some ⟨g,3,none⟩)) (by first | exact gs0 rfl | exact gs1 rfl rfl rfl) (fun _=>Below.refl _ _) (fun u X' hX hd=>?_) ?_
      ·obtain ⟨-,-,-,p3,pl,-⟩:=(HKq.out.below hX).crew
       rw [HRA.out] at p3
       obtain ⟨a0,a1,a2,-,al⟩:=hat X' hX
       have kk:=HGq.out.below hX
       have y0:=kk.cell 0
       have y1:=kk.cell 1
       have y2:=kk.cell 2
       have yl:=kk.lt
       simp only [List.getElem?_toArray,List.getElem?_cons_zero,List.getElem?_cons_succ] at y0 y1 y2
       try simp at hd
       go_simp
       try rfl
      apply walkK_norm
      ·first | (simp only [List.nil_append,List.cons_append];rfl) | simp only [List.nil_append,List.cons_append]
      refine walkK_is (.slice (some ⟨rb,ro,none⟩) n rc) (by first | exact gs0 rfl | exact gs1 rfl rfl rfl) (fun _=>Below.refl _ _) (fun u X' hX hd=>?_) ?_
      ·obtain ⟨-,-,-,p3,pl,-⟩:=(HKq.out.below hX).crew
       rw [HRA.out] at p3
       obtain ⟨a0,a1,a2,-,al⟩:=hat X' hX
       have kk:=HGq.out.below hX
       have y0:=kk.cell 0
       have y1:=kk.cell 1
       have y2:=kk.cell 2
       have yl:=kk.lt
       simp only [List.getElem?_toArray,List.getElem?_cons_zero,List.getElem?_cons_succ] at y0 y1 y2
       try simp at hd
       go_simp
       try rfl
      apply walkK_norm
      ·first | (simp only [List.nil_append,List.cons_append];rfl) | simp only [List.nil_append,List.cons_append]
      refine walkK_is (.int .i64 (j:Int)) (by first | exact gs0 rfl | exact gs1 rfl rfl rfl) (fun _=>Below.refl _ _) (fun u X' hX hd=>?_) ?_
      ·obtain ⟨-,-,-,p3,pl,-⟩:=(HKq.out.below hX).crew
       rw [HRA.out] at p3
       obtain ⟨a0,a1,a2,-,al⟩:=hat X' hX
       have kk:=HGq.out.below hX
       have y0:=kk.cell 0
       have y1:=kk.cell 1
       have y2:=kk.cell 2
       have yl:=kk.lt
       simp only [List.getElem?_toArray,List.getElem?_cons_zero,List.getElem?_cons_succ] at y0 y1 y2
       try simp at hd
       go_simp
       try rfl
      apply walkK_norm
      ·first | (simp only [List.nil_append,List.cons_append];rfl) | simp only [List.nil_append,List.cons_append]
      refine walkK_is (.pointer (some ⟨rb,ro + j * 3,none⟩)) (by first | exact gs0 rfl | exact gs1 rfl rfl rfl) (fun _=>Below.refl _ _) (fun u X' hX hd=>?_) ?_
      ·obtain ⟨-,-,-,p3,pl,-⟩:=(HKq.out.below hX).crew
       rw [HRA.out] at p3
       obtain ⟨a0,a1,a2,-,al⟩:=hat X' hX
       have kk:=HGq.out.below hX
       have y0:=kk.cell 0
       have y1:=kk.cell 1
       have y2:=kk.cell 2
       have yl:=kk.lt
       simp only [List.getElem?_toArray,List.getElem?_cons_zero,List.getElem?_cons_succ] at y0 y1 y2
       try simp at hd
       go_simp
       try rfl
      apply walkK_norm
      ·first | (simp only [List.nil_append,List.cons_append];rfl) | simp only [List.nil_append,List.cons_append]
      refine walkK_is (.agg (rslA x')) (by first | exact gs0 rfl | exact gs1 rfl rfl rfl) (fun _=>Below.refl _ _) (fun u X' hX hd=>?_) ?_
      ·obtain ⟨-,-,-,p3,pl,-⟩:=(HKq.out.below hX).crew
       rw [HRA.out] at p3
       obtain ⟨a0,a1,a2,-,al⟩:=hat X' hX
       have kk:=HGq.out.below hX
       have y0:=kk.cell 0
       have y1:=kk.cell 1
       have y2:=kk.cell 2
       have yl:=kk.lt
       simp only [List.getElem?_toArray,List.getElem?_cons_zero,List.getElem?_cons_succ] at y0 y1 y2
       try simp at hd
       go_simp
       try rfl
      apply walkK_norm
      ·first | (simp only [List.nil_append,List.cons_append];rfl) | simp only [List.nil_append,List.cons_append]
      refine walkK_is (.agg (rslA y)) (by first | exact gs0 rfl | exact gs1 rfl rfl rfl) (fun _=>Below.refl _ _) (fun u X' hX hd=>?_) ?_
      ·obtain ⟨-,-,-,p3,pl,-⟩:=(HKq.out.below hX).crew
       rw [HRA.out] at p3
       obtain ⟨a0,a1,a2,-,al⟩:=hat X' hX
       have kk:=HGq.out.below hX
       have y0:=kk.cell 0
       have y1:=kk.cell 1
       have y2:=kk.cell 2
       have yl:=kk.lt
       simp only [List.getElem?_toArray,List.getElem?_cons_zero,List.getElem?_cons_succ] at y0 y1 y2
       try simp at hd
       go_simp
       try rfl
      refine walkK_last ?_
      intro u X' hX hsay
      have v0:=sayAll_put hsay 0 (.bool false) rfl
      have v1:=sayAll_put hsay 1 (.bool false) rfl
      have v6:=sayAll_put hsay 6 (.agg (rslA x')) rfl
      have v7:=sayAll_put hsay 7 (.agg (rslA y)) rfl
      clear hsay
      simp only [putAll,Act.put,v0,v1,v6,v7,List.setIfInBounds_toArray,List.set_cons_succ,List.set_cons_zero,Nat.zero_add,Nat.reduceAdd]
      have HX1:=Lib.hid hX
      clear hX v0 v1 v6 v7
      have hs:=Lib.hid (hsame.out X' HX1.out)
      go_wp2_with (go_at_call 19;go_must ((with_reducible refine hs.out.mono ?_);rintro e w9 ⟨rfl,hb9⟩;have Q9:=Lib.hid (bnext HQ.out (bnext HX1.out hb9));clear hb9))
      go_roundw
      case rel=>exact ⟨j + 1,decide (k=i),by omega,rfl,by go_num,HM1,Q9⟩
      case measure=>simp [intOf];omega
    ·obtain rfl:j=n:=by omega
     have d5:¬ (j:Int) < (j:Int):=by omega
     have hft:f=true:=HF.out.2 (by rw [← F2.out,List.take_length];exact F3.out i hlt)
     subst hft
     have EE:=Lib.hid (E8.out.below HQ.out)
     have BB:=Lib.hid (bnext B8.out HQ.out)
     go_wp2
     go_roundw
     case rel=>exact ⟨i + 1,A7,c7,by omega,rfl,by go_num,EE,HIq,HKq,BB⟩
     case measure=>simp [intOf];omega
  ·obtain rfl:i=n:=by omega
   have d3:¬ (i:Int) < (i:Int):=by omega
   have hs12:Hid (∀ W,Below wr.heap.size wr W→Calls Tryz.prog 20 #[.slice z5.bA 6 z5.bc,.slice bA 6 bc] W fun e w'=>e=.returned (.bool true)∧Below W.heap.size W w'):=Lib.hid (fun W hW=>by
    have h1:=(HI.out.bl).below hW
    rw [F1.out] at h1
    have h8:=HI.out.e8
    rw [F1.out] at h8
    exact rsameE_yes (serT (csOf l) b06 i) h8 z5.bA bA 6 z5.bc bc W h1 (HE.out.below hW) (by rw [ser_length];exact List.length_replicate) (by decide))
   go_wp2
   try simp only [List.append_eq,List.cons_append,List.nil_append]
   refine wp_region_saysK 11 (fun x y=>Below x.heap.size x y) (fun _ _ _ h k=>bnext h k) wr (below_drew1 wr) (by kernel_rfl) (by kernel_rfl) (by kernel_rfl) (by kernel_rfl) (by rfl) ?_
   simp only [List.take_succ_cons,List.take_zero,List.drop_succ_cons,List.drop_zero]
   refine walkK_call (isV (.bool true)) 7 ?_ (by first | exact gs0 rfl | exact gs1 rfl rfl rfl) (fun _ _ _ _ h=>h) (fun u X' hX hd=>?_) (fun X' hX=>?_) ?_
   rotate_left
   ·obtain ⟨p0,p1,-,-,pl,-⟩:=(HK.out.below hX).crew
    try simp at hd
    go_simp
    try rfl
   ·exact (aw.out X').mono fun e X2 ⟨he,hb⟩=>⟨_,he,hb,rfl⟩
   apply walkK_norm
   ·first | (simp only [List.nil_append];rfl) | simp only [List.nil_append]
   refine walkK_is (.bool true) (by first | exact gs0 rfl | exact gs1 rfl rfl rfl) (fun _=>Below.refl _ _) (fun u X' hX hd=>?_) ?_
   ·obtain ⟨p0,p1,-,-,pl,-⟩:=(HK.out.below hX).crew
    try simp at hd
    go_simp
    try rfl
   apply walkK_norm
   ·first | (simp only [List.nil_append,List.cons_append];rfl) | simp only [List.nil_append,List.cons_append]
   refine walkK_is (.pointer (some ⟨g,0,none⟩)) (by first | exact gs0 rfl | exact gs1 rfl rfl rfl) (fun _=>Below.refl _ _) (fun u X' hX hd=>?_) ?_
   ·obtain ⟨p0,p1,-,-,pl,-⟩:=(HK.out.below hX).crew
    try simp at hd
    go_simp
    try rfl
   apply walkK_norm
   ·first | (simp only [List.nil_append,List.cons_append];rfl) | simp only [List.nil_append,List.cons_append]
   refine walkK_is (.slice z5.bA 6 z5.bc) (by first | exact gs0 rfl | exact gs1 rfl rfl rfl) (fun _=>Below.refl _ _) (fun u X' hX hd=>?_) ?_
   ·obtain ⟨p0,p1,-,-,pl,-⟩:=(HK.out.below hX).crew
    try simp at hd
    go_simp
    try rfl
   apply walkK_norm
   ·first | (simp only [List.nil_append,List.cons_append];rfl) | simp only [List.nil_append,List.cons_append]
   refine walkK_is (.slice bA 6 bc) (by first | exact gs0 rfl | exact gs1 rfl rfl rfl) (fun _=>Below.refl _ _) (fun u X' hX hd=>?_) ?_
   ·obtain ⟨p0,p1,-,-,pl,-⟩:=(HK.out.below hX).crew
    try simp at hd
    go_simp
    try rfl
   apply walkK_norm
   ·first | (simp only [List.nil_append,List.cons_append];rfl) | simp only [List.nil_append,List.cons_append]
   refine walkK_call (isV (.bool true)) 20 ?_ (by first | exact gs0 rfl | exact gs1 rfl rfl rfl) (fun _ _ _ _ h=>h) (fun u X' hX hd=>?_) (fun X' hX=>?_) ?_
   rotate_left
   ·obtain ⟨p0,p1,-,-,pl,-⟩:=(HK.out.below hX).crew
    try simp at hd
    go_simp
    try rfl
   ·exact (hs12.out X' hX).mono fun e X2 ⟨he,hb⟩=>⟨_,he,hb,rfl⟩
   apply walkK_norm
   ·first | (simp only [List.nil_append,List.cons_append];rfl) | simp only [List.nil_append,List.cons_append]
   refine walkK_is (.bool true) (by first | exact gs0 rfl | exact gs1 rfl rfl rfl) (fun _=>Below.refl _ _) (fun u X' hX hd=>?_) ?_
   ·obtain ⟨p0,p1,-,-,pl,-⟩:=(HK.out.below hX).crew
    try simp at hd
    go_simp
    try rfl
   apply walkK_norm
   ·first | (simp only [List.nil_append,List.cons_append];rfl) | simp only [List.nil_append,List.cons_append]
   refine walkK_is (.bool true) (by first | exact gs0 rfl | exact gs1 rfl rfl rfl) (fun _=>Below.refl _ _) (fun u X' hX hd=>?_) ?_
   ·obtain ⟨p0,p1,-,-,pl,-⟩:=(HK.out.below hX).crew
    try simp at hd
    go_simp
    try rfl
   apply walkK_norm
   ·first | (simp only [List.nil_append,List.cons_append];rfl) | simp only [List.nil_append,List.cons_append]
   refine walkK_is (.pointer (some ⟨g,1,none⟩)) (by first | exact gs0 rfl | exact gs1 rfl rfl rfl) (fun _=>Below.refl _ _) (fun u X' hX hd=>?_) ?_
   ·obtain ⟨p0,p1,-,-,pl,-⟩:=(HK.out.below hX).crew
    try simp at hd
    go_simp
    try rfl
   apply walkK_norm
   ·first | (simp only [List.nil_append,List.cons_append];rfl) | simp only [List.nil_append,List.cons_append]
   refine walkK_is (.slice z5.wA 6 z5.wc) (by first | exact gs0 rfl | exact gs1 rfl rfl rfl) (fun _=>Below.refl _ _) (fun u X' hX hd=>?_) ?_
   ·obtain ⟨p0,p1,-,-,pl,-⟩:=(HK.out.below hX).crew
    try simp at hd
    go_simp
    try rfl
   apply walkK_norm
   ·first | (simp only [List.nil_append,List.cons_append];rfl) | simp only [List.nil_append,List.cons_append]
   refine walkK_call (lksV 6 (lksW [] 6)) 22 ?_ (by first | exact gs0 rfl | exact gs1 rfl rfl rfl) (fun v x y hb h=>lksV_keep v x y hb h) (fun u X' hX hd=>?_) (fun X' hX=>?_) ?_
   rotate_left
   ·obtain ⟨p0,p1,-,-,pl,-⟩:=(HK.out.below hX).crew
    try simp at hd
    go_simp
    try rfl
   ·exact hnw.out X'
   refine walkK_last ?_
   intro u X' hX hsay
   have v1:=sayAll_put hsay 1 (.bool true) rfl
   have v7:=sayAll_put hsay 7 (.bool true) rfl
   have v9:=sayAll_put hsay 9 (.slice z5.wA 6 z5.wc) rfl
   have vk:=sayAll_get hsay (j:=10) (φ:=lksV 6 (lksW [] 6)) rfl
   clear hsay
   simp only [putAll,Act.put,v1,v7,v9,List.setIfInBounds_toArray,List.set_cons_succ,List.set_cons_zero,Nat.zero_add,Nat.reduceAdd]
   obtain ⟨WA,wc',vk,hL⟩:=vk
   try simp only [Nat.zero_add] at vk
   simp only [vk]
   have L1:=Lib.hid hL
   have HX1:=Lib.hid hX
   clear hX hL v1 v7 v9 vk
   have hs15:Hid (Calls Tryz.prog 21 #[.slice z5.wA 6 z5.wc,.slice WA 6 wc'] X' fun e w'=>e=.returned (.bool true)∧Below X'.heap.size X' w'):=Lib.hid (by
    have h1:=(HI.out.wt.below HX1.out).sl
    rw [GT.out] at h1
    exact rsame_who [] z5.wA 6 z5.wc X' WA wc' h1 L1.out (by decide) (by decide))
   go_wp2_with (go_at_call 21;go_must ((with_reducible refine hs15.out.mono ?_);rintro e w9 ⟨rfl,hb9⟩;have Q9:=Lib.hid (bnext HB.out (bnext HX1.out hb9));clear hb9))
   go_ret
   exact ⟨rfl,Q9.out⟩
theorem crewFolds_walk (hz:n≤9223372036854775807) (w:World) (h:Cmds w A c l) (hN:l.length=n) (hts:U8s w tA tc ts) (htn:ts.length=tn) (htr:∀ x∈ts,0≤x∧x≤255) :
  Calls Tryz.prog 4 #[.slice A n c,.slice tA tn tc] w fun e w'=>e=.returned (.bool true)∧Below w.heap.size w w':=by
 by_cases hr:R17 l
 ·by_cases hm:300 < tn
  ·exact crewFolds_many l A n c tA tn tc w h hN hr hm
  ·exact crewFolds_main l A n c ts tA tn tc w h hN hr (by omega) hts htn htr
 ·exact crewFolds_no l A n c tA tn tc hz w h hN hr
end
end Go.Proofs.YtpaocjpjlogkgaaGreat
