/-
  Words and contracts of this claim, 8 texts laid into one, each under its own remark. No conditions but those that stand at each.
-/
import Derived.Test.YtpaocjpjlogkgaaGreatQQueP
import Derived.Test.YtpaocjpjlogkgaaGreatQWords
import Derived.Deep.DeepMust
import Derived.Deep.QuietTactic
import Derived.BigQuiet
import Derived.IntWalk
import Derived.Deep.MidRow
import Derived.Lib.Agree
import Derived.Test.YtpaocjpjlogkgaaGreatQRely
namespace Go.Proofs.YtpaocjpjlogkgaaGreat
set_option maxRecDepth 100000
set_option maxHeartbeats 32000000
open Go
open Go.Lib (hid)
section
open Go.RowKit
theorem rmoves_any (op:Int) (w:World):Calls Tryz.prog 96 #[.int .i64 op] w fun e w'=>e=.returned (.tuple #[.int .i64 (offN op:Nat),.int .i64 (onN op:Nat)])∧w=w':=by
 rcases op_cases op with h | h | rfl | rfl | rfl | rfl | rfl | rfl | rfl | rfl | rfl | rfl | rfl | rfl | rfl | rfl | rfl | rfl | rfl
 all_goals
  (try rw [offN_low h,onN_low h])
  (try rw [offN_high h,onN_high h])
  go_enter Tryz.func96,Tryz.ntmps96
  go_wp2
  go_ret2
  exact ⟨rfl,rfl⟩
theorem drewR (w:World) (n:Nat):Below w.heap.size w (w.drewN n):=⟨rfl,rfl,rfl,Nat.le_refl _,fun _ _=>rfl⟩
def risesAt (l:List Int) (i:Nat):Prop:=risesN (l.drop i) (if i=0 then 0 else (l[i - 1]?.getD 0) + 1)
instance (l:List Int) (i:Nat):Decidable (risesAt l i):=inferInstanceAs (Decidable (risesN _ _))
theorem risesAt_step {l:List Int} {i:Nat} (h:i < l.length):risesAt l i↔(if i=0 then 0 else (l[i - 1]?.getD 0) + 1)≤l[i]?.getD 0∧risesAt l (i + 1):=by
 unfold risesAt
 rw [drop_consI h]
 exact Iff.rfl
theorem rrising_any (l:List Int) (A:Option Addr) (N c:Nat) (w:World) (h:Ints w A c l) (hN:l.length=N) (hz:N≤1099511627776) (b:Bool) (hb:decide (risesN l 0)=b) :
  Calls Tryz.prog 53 #[.slice A N c] w fun e w'=>e=.returned (.bool b)∧Below w.heap.size w w':=by
 have hc:=h.2.1
 have h':=hid h
 have hN':=hid hN
 rw [hN] at hc
 have hb':Hid (decide (risesAt l 0)=b):=hid hb
 clear h hN hb
 go_enter Tryz.func53,Tryz.ntmps53
 go_wp2
 go_loopw [3] (fun cc wr=>∃ i:Nat,i≤N∧cc=.int .i64 i∧Hid (Below w.heap.size w wr)∧Hid (decide (risesAt l i)=b)∧Hid (0 < i→0≤l[i - 1]?.getD 0)) (fun cc _=>N - (intOf cc).toNat)
 case atStart=>exact ⟨0,Nat.zero_le _,rfl,hid (Below.refl _ _),hb',hid (fun h=>absurd h (by omega))⟩
 case round=>
  obtain ⟨i,hi,rfl,HB,HR,HP⟩:=hrel
  by_cases hlt:i < N
  ·have d1:(i:Int) < (N:Int):=by omega
   have d2:(i:Int) < (c:Int):=by omega
   have hil:i < l.length:=by rw [hN'.out];exact hlt
   obtain ⟨g,off,rfl,hg,x0⟩:=(Ints.below h'.out HB.out).cellAt (j:=i) hil
   have hstep:=risesAt_step hil
   have HR2:=HR.out
   rcases Nat.eq_zero_or_pos i with hi0 | h0
   ·rw [if_pos hi0] at hstep
    have e3:decide ((0:Int) < (i:Int))=false:=decide_eq_false (by omega)
    have e4:decide (0 < i)=false:=decide_eq_false (by omega)
    obtain ⟨x,hx0⟩:∃ x,x=l[i]?.getD 0:=⟨_,rfl⟩
    rw [← hx0] at hstep x0
    have HX:=hid hx0
    clear hx0 hi0
    by_cases hx:x < 0
    ·obtain rfl:false=b:=by rw [← HR2,decide_eq_false (fun q=>by have:=(hstep.1 q).1;omega)]
     have e1:decide (x < 0)=true:=decide_eq_true hx
     clear hstep HR2 HR
     go_wp2
     go_quiet (fail)
     go_wp2
     go_ret
     exact ⟨rfl,bnext HB.out (drewR _ _)⟩
    ·have e1:decide (x < 0)=false:=decide_eq_false hx
     have HR3:Hid (decide (risesAt l (i + 1))=b):=hid (by
      rw [← HR2]
      exact decide_eq_decide.2 ⟨fun q=>hstep.2 ⟨by omega,q⟩,fun q=>(hstep.1 q).2⟩)
     have HP3:Hid (0 < i + 1→0≤l[i + 1 - 1]?.getD (0:Int)):=hid (fun _=>by
      rw [Nat.add_sub_cancel,← HX.out]
      omega)
     clear hstep HR2 HR
     go_wp2
     go_quiet (fail)
     go_wp2
     go_roundw
     case rel=>exact ⟨i + 1,by omega,by go_num,hid (bnext HB.out (drewR _ _)),HR3,HP3⟩
     case measure=>simp [intOf];omega
   ·obtain ⟨j,rfl⟩:∃ j,i=j + 1:=⟨i - 1,by omega⟩
    rw [if_neg (by omega),Nat.add_sub_cancel] at hstep
    have hp0:=HP.out h0
    rw [Nat.add_sub_cancel] at hp0
    obtain ⟨g',off',hgg,-,y0⟩:=(Ints.below h'.out HB.out).cellAt (j:=j) (by omega)
    obtain ⟨rfl,rfl⟩:g=g'∧off=off':=(by simpa using hgg)
    obtain ⟨x,hx0⟩:∃ x,x=l[j + 1]?.getD 0:=⟨_,rfl⟩
    rw [← hx0] at hstep x0
    have HX:=hid hx0
    generalize l[j]?.getD 0=p at *
    clear hx0 hgg
    have q1:IntKind.i64.wrap ((j:Int) + 1 - 1)=(j:Int):=by rw [show (j:Int) + 1 - 1=j by omega];exact IntWalk.i64_in _ (by omega)
    have q2:(j:Int) < (N:Int):=by omega
    have q3:(j:Int) < (c:Int):=by omega
    have q4:((j:Int) + 1).toNat=j + 1:=by omega
    by_cases hx:x < 0
    ·obtain rfl:false=b:=by rw [← HR2,decide_eq_false (fun q=>by have:=(hstep.1 q).1;omega)]
     have e1:decide (x < 0)=true:=decide_eq_true hx
     clear hstep HR2 HR
     go_wp2
     go_quiet (fail)
     go_wp2
     go_ret
     exact ⟨rfl,bnext HB.out (drewR _ _)⟩
    ·have e1:decide (x < 0)=false:=decide_eq_false hx
     by_cases hxp:x≤p
     ·obtain rfl:false=b:=by rw [← HR2,decide_eq_false (fun q=>by have:=(hstep.1 q).1;omega)]
      have e2:decide (x≤p)=true:=decide_eq_true hxp
      clear hstep HR2 HR
      go_wp2
      go_quiet (fail)
      go_wp2
      go_ret
      exact ⟨rfl,bnext HB.out (drewR _ _)⟩
     ·have e2:decide (x≤p)=false:=decide_eq_false hxp
      have HR3:Hid (decide (risesAt l (j + 1 + 1))=b):=hid (by
       rw [← HR2]
       exact decide_eq_decide.2 ⟨fun q=>hstep.2 ⟨by omega,q⟩,fun q=>(hstep.1 q).2⟩)
      have HP3:Hid (0 < j + 1 + 1→0≤l[j + 1 + 1 - 1]?.getD (0:Int)):=hid (fun _=>by
       rw [Nat.add_sub_cancel,← HX.out]
       omega)
      clear hstep HR2 HR
      go_wp2
      go_quiet (fail)
      go_wp2
      go_roundw
      case rel=>exact ⟨j + 1 + 1,by omega,by go_num,hid (bnext HB.out (drewR _ _)),HR3,HP3⟩
      case measure=>simp [intOf];omega
  ·obtain rfl:i=N:=by omega
   obtain rfl:true=b:=by
    have hr:risesAt l i:=by
     unfold risesAt
     rw [List.drop_eq_nil_of_le (by rw [hN'.out];exact Nat.le_refl _)]
     trivial
    rw [← HR.out]
    exact (decide_eq_true hr).symm
   clear hlt
   go_wp2
   go_ret
   exact ⟨rfl,HB.out⟩
end
section
open Go.RowKit
section
variable (ra:Option Addr) (nr rc:Nat) (wa:Option Addr) (nw wc:Nat) (aa:Option Addr) (na ac:Nat) (fuel:Int) (ca:Option Addr) (nc cc:Nat)
abbrev rbW (x:Ins) (w:World):World:=(w.alloc (CmObj ra nr rc wa nw wc aa na ac fuel ca nc cc)).alloc (IObj x)
theorem rbW_below (x:Ins) (w:World):Below w.heap.size w (rbW ra nr rc wa nw wc aa na ac fuel ca nc cc x w):=bnext (below_alloc1 _ _) (below_alloc1 _ _)
theorem rbounds2 (a b:Int) (w:World) (h1:nr≤1099511627776) (h2:nw≤1099511627776) (r:Bool) (hb:decide (0≤a∧a < 4)=r) :
  Calls Tryz.prog 55 #[cmV ra nr rc wa nw wc aa na ac fuel ca nc cc,.agg #[.int .i64 2,.int .i64 a,.int .i64 b]] w fun e w'=>e=.returned (.bool r)∧Below w.heap.size w w':=by
 have B0:=hid (rbW_below ra nr rc wa nw wc aa na ac fuel ca nc cc ⟨2,a,b⟩ w)
 by_cases g0:0≤a
 ·skip
  by_cases g1:a < 4
  ·skip
   obtain rfl:true=r:=by rw [← hb];exact (decide_eq_true ⟨g0,g1⟩).symm
   clear hb
   go_enter Tryz.func55,Tryz.ntmps55
   go_wp2
   go_ret
   exact ⟨rfl,B0.out⟩
  ·obtain rfl:false=r:=by rw [← hb];exact (decide_eq_false (fun h=>g1 h.2)).symm
   clear hb
   go_enter Tryz.func55,Tryz.ntmps55
   go_wp2
   go_ret
   exact ⟨rfl,B0.out⟩
 ·obtain rfl:false=r:=by rw [← hb];exact (decide_eq_false (fun h=>g0 h.1)).symm
  clear hb
  go_enter Tryz.func55,Tryz.ntmps55
  go_wp2
  go_ret
  exact ⟨rfl,B0.out⟩
theorem rbounds3 (a b:Int) (w:World) (h1:nr≤1099511627776) (h2:nw≤1099511627776) (r:Bool) (hb:decide (0≤a∧a < 4)=r) :
  Calls Tryz.prog 55 #[cmV ra nr rc wa nw wc aa na ac fuel ca nc cc,.agg #[.int .i64 3,.int .i64 a,.int .i64 b]] w fun e w'=>e=.returned (.bool r)∧Below w.heap.size w w':=by
 have B0:=hid (rbW_below ra nr rc wa nw wc aa na ac fuel ca nc cc ⟨3,a,b⟩ w)
 by_cases g0:0≤a
 ·skip
  by_cases g1:a < 4
  ·skip
   obtain rfl:true=r:=by rw [← hb];exact (decide_eq_true ⟨g0,g1⟩).symm
   clear hb
   go_enter Tryz.func55,Tryz.ntmps55
   go_wp2
   go_ret
   exact ⟨rfl,B0.out⟩
  ·obtain rfl:false=r:=by rw [← hb];exact (decide_eq_false (fun h=>g1 h.2)).symm
   clear hb
   go_enter Tryz.func55,Tryz.ntmps55
   go_wp2
   go_ret
   exact ⟨rfl,B0.out⟩
 ·obtain rfl:false=r:=by rw [← hb];exact (decide_eq_false (fun h=>g0 h.1)).symm
  clear hb
  go_enter Tryz.func55,Tryz.ntmps55
  go_wp2
  go_ret
  exact ⟨rfl,B0.out⟩
theorem rbounds4 (a b:Int) (w:World) (h1:nr≤1099511627776) (h2:nw≤1099511627776) (r:Bool) (hb:decide (0≤a∧a < (nr:Int) + (nw:Int)∧0≤b∧b < 8)=r) :
  Calls Tryz.prog 55 #[cmV ra nr rc wa nw wc aa na ac fuel ca nc cc,.agg #[.int .i64 4,.int .i64 a,.int .i64 b]] w fun e w'=>e=.returned (.bool r)∧Below w.heap.size w w':=by
 have B0:=hid (rbW_below ra nr rc wa nw wc aa na ac fuel ca nc cc ⟨4,a,b⟩ w)
 by_cases g0:0≤a
 ·skip
  by_cases g1:a < (nr:Int) + (nw:Int)
  ·skip
   by_cases g2:0≤b
   ·skip
    by_cases g3:b < 8
    ·skip
     obtain rfl:true=r:=by rw [← hb];exact (decide_eq_true ⟨g0,g1,g2,g3⟩).symm
     clear hb
     go_enter Tryz.func55,Tryz.ntmps55
     go_wp2
     go_ret
     exact ⟨rfl,B0.out⟩
    ·obtain rfl:false=r:=by rw [← hb];exact (decide_eq_false (fun h=>g3 h.2.2.2)).symm
     clear hb
     go_enter Tryz.func55,Tryz.ntmps55
     go_wp2
     go_ret
     exact ⟨rfl,B0.out⟩
   ·obtain rfl:false=r:=by rw [← hb];exact (decide_eq_false (fun h=>g2 h.2.2.1)).symm
    clear hb
    go_enter Tryz.func55,Tryz.ntmps55
    go_wp2
    go_ret
    exact ⟨rfl,B0.out⟩
  ·obtain rfl:false=r:=by rw [← hb];exact (decide_eq_false (fun h=>g1 h.2.1)).symm
   clear hb
   go_enter Tryz.func55,Tryz.ntmps55
   go_wp2
   go_ret
   exact ⟨rfl,B0.out⟩
 ·obtain rfl:false=r:=by rw [← hb];exact (decide_eq_false (fun h=>g0 h.1)).symm
  clear hb
  go_enter Tryz.func55,Tryz.ntmps55
  go_wp2
  go_ret
  exact ⟨rfl,B0.out⟩
theorem rbounds5 (a b:Int) (w:World) (h1:nr≤1099511627776) (h2:nw≤1099511627776) (r:Bool) (hb:decide ((nr:Int)≤a∧a < (nr:Int) + (nw:Int)∧0≤b∧b < 8)=r) :
  Calls Tryz.prog 55 #[cmV ra nr rc wa nw wc aa na ac fuel ca nc cc,.agg #[.int .i64 5,.int .i64 a,.int .i64 b]] w fun e w'=>e=.returned (.bool r)∧Below w.heap.size w w':=by
 have B0:=hid (rbW_below ra nr rc wa nw wc aa na ac fuel ca nc cc ⟨5,a,b⟩ w)
 by_cases g0:(nr:Int)≤a
 ·skip
  by_cases g1:a < (nr:Int) + (nw:Int)
  ·skip
   by_cases g2:0≤b
   ·skip
    by_cases g3:b < 8
    ·skip
     obtain rfl:true=r:=by rw [← hb];exact (decide_eq_true ⟨g0,g1,g2,g3⟩).symm
     clear hb
     go_enter Tryz.func55,Tryz.ntmps55
     go_wp2
     go_ret
     exact ⟨rfl,B0.out⟩
    ·obtain rfl:false=r:=by rw [← hb];exact (decide_eq_false (fun h=>g3 h.2.2.2)).symm
     clear hb
     go_enter Tryz.func55,Tryz.ntmps55
     go_wp2
     go_ret
     exact ⟨rfl,B0.out⟩
   ·obtain rfl:false=r:=by rw [← hb];exact (decide_eq_false (fun h=>g2 h.2.2.1)).symm
    clear hb
    go_enter Tryz.func55,Tryz.ntmps55
    go_wp2
    go_ret
    exact ⟨rfl,B0.out⟩
  ·obtain rfl:false=r:=by rw [← hb];exact (decide_eq_false (fun h=>g1 h.2.1)).symm
   clear hb
   go_enter Tryz.func55,Tryz.ntmps55
   go_wp2
   go_ret
   exact ⟨rfl,B0.out⟩
 ·obtain rfl:false=r:=by rw [← hb];exact (decide_eq_false (fun h=>g0 h.1)).symm
  clear hb
  go_enter Tryz.func55,Tryz.ntmps55
  go_wp2
  go_ret
  exact ⟨rfl,B0.out⟩
theorem rbounds6 (a b:Int) (w:World) (h1:nr≤1099511627776) (h2:nw≤1099511627776) (r:Bool) (hb:decide (0≤a∧a < (na:Int))=r) :
  Calls Tryz.prog 55 #[cmV ra nr rc wa nw wc aa na ac fuel ca nc cc,.agg #[.int .i64 6,.int .i64 a,.int .i64 b]] w fun e w'=>e=.returned (.bool r)∧Below w.heap.size w w':=by
 have B0:=hid (rbW_below ra nr rc wa nw wc aa na ac fuel ca nc cc ⟨6,a,b⟩ w)
 by_cases g0:0≤a
 ·skip
  by_cases g1:a < (na:Int)
  ·skip
   obtain rfl:true=r:=by rw [← hb];exact (decide_eq_true ⟨g0,g1⟩).symm
   clear hb
   go_enter Tryz.func55,Tryz.ntmps55
   go_wp2
   go_ret
   exact ⟨rfl,B0.out⟩
  ·obtain rfl:false=r:=by rw [← hb];exact (decide_eq_false (fun h=>g1 h.2)).symm
   clear hb
   go_enter Tryz.func55,Tryz.ntmps55
   go_wp2
   go_ret
   exact ⟨rfl,B0.out⟩
 ·obtain rfl:false=r:=by rw [← hb];exact (decide_eq_false (fun h=>g0 h.1)).symm
  clear hb
  go_enter Tryz.func55,Tryz.ntmps55
  go_wp2
  go_ret
  exact ⟨rfl,B0.out⟩
theorem rbounds_else (op a b:Int) (w:World) (h1:nr≤1099511627776) (h2:nw≤1099511627776) (ho:op≠2∧op≠3∧op≠4∧op≠5∧op≠6) :
  Calls Tryz.prog 55 #[cmV ra nr rc wa nw wc aa na ac fuel ca nc cc,.agg #[.int .i64 op,.int .i64 a,.int .i64 b]] w fun e w'=>e=.returned (.bool true)∧Below w.heap.size w w':=by
 have B0:=hid (rbW_below ra nr rc wa nw wc aa na ac fuel ca nc cc ⟨op,a,b⟩ w)
 have e0:(op == 2)=false:=by simp;omega
 have e1:(op == 3)=false:=by simp;omega
 have e2:(op == 4)=false:=by simp;omega
 have e3:(op == 5)=false:=by simp;omega
 have e4:(op == 6)=false:=by simp;omega
 clear ho
 go_enter Tryz.func55,Tryz.ntmps55
 go_wp2
 go_ret
 exact ⟨rfl,B0.out⟩
theorem rbounds_any (x:Ins) (w:World) (h1:nr≤1099511627776) (h2:nw≤1099511627776) (r:Bool) (hb:decide (boundsL nr nw na x)=r) :
  Calls Tryz.prog 55 #[cmV ra nr rc wa nw wc aa na ac fuel ca nc cc,.agg #[.int .i64 x.op,.int .i64 x.a,.int .i64 x.b]] w fun e w'=>e=.returned (.bool r)∧Below w.heap.size w w':=by
 obtain ⟨op,a,b⟩:=x
 have e:∀ p:Prop,[Decidable p]→(boundsL nr nw na ⟨op,a,b⟩↔p)→decide p=r:=fun p _ h=>by
  rw [← hb]
  exact decide_eq_decide.2 h.symm
 by_cases o2:op=2
 ·subst o2
  exact rbounds2 ra nr rc wa nw wc aa na ac fuel ca nc cc a b w h1 h2 r (e _ (by simp [boundsL]))
 by_cases o3:op=3
 ·subst o3
  exact rbounds3 ra nr rc wa nw wc aa na ac fuel ca nc cc a b w h1 h2 r (e _ (by simp [boundsL]))
 by_cases o4:op=4
 ·subst o4
  exact rbounds4 ra nr rc wa nw wc aa na ac fuel ca nc cc a b w h1 h2 r (e _ (by simp [boundsL]))
 by_cases o5:op=5
 ·subst o5
  exact rbounds5 ra nr rc wa nw wc aa na ac fuel ca nc cc a b w h1 h2 r (e _ (by simp [boundsL]))
 by_cases o6:op=6
 ·subst o6
  exact rbounds6 ra nr rc wa nw wc aa na ac fuel ca nc cc a b w h1 h2 r (e _ (by simp [boundsL]))
 ·have:=e True (by simp [boundsL,o2,o3,o4,o5,o6])
  rw [decide_true] at this
  subst this
  exact rbounds_else ra nr rc wa nw wc aa na ac fuel ca nc cc op a b w h1 h2 ⟨o2,o3,o4,o5,o6⟩
end
end
section
open Go.RowKit
def dV (d:List Int):Array Value:=(d.map (.int .i64)).toArray
theorem dV_at {d:List Int} {i:Nat} (h:i < d.length):(dV d)[i]? = some (.int .i64 (dAt d i)):=by simp [dV,dAt,h]
theorem dV_set (d:List Int) (i:Nat) (v:Int):(dV d).setIfInBounds i (.int .i64 v)=dV (d.set i v):=by
 apply Array.ext'
 simp [dV,List.map_set]
theorem bk_dV {w:World} {g:Nat} {d:List Int} (h:Bk w g 3 (dV d)) {i:Nat} (hi:i < d.length):w.cell? ⟨g,i,none⟩=some (.int .i64 (dAt d i)):=(h.cell i).trans (dV_at hi)
theorem startD0_bounds (n:Nat):∀ j,-1≤dAt (startD0 n) j∧dAt (startD0 n) j≤8:=by
 intro j
 by_cases hj:j < n
 ·rw [startD0_at hj];split <;> omega
 ·rw [dAt,List.getElem?_eq_none (by rw [startD0_length];omega)];decide
def DepthsPost (t:TypeId) (N:Nat) (w:World) (R:Except Nat (List Int)) (e:Ending) (w':World):Prop:=
 match R with
 | .error z=>e=.returned (.tuple #[.slice none 0 0,.int .i64 (z:Nat)])∧Below w.heap.size w w'
 | .ok d=>∃ g,w.heap.size≤g∧e=.returned (.tuple #[.slice (some ⟨g,0,none⟩) N N,.int .i64 0])∧Bk w' g t (dV d)∧Below w.heap.size w w'
end
section
open Go.RowKit
def fillD (N i:Nat):List Int:=(List.range N).map fun j=>if j=0 then 0 else if j < i then -1 else 0
theorem fillD_length (N i:Nat):(fillD N i).length=N:=by simp [fillD]
theorem fillD_full (N:Nat):fillD N N=startD0 N:=by
 unfold fillD startD0
 apply List.map_congr_left
 intro j hj
 rw [List.mem_range] at hj
 by_cases h:j=0
 ·rw [if_pos h,if_pos h]
 ·rw [if_neg h,if_neg h,if_pos hj]
theorem fillD_set (N i:Nat) (h0:1≤i) (h:i < N):(fillD N i).set i (-1)=fillD N (i + 1):=by
 apply List.ext_getElem?
 intro j
 rw [List.getElem?_set]
 by_cases hj:j < N
 ·by_cases e:i=j
  ·subst e
   rw [if_pos rfl,if_pos (by rw [fillD_length];exact h)]
   simp [fillD,h]
   omega
  ·rw [if_neg e]
   simp only [fillD,List.getElem?_map,List.getElem?_range hj,Option.map_some]
   by_cases h0:j=0
   ·rw [if_pos h0,if_pos h0]
   ·rw [if_neg h0,if_neg h0]
    by_cases hji:j < i
    ·rw [if_pos hji,if_pos (by omega)]
    ·rw [if_neg hji,if_neg (by omega)]
 ·by_cases e:i=j
  ·omega
  ·rw [if_neg e,List.getElem?_eq_none (by rw [fillD_length];omega),List.getElem?_eq_none (by rw [fillD_length];omega)]
theorem fillD_made (N:Nat):madeCells #[.int .i64 0] N=dV (fillD N 1):=by
 apply Array.ext'
 rw [toList_madeCells_one]
 unfold dV fillD
 apply List.ext_getElem?
 intro j
 by_cases hj:j < N
 ·simp [hj]
 ·rw [List.getElem?_eq_none (by simp;omega),List.getElem?_eq_none (by simp;omega)]
theorem infoI3:(Tryz.prog.info? 3).map (fun i=>(i.zero,i.size,i.bytes))=some (some (.int .i64 0),1,8):=by kernel_rfl
theorem makeD (w:World) (n:Nat) (h:n≤1000) :
  (Instr.makeSlice 49 (.int .i64 (n:Int)) (.int .i64 (n:Int))).run Tryz.prog w=.ok (.slice (some ⟨w.heap.size,0,none⟩) n n) (w.alloc (.cells (madeCells #[.int .i64 0] n) 3)):=
 run_make_row' 49 3 _ 8 Tryz.underlying49 infoI3 rfl .i64 .i64 n (by omega) (by omega) w
def WaysIn (w0 w:World) (A:Option Addr) (K:Nat) (ws:List Int):Prop:=Ints w A K ws∧K=ws.length∧∀ b off,A=some ⟨b,off,none⟩→w0.heap.size≤b
theorem ways_newIn (l:List Int) (w:World):WaysIn w (w.alloc (.cells (l.map (.int .i64)).toArray 3)) (some ⟨w.heap.size,0,none⟩) l.length l:=
 ⟨ints_new l w,rfl,fun b off h=>by injection h with h;injection h with h;omega⟩
def nextD (l:List Ins) (N i:Nat) (v:Int) (ws d:List Int):Except Nat (List Int):=
 match wayD N i v ws d with
 | .error e=>.error e
 | .ok d'=>goD l (N - (i + 1)) (i + 1) d'
theorem nextD_nil {l:List Ins} {N i:Nat} {v:Int} {d:List Int}:nextD l N i v [] d=goD l (N - (i + 1)) (i + 1) d:=rfl
theorem nextD_jump {l:List Ins} {N i:Nat} {v y:Int} {ws d:List Int} (h:y < 0∨(N:Int) - (i:Int) - 1≤y):nextD l N i v (y :: ws) d=.error 6:=by
 unfold nextD
 rw [wayD,if_pos h]
theorem nextD_stack {l:List Ins} {N i k:Nat} {v:Int} {ws d:List Int} (h0:¬ (k:Int) < 0) (h1:¬ (N:Int) - (i:Int) - 1≤(k:Int)) (h:0≤dAt d (i + 1 + k)∧dAt d (i + 1 + k)≠v):nextD l N i v ((k:Int) :: ws) d=.error 7:=by
 unfold nextD
 rw [wayD,if_neg (fun q=>q.elim h0 h1),Int.toNat_natCast,if_pos h]
theorem nextD_ok {l:List Ins} {N i k:Nat} {v:Int} {ws d:List Int} (h0:¬ (k:Int) < 0) (h1:¬ (N:Int) - (i:Int) - 1≤(k:Int)) (h:¬ (0≤dAt d (i + 1 + k)∧dAt d (i + 1 + k)≠v)):nextD l N i v ((k:Int) :: ws) d=nextD l N i v ws (d.set (i + 1 + k) v):=by
 unfold nextD
 rw [wayD,if_neg (fun q=>q.elim h0 h1),Int.toNat_natCast,if_neg h]
theorem rdepths_any (l:List Ins) (A:Option Addr) (c N:Nat) (w:World) (h:Inss w A c l) (hl:l.length=N) (h1:1≤N) (hN:N≤1000) :
  Calls Tryz.prog 56 #[.slice A N c] w (DepthsPost 3 N w (depthsN l)):=by
 obtain ⟨R,hR⟩:∃ R,R=depthsN l:=⟨_,rfl⟩
 rw [← hR]
 have hR':=hid (show R=goD l N 0 (startD0 N) by rw [hR,depthsN,hl])
 have hl':=hid hl
 have h':=hid h
 have hc:=h.2.1
 rw [hl] at hc
 have hmk:=makeD w N hN
 have K0:Hid (Bk (w.alloc (.cells (madeCells #[.int .i64 0] N) 3)) w.heap.size 3 (dV (fillD N 1))):=hid (by
  have:=Bk.new w 3 (madeCells #[.int .i64 0] N)
  rwa [fillD_made] at this ⊢)
 have B0:=hid (below_alloc1 w (.cells (madeCells #[.int .i64 0] N) 3))
 clear h hl hR
 go_enter Tryz.func56,Tryz.ntmps56
 go_wp2
 clear hmk
 obtain ⟨W0,hW0⟩:∃ W0,W0=w.alloc (.cells (madeCells #[.int .i64 0] N) 3):=⟨_,rfl⟩
 rw [← hW0] at K0 B0 ⊢
 clear hW0
 obtain ⟨g,hg⟩:∃ g,g=w.heap.size:=⟨_,rfl⟩
 rw [← hg] at K0 ⊢
 have hgE:=hid hg
 clear hg
 go_loopw [5] (fun cc wr=>∃ i:Nat,1≤i∧i≤N∧cc=.int .i64 i∧Hid (Bk wr g 3 (dV (fillD N i)))∧Hid (Below w.heap.size w wr)) (fun cc _=>N - (intOf cc).toNat)
 case atStart=>exact ⟨1,Nat.le_refl _,h1,rfl,K0,B0⟩
 case round=>
  obtain ⟨i,hi1,hi,rfl,HK,HB⟩:=hrel
  have r0:=HK.out.lt
  have rf:=HK.out.frozen i
  by_cases hlt:i < N
  ·have d1:(i:Int) < (N:Int):=by omega
   have x0:=bk_dV HK.out (i:=i) (by rw [fillD_length];exact hlt)
   have hst:=hid (dV_set (fillD N i) i (-1))
   go_wp2
   go_roundw
   case rel=>exact ⟨i + 1,by omega,by omega,by go_num,hid (by rw [← fillD_set N i hi1 hlt,← hst.out];exact HK.out.set i _),hid (HB.out.setCell (p:=⟨g,i,none⟩) (by rw [hgE.out];exact Nat.le_refl _) _)⟩
   case measure=>simp [intOf];omega
  ·obtain rfl:i=N:=by omega
   clear hlt rf
   have K1:Hid (Bk wr g 3 (dV (startD0 i))):=hid (by rw [← fillD_full];exact HK.out)
   clear HK
   obtain ⟨N,rfl⟩:∃ N,N=i:=⟨i,rfl⟩
   clear hi1 hi r0
   go_wp2
   go_loopw [6] (fun cc wr=>∃ (i:Nat) (di:List Int),i≤N∧cc=.int .i64 i∧Hid (Bk wr g 3 (dV di))∧Hid (Below w.heap.size w wr)∧Hid (R=goD l (N - i) i di)∧Hid (di.length=N)∧Hid (∀ j,-1≤dAt di j∧dAt di j≤8)) (fun cc _=>N - (intOf cc).toNat)
   case atStart=>exact ⟨0,startD0 N,Nat.zero_le _,rfl,K1,HB,hR',hid (startD0_length N),hid (startD0_bounds N)⟩
   case round=>
    clear K1 HB hR'
    obtain ⟨i,di,hi,rfl,HK,HB,HR,HL,HD⟩:=hrel
    have r0:=HK.out.lt
    by_cases hlt:i < N
    ·have d1:(i:Int) < (N:Int):=by omega
     have d2:(i:Int) < (c:Int):=by omega
     have x0:=bk_dV HK.out (i:=i) (by rw [HL.out];exact hlt)
     have hR2:=HR.out
     rw [show N - i=(N - (i + 1)) + 1 by omega,goD,insD] at hR2
     have HDi:=HD.out i
     have H0:=hid (rfl:dAt di i=dAt di i)
     by_cases hneg:dAt di i < 0
     ·rw [if_pos hneg] at hR2
      simp only at hR2
      have HR3:=hid hR2
      have e1:decide (dAt di i < 0)=true:=decide_eq_true hneg
      clear hR2
      generalize dAt di i=dp at *
      go_wp2
      go_roundw
      case rel=>exact ⟨i + 1,di,by omega,by go_num,HK,HB,HR3,HL,HD⟩
      case measure=>simp [intOf];omega
     ·rw [if_neg hneg] at hR2
      obtain ⟨b,off,rfl,hbl,y0,y1,y2⟩:=(h'.out.below HB.out).cellAt (j:=i) (by rw [hl'.out];exact hlt)
      have e1:decide (dAt di i < 0)=false:=decide_eq_false hneg
      have hof:=on_off (insAt l i).op
      have hmv:=hid (fun W=>rmoves_any (insAt l i).op W)
      have hgw:=hid (Nat.le_of_eq hgE.out.symm)
      obtain ⟨⟨op,xa,xb⟩,hx⟩:∃ x,x=insAt l i:=⟨_,rfl⟩
      rw [hl'.out] at hR2
      rw [← hx] at hR2 y0 y1 y2 hof hmv
      clear hx
      simp only at hR2 y0 y1 y2 hof hmv
      obtain ⟨fo,hfo⟩:∃ fo,fo=offN op:=⟨_,rfl⟩
      obtain ⟨po,hpo⟩:∃ po,po=onN op:=⟨_,rfl⟩
      rw [← hfo,← hpo] at hR2 hof hmv
      clear hfo hpo
      obtain ⟨dp,hdp⟩:∃ dp,dp=dAt di i:=⟨_,rfl⟩
      have HDP:Hid (dAt di i=dp):=hid hdp.symm
      rw [← hdp] at hR2 HDi x0 e1 hneg
      clear hdp H0
      have q1:IntKind.i64.wrap (dp - (fo:Int))=dp - (fo:Int):=IntWalk.i64_in _ (by omega)
      obtain ⟨v,hv⟩:∃ v,v=dp - (fo:Int) + (po:Int):=⟨_,rfl⟩
      rw [← hv] at hR2
      have q2:IntKind.i64.wrap (dp - (fo:Int) + (po:Int))=v:=by rw [← hv];exact IntWalk.i64_in _ (by omega)
      by_cases hb1:dp < (fo:Int)
      ·rw [if_pos (.inl hb1)] at hR2
       simp only at hR2
       subst hR2
       have e2:decide (dp < (fo:Int))=true:=decide_eq_true hb1
       clear hv
       go_wp2_with (go_at_call 96;go_must ((with_reducible refine (hmv.out _).mono ?_);rintro e w2 ⟨rfl,rfl⟩))
       go_ret2
       exact ⟨rfl,HB.out⟩
      ·have e2:decide (dp < (fo:Int))=false:=decide_eq_false hb1
       by_cases hb2:8 < v
       ·rw [if_pos (.inr hb2)] at hR2
        simp only at hR2
        subst hR2
        have e3:decide (8 < v)=true:=decide_eq_true hb2
        clear hv
        go_wp2_with (go_at_call 96;go_must ((with_reducible refine (hmv.out _).mono ?_);rintro e w2 ⟨rfl,rfl⟩))
        go_ret2
        exact ⟨rfl,HB.out⟩
       have e3:decide (8 < v)=false:=decide_eq_false hb2
       rw [if_neg (fun h=>h.elim hb1 hb2)] at hR2
       have hv0:0≤v∧v≤8:=by omega
       have HN0:Hid (R=nextD l N i v (waysN ⟨op,xa,xb⟩) di):=hid hR2
       clear hv hR2 HR hneg hb1 hb2
       -- WAYS BEGIN
       rcases wayCases op with rfl | rfl | rfl | rfl | ⟨k1,k2,k3,k4⟩
       ·have f0:((16:Int) == 17)=false:=rfl
        have f1:((16:Int) == 16)=true:=rfl
        have HR3:Hid (R=goD l (N - (i + 1)) (i + 1) di):=hid (by rw [HN0.out,ways_end _ (.inl rfl),nextD_nil])
        clear HN0
        go_wp2_with (go_at_call 96;go_must ((with_reducible refine (hmv.out _).mono ?_);rintro e w2 ⟨rfl,rfl⟩))
        clear hmv
        go_loopw [10] (fun cc wi=>cc=.int .i64 0∧wi=wr) (fun _ _=>0)
        case atStart=>exact ⟨rfl,rfl⟩
        case round=>
         obtain ⟨rfl,rfl⟩:=hrel
         go_wp2
         go_roundw
         case rel=>exact ⟨i + 1,di,by omega,by go_num,HK,HB,HR3,HL,HD⟩
         case measure=>simp [intOf];omega
       ·have f0:((17:Int) == 17)=true:=rfl
        have HR3:Hid (R=goD l (N - (i + 1)) (i + 1) di):=hid (by rw [HN0.out,ways_end _ (.inr rfl),nextD_nil])
        clear HN0
        go_wp2_with (go_at_call 96;go_must ((with_reducible refine (hmv.out _).mono ?_);rintro e w2 ⟨rfl,rfl⟩))
        clear hmv
        go_loopw [10] (fun cc wi=>cc=.int .i64 0∧wi=wr) (fun _ _=>0)
        case atStart=>exact ⟨rfl,rfl⟩
        case round=>
         obtain ⟨rfl,rfl⟩:=hrel
         go_wp2
         go_roundw
         case rel=>exact ⟨i + 1,di,by omega,by go_num,HK,HB,HR3,HL,HD⟩
         case measure=>simp [intOf];omega
       ·rw [ways_go _ rfl] at HN0
        have f0:((14:Int) == 17)=false:=rfl
        have f1:((14:Int) == 16)=false:=rfl
        have f2:((14:Int) == 14)=true:=rfl
        go_wp2_with (go_at_call 96;go_must ((with_reducible refine (hmv.out _).mono ?_);rintro e w2 ⟨rfl,rfl⟩))
        clear hmv
        have WI0:=hid (ways_newIn ([xa]) wr)
        have BW0:=hid (below_alloc1 wr (.cells (([xa]).map (.int .i64)).toArray 3))
        have hgb:Hid (∀ b off,(some ⟨wr.heap.size,0,none⟩:Option Addr)=some ⟨b,off,none⟩→b≠g):=hid (fun b off h=>by injection h with h;injection h with h;omega)
        simp only [List.map_cons,List.map_nil] at WI0 BW0
        obtain ⟨W9,hW9⟩:∃ W9,W9=wr.alloc (.cells #[.int .i64 xa] 3):=⟨_,rfl⟩
        have WI:Hid (WaysIn wr W9 (some ⟨wr.heap.size,0,none⟩) 1 ([xa])):=hid (by rw [hW9];exact WI0.out)
        have BW:Hid (Below wr.heap.size wr W9):=hid (by rw [hW9];exact BW0.out)
        rw [← hW9]
        clear WI0 BW0 hW9
        obtain ⟨A9,hA9⟩:∃ A9:Option Addr,A9=some ⟨wr.heap.size,0,none⟩:=⟨_,rfl⟩
        rw [← hA9] at WI hgb ⊢
        clear hA9
        go_loopw [10] (fun cc wi=>∃ (k:Nat) (dk:List Int),k≤1∧cc=.int .i64 k∧Hid (Bk wi g 3 (dV dk))∧Hid (But g W9 wi)∧Hid (R=nextD l N i v ([xa].drop k) dk)∧Hid (dk.length=N)∧Hid (∀ j,-1≤dAt dk j∧dAt dk j≤8)∧Hid (dAt dk i=dp)) (fun cc _=>1 - (intOf cc).toNat)
        case atStart=>exact ⟨0,di,Nat.zero_le _,rfl,hid (HK.out.below BW.out),hid (But.refl _ _),HN0,HL,HD,HDP⟩
        case round=>
         clear HN0 HK HL HD HDP x0
         obtain ⟨k,dk,hkl,rfl,HK,HB9,HW,HL,HD,HDP⟩:=hrel
         have z0:=HK.out.lt
         have x0:=bk_dV HK.out (i:=i) (by rw [HL.out];exact hlt)
         rw [HDP.out] at x0
         by_cases hkt:k < 1
         ·have d3:(k:Int) < 1:=by omega
          obtain ⟨b9,off9,rfl,hbl9,y9⟩:=WI.out.1.cellAt (j:=k) hkt
          have hng:=hgb.out b9 off9 rfl
          have y8:=(HB9.out.cell b9 (off9 + k) hbl9 hng).trans y9
          clear y9
          have HW':=HW.out
          rw [drop_cons (l:=[xa]) hkt] at HW'
          obtain ⟨wy,hwy'⟩:∃ wy,wy=([xa])[k]?.getD 0:=⟨_,rfl⟩
          rw [← hwy'] at HW' y8
          clear hwy'
          by_cases h0:wy < 0
          ·rw [nextD_jump (.inl h0)] at HW'
           subst HW'
           go_wp2
           go_ret2
           exact ⟨rfl,HB9.out.below (bnext HB.out BW.out) hgw.out (bnext HB.out BW.out).size⟩
          ·by_cases h3:(N:Int) - (i:Int) - 1≤wy
           ·rw [nextD_jump (.inr h3)] at HW'
            subst HW'
            have e4:decide ((N:Int) - (i:Int) - 1≤wy)=true:=decide_eq_true h3
            go_wp2
            go_ret2
            exact ⟨rfl,HB9.out.below (bnext HB.out BW.out) hgw.out (bnext HB.out BW.out).size⟩
           ·obtain ⟨kk,rfl⟩:=Int.eq_ofNat_of_zero_le (show 0≤wy by omega)
            have hkk:i + 1 + kk < N:=by omega
            have e4:decide ((N:Int) - (i:Int) - 1≤(kk:Int))=false:=decide_eq_false h3
            have q3:IntKind.i64.wrap ((i:Int) + 1 + (kk:Int))=(i:Int) + 1 + (kk:Int):=IntWalk.i64_in _ (by omega)
            have q4:((i:Int) + 1 + (kk:Int)).toNat=i + 1 + kk:=by omega
            have q5:(0:Int)≤(i:Int) + 1 + (kk:Int):=by omega
            have q6:(i:Int) + 1 + (kk:Int) < (N:Int):=by omega
            have q7:(i:Int) < (N:Int):=by omega
            have u0:=bk_dV HK.out (i:=i + 1 + kk) (by rw [HL.out];exact hkk)
            have uf:=HK.out.frozen (i + 1 + kk)
            have HY:=hid (rfl:dAt dk (i + 1 + kk)=dAt dk (i + 1 + kk))
            by_cases hs:0≤dAt dk (i + 1 + kk)∧dAt dk (i + 1 + kk)≠v
            ·rw [nextD_stack h0 h3 hs] at HW'
             subst HW'
             obtain ⟨hs1,hs2⟩:=hs
             have e5:decide (0≤dAt dk (i + 1 + kk))=true:=decide_eq_true hs1
             have e6:(dAt dk (i + 1 + kk) != v)=true:=by simpa using hs2
             clear HY
             generalize dAt dk (i + 1 + kk)=y at *
             go_wp2
             go_quiet (fail)
             go_wp2
             go_ret2
             exact ⟨rfl,bnext (HB9.out.below (bnext HB.out BW.out) hgw.out (bnext HB.out BW.out).size) (drewR _ _)⟩
            ·rw [nextD_ok h0 h3 hs] at HW'
             have HW2:=hid HW'
             have HL2:Hid ((dk.set (i + 1 + kk) v).length=N):=hid (by rw [List.length_set];exact HL.out)
             have HD2:Hid (∀ j,-1≤dAt (dk.set (i + 1 + kk) v) j∧dAt (dk.set (i + 1 + kk) v) j≤8):=hid (fun j=>by
              by_cases e:i + 1 + kk=j
              ·subst e;rw [dAt_set_same (by rw [HL.out];exact hkk)];omega
              ·rw [dAt_set_ne e];exact HD.out j)
             have HDP2:Hid (dAt (dk.set (i + 1 + kk) v) i=dp):=hid (by rw [dAt_set_ne (by omega)];exact HDP.out)
             have hset:=hid (dV_set dk (i + 1 + kk) v)
             clear HW' HY
             by_cases hs1:0≤dAt dk (i + 1 + kk)
             ·have e5:decide (0≤dAt dk (i + 1 + kk))=true:=decide_eq_true hs1
              have e6:(dAt dk (i + 1 + kk) != v)=false:=by
               have:dAt dk (i + 1 + kk)=v:=Classical.byContradiction fun h=>hs ⟨hs1,h⟩
               simp [this]
              clear hs
              generalize dAt dk (i + 1 + kk)=y at *
              go_wp2
              go_quiet (fail)
              go_wp2
              go_roundw
              case rel=>exact ⟨k + 1,_,by omega,by go_num,hid (by rw [← hset.out];exact (HK.out.below (drewR _ _)).set _ _),hid ((HB9.out.trans (But.of_below (drewR _ _))).trans (But.set _ _ _)),HW2,HL2,HD2,HDP2⟩
              case measure=>simp [intOf];omega
             ·have e5:decide (0≤dAt dk (i + 1 + kk))=false:=decide_eq_false hs1
              clear hs
              generalize dAt dk (i + 1 + kk)=y at *
              go_wp2
              go_quiet (fail)
              go_wp2
              go_roundw
              case rel=>exact ⟨k + 1,_,by omega,by go_num,hid (by rw [← hset.out];exact (HK.out.below (drewR _ _)).set _ _),hid ((HB9.out.trans (But.of_below (drewR _ _))).trans (But.set _ _ _)),HW2,HL2,HD2,HDP2⟩
              case measure=>simp [intOf];omega
         ·obtain rfl:k=1:=by omega
          have HW':=HW.out
          rw [show ([xa]).drop 1=[] from rfl,nextD_nil] at HW'
          have HR3:=hid HW'
          clear hkt HW'
          go_wp2
          go_roundw
          case rel=>exact ⟨i + 1,dk,by omega,by go_num,HK,hid (HB9.out.below (bnext HB.out BW.out) hgw.out (bnext HB.out BW.out).size),HR3,HL,HD⟩
          case measure=>simp [intOf];omega
       ·rw [ways_skip _ rfl] at HN0
        have f0:((13:Int) == 17)=false:=rfl
        have f1:((13:Int) == 16)=false:=rfl
        have f2:((13:Int) == 14)=false:=rfl
        have f3:((13:Int) == 13)=true:=rfl
        go_wp2_with (go_at_call 96;go_must ((with_reducible refine (hmv.out _).mono ?_);rintro e w2 ⟨rfl,rfl⟩))
        clear hmv
        have WI0:=hid (ways_newIn ([0,xa]) wr)
        have BW0:=hid (below_alloc1 wr (.cells (([0,xa]).map (.int .i64)).toArray 3))
        have hgb:Hid (∀ b off,(some ⟨wr.heap.size,0,none⟩:Option Addr)=some ⟨b,off,none⟩→b≠g):=hid (fun b off h=>by injection h with h;injection h with h;omega)
        simp only [List.map_cons,List.map_nil] at WI0 BW0
        obtain ⟨W9,hW9⟩:∃ W9,W9=wr.alloc (.cells #[.int .i64 0,.int .i64 xa] 3):=⟨_,rfl⟩
        have WI:Hid (WaysIn wr W9 (some ⟨wr.heap.size,0,none⟩) 2 ([0,xa])):=hid (by rw [hW9];exact WI0.out)
        have BW:Hid (Below wr.heap.size wr W9):=hid (by rw [hW9];exact BW0.out)
        rw [← hW9]
        clear WI0 BW0 hW9
        obtain ⟨A9,hA9⟩:∃ A9:Option Addr,A9=some ⟨wr.heap.size,0,none⟩:=⟨_,rfl⟩
        rw [← hA9] at WI hgb ⊢
        clear hA9
        go_loopw [10] (fun cc wi=>∃ (k:Nat) (dk:List Int),k≤2∧cc=.int .i64 k∧Hid (Bk wi g 3 (dV dk))∧Hid (But g W9 wi)∧Hid (R=nextD l N i v ([0,xa].drop k) dk)∧Hid (dk.length=N)∧Hid (∀ j,-1≤dAt dk j∧dAt dk j≤8)∧Hid (dAt dk i=dp)) (fun cc _=>2 - (intOf cc).toNat)
        case atStart=>exact ⟨0,di,Nat.zero_le _,rfl,hid (HK.out.below BW.out),hid (But.refl _ _),HN0,HL,HD,HDP⟩
        case round=>
         clear HN0 HK HL HD HDP x0
         obtain ⟨k,dk,hkl,rfl,HK,HB9,HW,HL,HD,HDP⟩:=hrel
         have z0:=HK.out.lt
         have x0:=bk_dV HK.out (i:=i) (by rw [HL.out];exact hlt)
         rw [HDP.out] at x0
         by_cases hkt:k < 2
         ·have d3:(k:Int) < 2:=by omega
          obtain ⟨b9,off9,rfl,hbl9,y9⟩:=WI.out.1.cellAt (j:=k) hkt
          have hng:=hgb.out b9 off9 rfl
          have y8:=(HB9.out.cell b9 (off9 + k) hbl9 hng).trans y9
          clear y9
          have HW':=HW.out
          rw [drop_cons (l:=[0,xa]) hkt] at HW'
          obtain ⟨wy,hwy'⟩:∃ wy,wy=([0,xa])[k]?.getD 0:=⟨_,rfl⟩
          rw [← hwy'] at HW' y8
          clear hwy'
          by_cases h0:wy < 0
          ·rw [nextD_jump (.inl h0)] at HW'
           subst HW'
           go_wp2
           go_ret2
           exact ⟨rfl,HB9.out.below (bnext HB.out BW.out) hgw.out (bnext HB.out BW.out).size⟩
          ·by_cases h3:(N:Int) - (i:Int) - 1≤wy
           ·rw [nextD_jump (.inr h3)] at HW'
            subst HW'
            have e4:decide ((N:Int) - (i:Int) - 1≤wy)=true:=decide_eq_true h3
            go_wp2
            go_ret2
            exact ⟨rfl,HB9.out.below (bnext HB.out BW.out) hgw.out (bnext HB.out BW.out).size⟩
           ·obtain ⟨kk,rfl⟩:=Int.eq_ofNat_of_zero_le (show 0≤wy by omega)
            have hkk:i + 1 + kk < N:=by omega
            have e4:decide ((N:Int) - (i:Int) - 1≤(kk:Int))=false:=decide_eq_false h3
            have q3:IntKind.i64.wrap ((i:Int) + 1 + (kk:Int))=(i:Int) + 1 + (kk:Int):=IntWalk.i64_in _ (by omega)
            have q4:((i:Int) + 1 + (kk:Int)).toNat=i + 1 + kk:=by omega
            have q5:(0:Int)≤(i:Int) + 1 + (kk:Int):=by omega
            have q6:(i:Int) + 1 + (kk:Int) < (N:Int):=by omega
            have q7:(i:Int) < (N:Int):=by omega
            have u0:=bk_dV HK.out (i:=i + 1 + kk) (by rw [HL.out];exact hkk)
            have uf:=HK.out.frozen (i + 1 + kk)
            have HY:=hid (rfl:dAt dk (i + 1 + kk)=dAt dk (i + 1 + kk))
            by_cases hs:0≤dAt dk (i + 1 + kk)∧dAt dk (i + 1 + kk)≠v
            ·rw [nextD_stack h0 h3 hs] at HW'
             subst HW'
             obtain ⟨hs1,hs2⟩:=hs
             have e5:decide (0≤dAt dk (i + 1 + kk))=true:=decide_eq_true hs1
             have e6:(dAt dk (i + 1 + kk) != v)=true:=by simpa using hs2
             clear HY
             generalize dAt dk (i + 1 + kk)=y at *
             go_wp2
             go_quiet (fail)
             go_wp2
             go_ret2
             exact ⟨rfl,bnext (HB9.out.below (bnext HB.out BW.out) hgw.out (bnext HB.out BW.out).size) (drewR _ _)⟩
            ·rw [nextD_ok h0 h3 hs] at HW'
             have HW2:=hid HW'
             have HL2:Hid ((dk.set (i + 1 + kk) v).length=N):=hid (by rw [List.length_set];exact HL.out)
             have HD2:Hid (∀ j,-1≤dAt (dk.set (i + 1 + kk) v) j∧dAt (dk.set (i + 1 + kk) v) j≤8):=hid (fun j=>by
              by_cases e:i + 1 + kk=j
              ·subst e;rw [dAt_set_same (by rw [HL.out];exact hkk)];omega
              ·rw [dAt_set_ne e];exact HD.out j)
             have HDP2:Hid (dAt (dk.set (i + 1 + kk) v) i=dp):=hid (by rw [dAt_set_ne (by omega)];exact HDP.out)
             have hset:=hid (dV_set dk (i + 1 + kk) v)
             clear HW' HY
             by_cases hs1:0≤dAt dk (i + 1 + kk)
             ·have e5:decide (0≤dAt dk (i + 1 + kk))=true:=decide_eq_true hs1
              have e6:(dAt dk (i + 1 + kk) != v)=false:=by
               have:dAt dk (i + 1 + kk)=v:=Classical.byContradiction fun h=>hs ⟨hs1,h⟩
               simp [this]
              clear hs
              generalize dAt dk (i + 1 + kk)=y at *
              go_wp2
              go_quiet (fail)
              go_wp2
              go_roundw
              case rel=>exact ⟨k + 1,_,by omega,by go_num,hid (by rw [← hset.out];exact (HK.out.below (drewR _ _)).set _ _),hid ((HB9.out.trans (But.of_below (drewR _ _))).trans (But.set _ _ _)),HW2,HL2,HD2,HDP2⟩
              case measure=>simp [intOf];omega
             ·have e5:decide (0≤dAt dk (i + 1 + kk))=false:=decide_eq_false hs1
              clear hs
              generalize dAt dk (i + 1 + kk)=y at *
              go_wp2
              go_quiet (fail)
              go_wp2
              go_roundw
              case rel=>exact ⟨k + 1,_,by omega,by go_num,hid (by rw [← hset.out];exact (HK.out.below (drewR _ _)).set _ _),hid ((HB9.out.trans (But.of_below (drewR _ _))).trans (But.set _ _ _)),HW2,HL2,HD2,HDP2⟩
              case measure=>simp [intOf];omega
         ·obtain rfl:k=2:=by omega
          have HW':=HW.out
          rw [show ([0,xa]).drop 2=[] from rfl,nextD_nil] at HW'
          have HR3:=hid HW'
          clear hkt HW'
          go_wp2
          go_roundw
          case rel=>exact ⟨i + 1,dk,by omega,by go_num,HK,hid (HB9.out.below (bnext HB.out BW.out) hgw.out (bnext HB.out BW.out).size),HR3,HL,HD⟩
          case measure=>simp [intOf];omega
       ·rw [ways_else _ ⟨k1,k2,k3,k4⟩] at HN0
        have f0:(op == 17)=false:=by simp;omega
        have f1:(op == 16)=false:=by simp;omega
        have f2:(op == 14)=false:=by simp;omega
        have f3:(op == 13)=false:=by simp;omega
        go_wp2_with (go_at_call 96;go_must ((with_reducible refine (hmv.out _).mono ?_);rintro e w2 ⟨rfl,rfl⟩))
        clear hmv
        have WI0:=hid (ways_newIn (([0]:List Int)) wr)
        have BW0:=hid (below_alloc1 wr (.cells ((([0]:List Int)).map (.int .i64)).toArray 3))
        have hgb:Hid (∀ b off,(some ⟨wr.heap.size,0,none⟩:Option Addr)=some ⟨b,off,none⟩→b≠g):=hid (fun b off h=>by injection h with h;injection h with h;omega)
        simp only [List.map_cons,List.map_nil] at WI0 BW0
        obtain ⟨W9,hW9⟩:∃ W9,W9=wr.alloc (.cells #[.int .i64 0] 3):=⟨_,rfl⟩
        have WI:Hid (WaysIn wr W9 (some ⟨wr.heap.size,0,none⟩) 1 (([0]:List Int))):=hid (by rw [hW9];exact WI0.out)
        have BW:Hid (Below wr.heap.size wr W9):=hid (by rw [hW9];exact BW0.out)
        rw [← hW9]
        clear WI0 BW0 hW9
        obtain ⟨A9,hA9⟩:∃ A9:Option Addr,A9=some ⟨wr.heap.size,0,none⟩:=⟨_,rfl⟩
        rw [← hA9] at WI hgb ⊢
        clear hA9
        go_loopw [10] (fun cc wi=>∃ (k:Nat) (dk:List Int),k≤1∧cc=.int .i64 k∧Hid (Bk wi g 3 (dV dk))∧Hid (But g W9 wi)∧Hid (R=nextD l N i v (([0]:List Int).drop k) dk)∧Hid (dk.length=N)∧Hid (∀ j,-1≤dAt dk j∧dAt dk j≤8)∧Hid (dAt dk i=dp)) (fun cc _=>1 - (intOf cc).toNat)
        case atStart=>exact ⟨0,di,Nat.zero_le _,rfl,hid (HK.out.below BW.out),hid (But.refl _ _),HN0,HL,HD,HDP⟩
        case round=>
         clear HN0 HK HL HD HDP x0
         obtain ⟨k,dk,hkl,rfl,HK,HB9,HW,HL,HD,HDP⟩:=hrel
         have z0:=HK.out.lt
         have x0:=bk_dV HK.out (i:=i) (by rw [HL.out];exact hlt)
         rw [HDP.out] at x0
         by_cases hkt:k < 1
         ·have d3:(k:Int) < 1:=by omega
          obtain ⟨b9,off9,rfl,hbl9,y9⟩:=WI.out.1.cellAt (j:=k) hkt
          have hng:=hgb.out b9 off9 rfl
          have y8:=(HB9.out.cell b9 (off9 + k) hbl9 hng).trans y9
          clear y9
          have HW':=HW.out
          rw [drop_cons (l:=([0]:List Int)) hkt] at HW'
          obtain ⟨wy,hwy'⟩:∃ wy,wy=(([0]:List Int))[k]?.getD 0:=⟨_,rfl⟩
          rw [← hwy'] at HW' y8
          clear hwy'
          by_cases h0:wy < 0
          ·rw [nextD_jump (.inl h0)] at HW'
           subst HW'
           go_wp2
           go_ret2
           exact ⟨rfl,HB9.out.below (bnext HB.out BW.out) hgw.out (bnext HB.out BW.out).size⟩
          ·by_cases h3:(N:Int) - (i:Int) - 1≤wy
           ·rw [nextD_jump (.inr h3)] at HW'
            subst HW'
            have e4:decide ((N:Int) - (i:Int) - 1≤wy)=true:=decide_eq_true h3
            go_wp2
            go_ret2
            exact ⟨rfl,HB9.out.below (bnext HB.out BW.out) hgw.out (bnext HB.out BW.out).size⟩
           ·obtain ⟨kk,rfl⟩:=Int.eq_ofNat_of_zero_le (show 0≤wy by omega)
            have hkk:i + 1 + kk < N:=by omega
            have e4:decide ((N:Int) - (i:Int) - 1≤(kk:Int))=false:=decide_eq_false h3
            have q3:IntKind.i64.wrap ((i:Int) + 1 + (kk:Int))=(i:Int) + 1 + (kk:Int):=IntWalk.i64_in _ (by omega)
            have q4:((i:Int) + 1 + (kk:Int)).toNat=i + 1 + kk:=by omega
            have q5:(0:Int)≤(i:Int) + 1 + (kk:Int):=by omega
            have q6:(i:Int) + 1 + (kk:Int) < (N:Int):=by omega
            have q7:(i:Int) < (N:Int):=by omega
            have u0:=bk_dV HK.out (i:=i + 1 + kk) (by rw [HL.out];exact hkk)
            have uf:=HK.out.frozen (i + 1 + kk)
            have HY:=hid (rfl:dAt dk (i + 1 + kk)=dAt dk (i + 1 + kk))
            by_cases hs:0≤dAt dk (i + 1 + kk)∧dAt dk (i + 1 + kk)≠v
            ·rw [nextD_stack h0 h3 hs] at HW'
             subst HW'
             obtain ⟨hs1,hs2⟩:=hs
             have e5:decide (0≤dAt dk (i + 1 + kk))=true:=decide_eq_true hs1
             have e6:(dAt dk (i + 1 + kk) != v)=true:=by simpa using hs2
             clear HY
             generalize dAt dk (i + 1 + kk)=y at *
             go_wp2
             go_quiet (fail)
             go_wp2
             go_ret2
             exact ⟨rfl,bnext (HB9.out.below (bnext HB.out BW.out) hgw.out (bnext HB.out BW.out).size) (drewR _ _)⟩
            ·rw [nextD_ok h0 h3 hs] at HW'
             have HW2:=hid HW'
             have HL2:Hid ((dk.set (i + 1 + kk) v).length=N):=hid (by rw [List.length_set];exact HL.out)
             have HD2:Hid (∀ j,-1≤dAt (dk.set (i + 1 + kk) v) j∧dAt (dk.set (i + 1 + kk) v) j≤8):=hid (fun j=>by
              by_cases e:i + 1 + kk=j
              ·subst e;rw [dAt_set_same (by rw [HL.out];exact hkk)];omega
              ·rw [dAt_set_ne e];exact HD.out j)
             have HDP2:Hid (dAt (dk.set (i + 1 + kk) v) i=dp):=hid (by rw [dAt_set_ne (by omega)];exact HDP.out)
             have hset:=hid (dV_set dk (i + 1 + kk) v)
             clear HW' HY
             by_cases hs1:0≤dAt dk (i + 1 + kk)
             ·have e5:decide (0≤dAt dk (i + 1 + kk))=true:=decide_eq_true hs1
              have e6:(dAt dk (i + 1 + kk) != v)=false:=by
               have:dAt dk (i + 1 + kk)=v:=Classical.byContradiction fun h=>hs ⟨hs1,h⟩
               simp [this]
              clear hs
              generalize dAt dk (i + 1 + kk)=y at *
              go_wp2
              go_quiet (fail)
              go_wp2
              go_roundw
              case rel=>exact ⟨k + 1,_,by omega,by go_num,hid (by rw [← hset.out];exact (HK.out.below (drewR _ _)).set _ _),hid ((HB9.out.trans (But.of_below (drewR _ _))).trans (But.set _ _ _)),HW2,HL2,HD2,HDP2⟩
              case measure=>simp [intOf];omega
             ·have e5:decide (0≤dAt dk (i + 1 + kk))=false:=decide_eq_false hs1
              clear hs
              generalize dAt dk (i + 1 + kk)=y at *
              go_wp2
              go_quiet (fail)
              go_wp2
              go_roundw
              case rel=>exact ⟨k + 1,_,by omega,by go_num,hid (by rw [← hset.out];exact (HK.out.below (drewR _ _)).set _ _),hid ((HB9.out.trans (But.of_below (drewR _ _))).trans (But.set _ _ _)),HW2,HL2,HD2,HDP2⟩
              case measure=>simp [intOf];omega
         ·obtain rfl:k=1:=by omega
          have HW':=HW.out
          rw [show (([0]:List Int)).drop 1=[] from rfl,nextD_nil] at HW'
          have HR3:=hid HW'
          clear hkt HW'
          go_wp2
          go_roundw
          case rel=>exact ⟨i + 1,dk,by omega,by go_num,HK,hid (HB9.out.below (bnext HB.out BW.out) hgw.out (bnext HB.out BW.out).size),HR3,HL,HD⟩
          case measure=>simp [intOf];omega
       -- WAYS END
    ·obtain rfl:i=N:=by omega
     have HR2:=HR.out
     rw [Nat.sub_self,goD] at HR2
     subst HR2
     clear hlt
     go_wp2
     go_ret2
     exact ⟨g,by rw [hgE.out];exact Nat.le_refl _,rfl,HK.out,HB.out⟩
end
section
open Go.RowKit
theorem rtakes_any (op:Int) (w:World) :
  Calls Tryz.prog 95 #[.int .i64 op] w fun e w'=>e=.returned (.int .i64 (takesN op:Nat))∧w=w':=by
 by_cases h:op=4∨op=5∨op=1∨op=2∨op=3∨op=6∨op=13∨op=14
 ·rcases h with rfl | rfl | rfl | rfl | rfl | rfl | rfl | rfl <;>
  ·go_enter Tryz.func95,Tryz.ntmps95
   go_wp2
   go_ret
   exact ⟨rfl,rfl⟩
 ·have hz:takesN op=0:=by unfold takesN;rw [if_neg (by omega),if_neg (by omega)]
  have e0:(op == 4)=false:=by simp;omega
  have e1:(op == 5)=false:=by simp;omega
  have e2:(op == 1)=false:=by simp;omega
  have e3:(op == 2)=false:=by simp;omega
  have e4:(op == 3)=false:=by simp;omega
  have e5:(op == 6)=false:=by simp;omega
  have e6:(op == 13)=false:=by simp;omega
  have e7:(op == 14)=false:=by simp;omega
  rw [hz]
  clear h hz
  go_enter Tryz.func95,Tryz.ntmps95
  go_wp2
  go_ret
  exact ⟨rfl,rfl⟩
end
section
open Go.RowKit
theorem nought_or (n : Int) : n = 0 ∨ (¬ n = 0 ∧ (n == 0) = false) := by
  by_cases h : n = 0
  · exact .inl h
  · exact .inr ⟨h, by simp [h]⟩
theorem insRright_any (x : Ins) (b : Bool) (hb : decide (rightN x) = b) (w : World) :
    Calls Tryz.prog 54 #[.agg #[.int .i64 x.op, .int .i64 x.a, .int .i64 x.b]] w fun e w' => e = .returned (.bool b) ∧ Below w.heap.size w w' := by
  have htk : Hid (∀ W : World, _) := hid (fun W => rtakes_any x.op W)
  have hr : rightN x ↔ ((1 ≤ x.op ∧ x.op ≤ 17) ∧ (0 < takesN x.op ∨ x.a = 0) ∧ (1 < takesN x.op ∨ x.b = 0)) := Iff.rfl
  have ht2 := takes_two x.op
  have hl : Below w.heap.size w (w.alloc (.cells #[.int .i64 x.op, .int .i64 x.a, .int .i64 x.b] 72)) := (Below.refl _ _).alloc (Nat.le_refl _) _
  generalize takesN x.op = tk at *
  obtain ⟨tz, htz⟩ : ∃ tz : Int, tz = tk := ⟨_, rfl⟩
  rw [← htz] at htk
  by_cases h1 : 1 ≤ x.op
  · by_cases h2 : x.op ≤ 17
    · rcases ht2 with rfl | rfl | rfl
      all_goals
        rcases nought_or x.a with ha | ⟨ha, ea⟩
        all_goals
          rcases nought_or x.b with hbb | ⟨hbb, eb⟩
          all_goals
            cases b
            all_goals
              first
                | (simp [hr, h1, h2, ha, hbb] at hb; done)
                | (first
                    | obtain rfl : tz = 0 := htz
                    | obtain rfl : tz = 1 := htz
                    | obtain rfl : tz = 2 := htz
                   clear hb hr hl
                   go_enter Tryz.func54, Tryz.ntmps54
                   go_wp2_with (go_at_call 95; go_must ((with_reducible refine (htk.out _).mono ?_); rintro e w1 ⟨rfl, rfl⟩))
                   go_ret
                   exact ⟨rfl, (Below.refl _ _).alloc (Nat.le_refl _) _⟩)
    · obtain rfl : false = b := by rw [← hb, decide_eq_false (fun h => h2 (hr.1 h).1.2)]
      clear hb hr
      go_enter Tryz.func54, Tryz.ntmps54
      go_wp2_with (go_at_call 95; go_must ((with_reducible refine (htk.out _).mono ?_); rintro e w1 ⟨rfl, rfl⟩))
      go_ret
      exact ⟨rfl, hl⟩
  · obtain rfl : false = b := by rw [← hb, decide_eq_false (fun h => h1 (hr.1 h).1.1)]
    clear hb hr
    go_enter Tryz.func54, Tryz.ntmps54
    go_wp2_with (go_at_call 95; go_must ((with_reducible refine (htk.out _).mono ?_); rintro e w1 ⟨rfl, rfl⟩))
    go_ret
    exact ⟨rfl, hl⟩
end
section
open Go.RowKit
attribute [local go_sem] look findAt
attribute [local simp] depsOf isV Region.binds
section
variable (c:Cmd) (ra:Option Addr) (nr rc:Nat) (wa:Option Addr) (nw wc:Nat) (aa:Option Addr) (na ac:Nat) (ca:Option Addr) (nc cc:Nat)
theorem rfew_dec (w:World) (h:CmIn w c ra nr rc wa nw wc aa na ac ca nc cc):fewN c↔(nr + nw≤8∧na≤8∧1≤nc∧nc≤64∧1≤c.fuel∧c.fuel≤200):=by
 obtain ⟨rfl,rfl,rfl,rfl,-⟩:=h
 exact Iff.rfl
theorem rops_all (h:∀ j,j < c.code.length→rightN (insAt c.code j)∧boundsL c.reads.length c.writes.length c.args.length (insAt c.code j)):opsN c:=by
 intro x hx
 obtain ⟨j,hj,rfl⟩:=List.mem_iff_getElem.1 hx
 have:=h j hj
 rw [insAt,List.getElem?_eq_getElem hj] at this
 exact this
theorem rops_not {j:Nat} (hj:j < c.code.length) (h:¬ (rightN (insAt c.code j)∧boundsL c.reads.length c.writes.length c.args.length (insAt c.code j))):¬ opsN c:=by
 intro ho
 refine h ?_
 rw [insAt,List.getElem?_eq_getElem hj]
 exact ho _ (List.getElem_mem hj)
def checkZ:Nat:=if ¬ opsN c then 5 else if 8 < emitsN c.code then 4 else match depthsN c.code with
 | .ok _=>0
 | .error e=>e
theorem sets_all (h1:risesN c.reads 0) (h2:risesN c.writes 0) (h:∀ i,i < c.reads.length→∀ j,j < c.writes.length→c.reads[i]?.getD 0≠c.writes[j]?.getD 0):setsN c:=by
 refine ⟨h1,h2,fun x hx hy=>?_⟩
 obtain ⟨i,hi,rfl⟩:=List.mem_iff_getElem.1 hx
 obtain ⟨j,hj,hxy⟩:=List.mem_iff_getElem.1 hy
 have:=h i hi j hj
 rw [List.getElem?_eq_getElem hi,List.getElem?_eq_getElem hj] at this
 exact this hxy.symm
theorem sets_not {i j:Nat} (hi:i < c.reads.length) (hj:j < c.writes.length) (h:c.reads[i]?.getD 0=c.writes[j]?.getD 0):¬ setsN c:=by
 rintro ⟨-,-,h3⟩
 rw [List.getElem?_eq_getElem hi,List.getElem?_eq_getElem hj] at h
 simp only [Option.getD_some] at h
 exact h3 _ (List.getElem_mem hi) (by rw [h];exact List.getElem_mem hj)
theorem rcheck_few (w:World) (h:CmIn w c ra nr rc wa nw wc aa na ac ca nc cc) (hf:¬ fewN c) :
  Calls Tryz.prog 24 #[cmV ra nr rc wa nw wc aa na ac c.fuel ca nc cc] w fun e w'=>e=.returned (.int .i64 (4))∧Below w.heap.size w w':=by
 have B0:=hid (below_alloc1 w (CmObj ra nr rc wa nw wc aa na ac c.fuel ca nc cc))
 rw [rfew_dec c ra nr rc wa nw wc aa na ac ca nc cc w h] at hf
 have hbr:=h.br
 have hbw:=h.bw
 have hba:=h.ba
 have hbc:=h.bc
 clear h
 generalize c.fuel=fuel at *
 by_cases g0:nr + nw≤8
 rotate_left
 ·have e0:decide (8 < (nr:Int) + (nw:Int))=true:=decide_eq_true (by omega)
  clear hf
  go_enter Tryz.func24,Tryz.ntmps24
  go_wp2
  go_ret
  exact ⟨rfl,B0.out⟩
 have e0:decide (8 < (nr:Int) + (nw:Int))=false:=decide_eq_false (by omega)
 by_cases g1:na≤8
 rotate_left
 ·have e1:decide (8 < (na:Int))=true:=decide_eq_true (by omega)
  clear hf
  go_enter Tryz.func24,Tryz.ntmps24
  go_wp2
  go_ret
  exact ⟨rfl,B0.out⟩
 have e1:decide (8 < (na:Int))=false:=decide_eq_false (by omega)
 by_cases g2:1≤nc
 rotate_left
 ·have e2:decide ((nc:Int) < 1)=true:=decide_eq_true (by omega)
  clear hf
  go_enter Tryz.func24,Tryz.ntmps24
  go_wp2
  go_ret
  exact ⟨rfl,B0.out⟩
 have e2:decide ((nc:Int) < 1)=false:=decide_eq_false (by omega)
 by_cases g3:nc≤64
 rotate_left
 ·have e3:decide (64 < (nc:Int))=true:=decide_eq_true (by omega)
  clear hf
  go_enter Tryz.func24,Tryz.ntmps24
  go_wp2
  go_ret
  exact ⟨rfl,B0.out⟩
 have e3:decide (64 < (nc:Int))=false:=decide_eq_false (by omega)
 by_cases g4:1≤fuel
 rotate_left
 ·have e4:decide (fuel < 1)=true:=decide_eq_true (by omega)
  clear hf
  go_enter Tryz.func24,Tryz.ntmps24
  go_wp2
  go_ret
  exact ⟨rfl,B0.out⟩
 have e4:decide (fuel < 1)=false:=decide_eq_false (by omega)
 have e5:decide (200 < fuel)=true:=decide_eq_true (by omega)
 clear hf
 go_enter Tryz.func24,Tryz.ntmps24
 go_wp2
 go_ret
 exact ⟨rfl,B0.out⟩
theorem rcheck_rises (w:World) (h:CmIn w c ra nr rc wa nw wc aa na ac ca nc cc) (hf:fewN c) (hs:¬ (risesN c.reads 0∧risesN c.writes 0)) :
  Calls Tryz.prog 24 #[cmV ra nr rc wa nw wc aa na ac c.fuel ca nc cc] w fun e w'=>e=.returned (.int .i64 (8))∧Below w.heap.size w w':=by
 obtain ⟨f1,f2,f3,f4,f5,f6⟩:=(rfew_dec c ra nr rc wa nw wc aa na ac ca nc cc w h).1 hf
 have B0:=hid (below_alloc1 w (CmObj ra nr rc wa nw wc aa na ac c.fuel ca nc cc))
 have C0:Hid (Bk (w.alloc (CmObj ra nr rc wa nw wc aa na ac c.fuel ca nc cc)) w.heap.size 56 #[.slice ra nr rc,.slice wa nw wc,.slice aa na ac,.int .i64 c.fuel,.slice ca nc cc]):=hid (Bk.new w _ _)
 by_cases q1:risesN c.reads 0
 ·have p1:=hid (fun W (hW:Below w.heap.size w W)=>rrising_any c.reads ra nr rc W (h.reads.below hW) h.lr (by omega) true (decide_eq_true q1))
  have p2:=hid (fun W (hW:Below w.heap.size w W)=>rrising_any c.writes wa nw wc W (h.writes.below hW) h.lw (by omega) false (decide_eq_false (fun q=>hs ⟨q1,q⟩)))
  clear h hf hs q1
  generalize c.fuel=fuel at *
  have e0:decide (8 < (nr:Int) + (nw:Int))=false:=decide_eq_false (by omega)
  have e1:decide (8 < (na:Int))=false:=decide_eq_false (by omega)
  have e2:decide ((nc:Int) < 1)=false:=decide_eq_false (by omega)
  have e3:decide (64 < (nc:Int))=false:=decide_eq_false (by omega)
  have e4:decide (fuel < 1)=false:=decide_eq_false (by omega)
  have e5:decide (200 < fuel)=false:=decide_eq_false (by omega)
  go_enter Tryz.func24,Tryz.ntmps24
  go_wp2_with (first
   | (go_at_call 53;with_reducible refine (p1.out _ B0.out).mono ?_;rintro e w1 ⟨rfl,hb1⟩;have B1:=hid (bnext B0.out hb1);obtain ⟨c0,c1,c2,c3,c4,cf⟩:=(C0.out.below hb1).cmd;have cl:=(C0.out.below hb1).lt;have C1:=hid (C0.out.below hb1);clear hb1)
   | (go_at_call 53;go_must ((with_reducible refine (p2.out _ B1.out).mono ?_);rintro e w2 ⟨rfl,hb2⟩;have B2:=hid (bnext B1.out hb2);have C2:=hid (C1.out.below hb2);clear hb2)))
  go_ret
  exact ⟨rfl,B2.out⟩
 ·have p1:=hid (fun W (hW:Below w.heap.size w W)=>rrising_any c.reads ra nr rc W (h.reads.below hW) h.lr (by omega) false (decide_eq_false q1))
  clear h hf hs q1
  generalize c.fuel=fuel at *
  have e0:decide (8 < (nr:Int) + (nw:Int))=false:=decide_eq_false (by omega)
  have e1:decide (8 < (na:Int))=false:=decide_eq_false (by omega)
  have e2:decide ((nc:Int) < 1)=false:=decide_eq_false (by omega)
  have e3:decide (64 < (nc:Int))=false:=decide_eq_false (by omega)
  have e4:decide (fuel < 1)=false:=decide_eq_false (by omega)
  have e5:decide (200 < fuel)=false:=decide_eq_false (by omega)
  go_enter Tryz.func24,Tryz.ntmps24
  go_wp2_with ((go_at_call 53;with_reducible refine (p1.out _ B0.out).mono ?_;rintro e w1 ⟨rfl,hb1⟩;have B1:=hid (bnext B0.out hb1);obtain ⟨c0,c1,c2,c3,c4,cf⟩:=(C0.out.below hb1).cmd;have cl:=(C0.out.below hb1).lt;have C1:=hid (C0.out.below hb1);clear hb1))
  go_ret
  exact ⟨rfl,B1.out⟩
theorem rcheck_main (w:World) (h:CmIn w c ra nr rc wa nw wc aa na ac ca nc cc) (hf:fewN c) (hs1:risesN c.reads 0) (hs2:risesN c.writes 0) :
  Calls Tryz.prog 24 #[cmV ra nr rc wa nw wc aa na ac c.fuel ca nc cc] w fun e w'=>e=.returned (.int .i64 ((checkN c:Nat)))∧Below w.heap.size w w':=by
 obtain ⟨f1,f2,f3,f4,f5,f6⟩:=(rfew_dec c ra nr rc wa nw wc aa na ac ca nc cc w h).1 hf
 have B0:=hid (below_alloc1 w (CmObj ra nr rc wa nw wc aa na ac c.fuel ca nc cc))
 have C0:Hid (Bk (w.alloc (CmObj ra nr rc wa nw wc aa na ac c.fuel ca nc cc)) w.heap.size 56 #[.slice ra nr rc,.slice wa nw wc,.slice aa na ac,.int .i64 c.fuel,.slice ca nc cc]):=hid (Bk.new w _ _)
 have p1:=hid (fun W (hW:Below w.heap.size w W)=>rrising_any c.reads ra nr rc W (h.reads.below hW) h.lr (by omega) true (decide_eq_true hs1))
 have p2:=hid (fun W (hW:Below w.heap.size w W)=>rrising_any c.writes wa nw wc W (h.writes.below hW) h.lw (by omega) true (decide_eq_true hs2))
 have hrd:=hid (fun W (hW:Below w.heap.size w W)=>Ints.below h.reads hW)
 have hwr:=hid (fun W (hW:Below w.heap.size w W)=>Ints.below h.writes hW)
 have hcode:=hid (fun W (hW:Below w.heap.size w W)=>h.code.below (w':=W) hW)
 have pd:=hid (fun W (hW:Below w.heap.size w W)=>rdepths_any c.code ca cc nc W (h.code.below hW) h.lc f3 h.bc)
 have hlr:=hid h.lr
 have hlw:=hid h.lw
 have hlc:=hid h.lc
 have hcr:=h.reads.2.1
 have hcw:=h.writes.2.1
 have hcc:=h.code.2.1
 rw [h.lr] at hcr
 rw [h.lw] at hcw
 rw [h.lc] at hcc
 obtain ⟨z,hz⟩:∃ z,z=checkN c:=⟨_,rfl⟩
 rw [← hz]
 have hz8:Hid (∀ i,i < nr→∀ j,j < nw→c.reads[i]?.getD 0=c.writes[j]?.getD 0→z=8):=hid (fun i hi j hj e=>by
  rw [hz,checkN,if_neg (by simpa using hf),if_pos (sets_not c (by rw [h.lr];exact hi) (by rw [h.lw];exact hj) e)])
 have hzr:Hid ((∀ i,i < nr→∀ j,j < nw→c.reads[i]?.getD 0≠c.writes[j]?.getD 0)→z=checkZ c):=hid (fun hne=>by
  rw [hz,checkN,if_neg (by simpa using hf),if_neg (by
   have:=sets_all c hs1 hs2 (by rw [h.lr,h.lw];exact hne)
   simpa using this)]
  rfl)
 have hall:Hid ((∀ j,j < nc→rightN (insAt c.code j)∧boundsL nr nw na (insAt c.code j))→opsN c):=hid (by
  obtain ⟨rfl,rfl,rfl,rfl,-⟩:=h
  exact rops_all c)
 have hnot:Hid (∀ j,j < nc→¬ (rightN (insAt c.code j)∧boundsL nr nw na (insAt c.code j))→¬ opsN c):=hid (by
  obtain ⟨rfl,rfl,rfl,rfl,-⟩:=h
  exact fun j=>rops_not c)
 have hem:Hid (∀ i,emitsN (c.code.take i)≤nc):=hid (fun i=>by rw [← h.lc];exact emitsN_take_le c.code i)
 have hes:Hid (∀ i,i < nc→emitsN (c.code.take (i + 1))=emitsN (c.code.take i) + if (insAt c.code i).op=15 then 1 else 0):=hid (fun i hi=>emitsN_step c.code i (by rw [h.lc];exact hi))
 have het:Hid (emitsN (c.code.take nc)=emitsN c.code):=hid (by rw [← h.lc,List.take_length])
 clear h hf hs1 hs2 hz
 generalize c.fuel=fuel at *
 have e0:decide (8 < (nr:Int) + (nw:Int))=false:=decide_eq_false (by omega)
 have e1:decide (8 < (na:Int))=false:=decide_eq_false (by omega)
 have e2:decide ((nc:Int) < 1)=false:=decide_eq_false (by omega)
 have e3:decide (64 < (nc:Int))=false:=decide_eq_false (by omega)
 have e4:decide (fuel < 1)=false:=decide_eq_false (by omega)
 have e5:decide (200 < fuel)=false:=decide_eq_false (by omega)
 go_enter Tryz.func24,Tryz.ntmps24
 go_wp2_with (first
  | (go_at_call 53;with_reducible refine (p1.out _ B0.out).mono ?_;rintro e w1 ⟨rfl,hb1⟩;have B1:=hid (bnext B0.out hb1);obtain ⟨c0,c1,c2,c3,c4,cf⟩:=(C0.out.below hb1).cmd;have cl:=(C0.out.below hb1).lt;have C1:=hid (C0.out.below hb1);clear hb1)
  | (go_at_call 53;go_must ((with_reducible refine (p2.out _ B1.out).mono ?_);rintro e w2 ⟨rfl,hb2⟩;have B2:=hid (bnext B1.out hb2);have C2:=hid (C1.out.below hb2);clear hb2)))
 clear p1 p2
 go_loopw [3] (fun kk wr=>∃ i:Nat,i≤nr∧kk=.int .i64 i∧Hid (Below w.heap.size w wr)∧Hid (Bk wr w.heap.size 56 #[.slice ra nr rc,.slice wa nw wc,.slice aa na ac,.int .i64 fuel,.slice ca nc cc])∧Hid (∀ a,a < i→∀ b,b < nw→c.reads[a]?.getD 0≠c.writes[b]?.getD 0)) (fun kk _=>nr - (intOf kk).toNat)
 case atStart=>exact ⟨0,Nat.zero_le _,rfl,B2,C2,hid (fun a h=>by omega)⟩
 case round=>
  clear B0 C0 B1 C1 B2 C2 c0 c1 c2 c3 c4 cf cl
  obtain ⟨i,hi,rfl,HB,HC,HN⟩:=hrel
  obtain ⟨k0,k1,k2,k3,k4,-⟩:=HC.out.cmd
  have kl:=HC.out.lt
  by_cases hlt:i < nr
  ·have d1:(i:Int) < (nr:Int):=by omega
   have d2:(i:Int) < (rc:Int):=by omega
   go_wp2
   go_loopw [4] (fun kk wi=>∃ j:Nat,j≤nw∧kk=.int .i64 j∧Hid (Below w.heap.size w wi)∧Hid (Bk wi w.heap.size 56 #[.slice ra nr rc,.slice wa nw wc,.slice aa na ac,.int .i64 fuel,.slice ca nc cc])∧Hid (∀ b,b < j→c.reads[i]?.getD 0≠c.writes[b]?.getD 0)) (fun kk _=>nw - (intOf kk).toNat)
   case atStart=>exact ⟨0,Nat.zero_le _,rfl,HB,HC,hid (fun b h=>by omega)⟩
   case round=>
    clear HB HC k0 k1 k2 k3 k4 kl
    obtain ⟨j,hj,rfl,HB,HC,HJ⟩:=hrel
    obtain ⟨k0,k1,k2,k3,k4,-⟩:=HC.out.cmd
    have kl:=HC.out.lt
    by_cases hjt:j < nw
    ·have d3:(j:Int) < (nw:Int):=by omega
     have d4:(j:Int) < (wc:Int):=by omega
     obtain ⟨b1,o1,rfl,hb1,x1⟩:=(hrd.out _ HB.out).cellAt (j:=i) (by rw [hlr.out];exact hlt)
     obtain ⟨b2,o2,rfl,hb2,x2⟩:=(hwr.out _ HB.out).cellAt (j:=j) (by rw [hlw.out];exact hjt)
     by_cases heq:c.reads[i]?.getD 0=c.writes[j]?.getD 0
     ·obtain rfl:z=8:=hz8.out i hlt j hjt heq
      rw [← heq] at x2
      generalize c.reads[i]?.getD 0=x at *
      have q1:(x == x)=true:=by simp
      clear heq
      go_wp2
      go_quiet (fail)
      go_wp2
      go_ret
      exact ⟨rfl,bnext HB.out (drewR _ _)⟩
     ·have HJ2:Hid (∀ b,b < j + 1→c.reads[i]?.getD 0≠c.writes[b]?.getD 0):=hid (fun b hb=>by
       rcases Nat.lt_or_eq_of_le (Nat.le_of_lt_succ hb) with q | q
       ·exact HJ.out b q
       ·subst q;exact heq)
      have q1:(c.reads[i]?.getD 0 == c.writes[j]?.getD 0)=false:=by simpa using heq
      clear heq
      obtain ⟨x,hgx⟩:∃ x,x=c.reads[i]?.getD 0:=⟨_,rfl⟩
      obtain ⟨y,hgy⟩:∃ y,y=c.writes[j]?.getD 0:=⟨_,rfl⟩
      rw [← hgx] at x1 q1
      rw [← hgy] at x2 q1
      clear hgx hgy
      go_wp2
      go_quiet (fail)
      go_wp2
      go_roundw
      case rel=>exact ⟨j + 1,by omega,by go_num,hid (bnext HB.out (drewR _ _)),hid (HC.out.below (drewR _ _)),HJ2⟩
      case measure=>simp [intOf];omega
    ·obtain rfl:j=nw:=by omega
     have HN2:Hid (∀ a,a < i + 1→∀ b,b < j→c.reads[a]?.getD 0≠c.writes[b]?.getD 0):=hid (fun a ha b hb=>by
      rcases Nat.lt_or_eq_of_le (Nat.le_of_lt_succ ha) with q | q
      ·exact HN.out a q b hb
      ·subst q;exact HJ.out b hb)
     clear hjt
     go_wp2
     go_roundw
     case rel=>exact ⟨i + 1,by omega,by go_num,HB,HC,HN2⟩
     case measure=>simp [intOf];omega
  ·obtain rfl:i=nr:=by omega
   have hzc:=hid (hzr.out HN.out)
   clear hlt hz8 hzr HN
   go_wp2
   go_loopw [5,6] (fun em kk wr=>∃ k:Nat,k≤nc∧kk=.int .i64 k∧em=.int .i64 (emitsN (c.code.take k):Nat)∧Hid (Below w.heap.size w wr)∧Hid (Bk wr w.heap.size 56 #[.slice ra i rc,.slice wa nw wc,.slice aa na ac,.int .i64 fuel,.slice ca nc cc])∧Hid (∀ j,j < k→rightN (insAt c.code j)∧boundsL i nw na (insAt c.code j))) (fun _ kk _=>nc - (intOf kk).toNat)
   case atStart=>exact ⟨0,Nat.zero_le _,rfl,rfl,HB,HC,hid (fun j h=>by omega)⟩
   case round=>
    clear HB HC k0 k1 k2 k3 k4 kl
    obtain ⟨k,hk,rfl,rfl,HB,HC,HO⟩:=hrel
    obtain ⟨k0,k1,k2,k3,k4,-⟩:=HC.out.cmd
    have kl:=HC.out.lt
    by_cases hlt:k < nc
    ·have d1:(k:Int) < (nc:Int):=by omega
     have d2:(k:Int) < (cc:Int):=by omega
     obtain ⟨b,off,rfl,hbl,x0,x1,x2⟩:=(hcode.out wr HB.out).cellAt (j:=k) (by rw [hlc.out];exact hlt)
     have hcl:=hid (fun X (hX:Below wr.heap.size wr X)=>(show X.cell? ⟨b,off + k * 3,none⟩=some (.int .i64 (insAt c.code k).op)∧X.cell? ⟨b,off + k * 3 + 1,none⟩=some (.int .i64 (insAt c.code k).a)∧X.cell? ⟨b,off + k * 3 + 2,none⟩=some (.int .i64 (insAt c.code k).b)∧b < X.heap.size from ⟨(hX.cell (p:=⟨b,off + k * 3,none⟩) hbl).trans x0,(hX.cell (p:=⟨b,off + k * 3 + 1,none⟩) hbl).trans x1,(hX.cell (p:=⟨b,off + k * 3 + 2,none⟩) hbl).trans x2,Nat.lt_of_lt_of_le hbl hX.size⟩))
     have hst:=hes.out k hlt
     have hle:=hem.out k
     by_cases hr:rightN (insAt c.code k)
     ·have hrt:=hid (fun X=>insRright_any (insAt c.code k) true (decide_eq_true hr) X)
      by_cases hb:boundsL i nw na (insAt c.code k)
      ·have hbd:=hid (fun X=>rbounds_any ra i rc wa nw wc aa na ac fuel (some ⟨b,off,none⟩) nc cc (insAt c.code k) X (by omega) (by omega) true (decide_eq_true hb))
       have HO2:Hid (∀ j,j < k + 1→rightN (insAt c.code j)∧boundsL i nw na (insAt c.code j)):=hid (fun j hj=>by
        rcases Nat.lt_or_eq_of_le (Nat.le_of_lt_succ hj) with q | q
        ·exact HO.out j q
        ·subst q;exact ⟨hr,hb⟩)
       obtain ⟨E,hE⟩:∃ E,E=emitsN (c.code.take k):=⟨_,rfl⟩
       rw [← hE] at hst hle ⊢
       have hst':=hid hst
       clear hr hb hE hst
       generalize insAt c.code k=x at *
       obtain ⟨op,xa,xb⟩:=x
       simp only at x0 x1 x2
       go_wp2
       refine wp_region_saysK 16 (fun x y=>Below x.heap.size x y) (fun _ _ _ h k=>bnext h k) wr (below_drew1 wr) (by kernel_rfl) (by kernel_rfl) (by kernel_rfl) (by kernel_rfl) (by rfl) ?_
       simp only [List.take_succ_cons,List.take_zero,List.drop_succ_cons,List.drop_zero]
       iterate 5
        refine wkI ?_ (fun u X hX hd=>?_) ?_
        rotate_left
        ·obtain ⟨k0,k1,k2,k3,k4,-⟩:=(HC.out.below hX).cmd
         have kl:=(HC.out.below hX).lt
         obtain ⟨y0,y1,y2,yl⟩:=hcl.out X hX
         try simp at hd
         go_simp
         try rfl
       refine walkK_call (isV (.bool true)) 54 ?_ (by first | exact gs0 rfl | exact gs1 rfl rfl rfl) (fun _ _ _ _ h=>h) (fun u X hX hd=>?_) (fun X hX=>?_) ?_
       rotate_left
       ·obtain ⟨k0,k1,k2,k3,k4,-⟩:=(HC.out.below hX).cmd
        have kl:=(HC.out.below hX).lt
        obtain ⟨y0,y1,y2,yl⟩:=hcl.out X hX
        try simp at hd
        go_simp
        try rfl
       ·exact (hrt.out X).mono fun e X' ⟨he,hb⟩=>⟨_,he,hb,rfl⟩
       refine wkN ?_
       refine wkI ?_ (fun u X hX hd=>?_) ?_
       rotate_left
       ·obtain ⟨k0,k1,k2,k3,k4,-⟩:=(HC.out.below hX).cmd
        have kl:=(HC.out.below hX).lt
        obtain ⟨y0,y1,y2,yl⟩:=hcl.out X hX
        try simp at hd
        go_simp
        try rfl
       refine wkI (.bool false) (fun u X hX hd=>?_) ?_
       ·obtain ⟨k0,k1,k2,k3,k4,-⟩:=(HC.out.below hX).cmd
        have kl:=(HC.out.below hX).lt
        obtain ⟨y0,y1,y2,yl⟩:=hcl.out X hX
        try simp at hd
        go_simp
       iterate 6
        refine wkI ?_ (fun u X hX hd=>?_) ?_
        rotate_left
        ·obtain ⟨k0,k1,k2,k3,k4,-⟩:=(HC.out.below hX).cmd
         have kl:=(HC.out.below hX).lt
         obtain ⟨y0,y1,y2,yl⟩:=hcl.out X hX
         try simp at hd
         go_simp
         try rfl
       refine walkK_call (isV (.bool true)) 55 ?_ (by first | exact gs0 rfl | exact gs1 rfl rfl rfl) (fun _ _ _ _ h=>h) (fun u X hX hd=>?_) (fun X hX=>?_) ?_
       rotate_left
       ·obtain ⟨k0,k1,k2,k3,k4,-⟩:=(HC.out.below hX).cmd
        have kl:=(HC.out.below hX).lt
        obtain ⟨y0,y1,y2,yl⟩:=hcl.out X hX
        try simp at hd
        go_simp
        try rfl
       ·exact (hbd.out X).mono fun e X' ⟨he,hb⟩=>⟨_,he,hb,rfl⟩
       refine wkN ?_
       refine wkI ?_ (fun u X hX hd=>?_) ?_
       rotate_left
       ·obtain ⟨k0,k1,k2,k3,k4,-⟩:=(HC.out.below hX).cmd
        have kl:=(HC.out.below hX).lt
        obtain ⟨y0,y1,y2,yl⟩:=hcl.out X hX
        try simp at hd
        go_simp
        try rfl
       intro u X hX hsay
       simp only [sayAll,isV] at hsay
       obtain ⟨-,-,-,-,-,-,-,s7,-,-,-,-,-,-,-,s15,-⟩:=hsay
       obtain ⟨k0,k1,k2,k3,k4,-⟩:=(HC.out.below hX).cmd
       have kl:=(HC.out.below hX).lt
       obtain ⟨y0,y1,y2,yl⟩:=hcl.out X hX
       simp only [putAll,Act.put]
       by_cases h15:op=15
       ·subst h15
        have hst2:Hid (emitsN (c.code.take (k + 1))=E + 1):=hid (by simpa using hst'.out)
        have q15:((15:Int) == 15)=true:=rfl
        go_wp2
        go_roundw
        case rel=>exact ⟨k + 1,by omega,by go_num,by rw [hst2.out];go_num,hid (bnext HB.out hX),hid (HC.out.below hX),HO2⟩
        case measure=>simp [intOf];omega
       ·have hst2:Hid (emitsN (c.code.take (k + 1))=E):=hid (by simpa [h15] using hst'.out)
        have q15:(op == 15)=false:=by simpa using h15
        go_wp2
        go_roundw
        case rel=>exact ⟨k + 1,by omega,by go_num,by rw [hst2.out],hid (bnext HB.out hX),hid (HC.out.below hX),HO2⟩
        case measure=>simp [intOf];omega
      ·have hbd:=hid (fun X=>rbounds_any ra i rc wa nw wc aa na ac fuel (some ⟨b,off,none⟩) nc cc (insAt c.code k) X (by omega) (by omega) false (decide_eq_false hb))
       obtain rfl:z=5:=by rw [hzc.out,checkZ,if_pos (hnot.out k hlt (fun q=>hb q.2))]
       clear hr hb hst
       generalize insAt c.code k=x at *
       obtain ⟨op,xa,xb⟩:=x
       simp only at x0 x1 x2
       go_wp2
       refine wp_region_saysK 16 (fun x y=>Below x.heap.size x y) (fun _ _ _ h k=>bnext h k) wr (below_drew1 wr) (by kernel_rfl) (by kernel_rfl) (by kernel_rfl) (by kernel_rfl) (by rfl) ?_
       simp only [List.take_succ_cons,List.take_zero,List.drop_succ_cons,List.drop_zero]
       iterate 5
        refine wkI ?_ (fun u X hX hd=>?_) ?_
        rotate_left
        ·obtain ⟨k0,k1,k2,k3,k4,-⟩:=(HC.out.below hX).cmd
         have kl:=(HC.out.below hX).lt
         obtain ⟨y0,y1,y2,yl⟩:=hcl.out X hX
         try simp at hd
         go_simp
         try rfl
       refine walkK_call (isV (.bool true)) 54 ?_ (by first | exact gs0 rfl | exact gs1 rfl rfl rfl) (fun _ _ _ _ h=>h) (fun u X hX hd=>?_) (fun X hX=>?_) ?_
       rotate_left
       ·obtain ⟨k0,k1,k2,k3,k4,-⟩:=(HC.out.below hX).cmd
        have kl:=(HC.out.below hX).lt
        obtain ⟨y0,y1,y2,yl⟩:=hcl.out X hX
        try simp at hd
        go_simp
        try rfl
       ·exact (hrt.out X).mono fun e X' ⟨he,hb⟩=>⟨_,he,hb,rfl⟩
       refine wkN ?_
       refine wkI ?_ (fun u X hX hd=>?_) ?_
       rotate_left
       ·obtain ⟨k0,k1,k2,k3,k4,-⟩:=(HC.out.below hX).cmd
        have kl:=(HC.out.below hX).lt
        obtain ⟨y0,y1,y2,yl⟩:=hcl.out X hX
        try simp at hd
        go_simp
        try rfl
       refine wkI (.bool false) (fun u X hX hd=>?_) ?_
       ·obtain ⟨k0,k1,k2,k3,k4,-⟩:=(HC.out.below hX).cmd
        have kl:=(HC.out.below hX).lt
        obtain ⟨y0,y1,y2,yl⟩:=hcl.out X hX
        try simp at hd
        go_simp
       iterate 6
        refine wkI ?_ (fun u X hX hd=>?_) ?_
        rotate_left
        ·obtain ⟨k0,k1,k2,k3,k4,-⟩:=(HC.out.below hX).cmd
         have kl:=(HC.out.below hX).lt
         obtain ⟨y0,y1,y2,yl⟩:=hcl.out X hX
         try simp at hd
         go_simp
         try rfl
       refine walkK_call (isV (.bool false)) 55 ?_ (by first | exact gs0 rfl | exact gs1 rfl rfl rfl) (fun _ _ _ _ h=>h) (fun u X hX hd=>?_) (fun X hX=>?_) ?_
       rotate_left
       ·obtain ⟨k0,k1,k2,k3,k4,-⟩:=(HC.out.below hX).cmd
        have kl:=(HC.out.below hX).lt
        obtain ⟨y0,y1,y2,yl⟩:=hcl.out X hX
        try simp at hd
        go_simp
        try rfl
       ·exact (hbd.out X).mono fun e X' ⟨he,hb⟩=>⟨_,he,hb,rfl⟩
       refine wkN ?_
       refine wkI ?_ (fun u X hX hd=>?_) ?_
       rotate_left
       ·obtain ⟨k0,k1,k2,k3,k4,-⟩:=(HC.out.below hX).cmd
        have kl:=(HC.out.below hX).lt
        obtain ⟨y0,y1,y2,yl⟩:=hcl.out X hX
        try simp at hd
        go_simp
        try rfl
       intro u X hX hsay
       simp only [sayAll,isV] at hsay
       obtain ⟨-,-,-,-,-,-,-,s7,-,-,-,-,-,-,-,s15,-⟩:=hsay
       obtain ⟨k0,k1,k2,k3,k4,-⟩:=(HC.out.below hX).cmd
       have kl:=(HC.out.below hX).lt
       obtain ⟨y0,y1,y2,yl⟩:=hcl.out X hX
       simp only [putAll,Act.put]
       go_wp2
       go_ret
       exact ⟨rfl,bnext HB.out hX⟩
     ·have hrt:=hid (fun X=>insRright_any (insAt c.code k) false (decide_eq_false hr) X)
      obtain rfl:z=5:=by rw [hzc.out,checkZ,if_pos (hnot.out k hlt (fun q=>hr q.1))]
      clear hr hst
      generalize insAt c.code k=x at *
      obtain ⟨op,xa,xb⟩:=x
      simp only at x0 x1 x2
      go_wp2
      refine wp_region_saysK 16 (fun x y=>Below x.heap.size x y) (fun _ _ _ h k=>bnext h k) wr (below_drew1 wr) (by kernel_rfl) (by kernel_rfl) (by kernel_rfl) (by kernel_rfl) (by rfl) ?_
      simp only [List.take_succ_cons,List.take_zero,List.drop_succ_cons,List.drop_zero]
      iterate 5
       refine wkI ?_ (fun u X hX hd=>?_) ?_
       rotate_left
       ·obtain ⟨k0,k1,k2,k3,k4,-⟩:=(HC.out.below hX).cmd
        have kl:=(HC.out.below hX).lt
        obtain ⟨y0,y1,y2,yl⟩:=hcl.out X hX
        try simp at hd
        go_simp
        try rfl
      refine walkK_call (isV (.bool false)) 54 ?_ (by first | exact gs0 rfl | exact gs1 rfl rfl rfl) (fun _ _ _ _ h=>h) (fun u X hX hd=>?_) (fun X hX=>?_) ?_
      rotate_left
      ·obtain ⟨k0,k1,k2,k3,k4,-⟩:=(HC.out.below hX).cmd
       have kl:=(HC.out.below hX).lt
       obtain ⟨y0,y1,y2,yl⟩:=hcl.out X hX
       try simp at hd
       go_simp
       try rfl
      ·exact (hrt.out X).mono fun e X' ⟨he,hb⟩=>⟨_,he,hb,rfl⟩
      refine wkN ?_
      refine wkI ?_ (fun u X hX hd=>?_) ?_
      rotate_left
      ·obtain ⟨k0,k1,k2,k3,k4,-⟩:=(HC.out.below hX).cmd
       have kl:=(HC.out.below hX).lt
       obtain ⟨y0,y1,y2,yl⟩:=hcl.out X hX
       try simp at hd
       go_simp
       try rfl
      refine wkI (.bool true) (fun u X hX hd=>?_) ?_
      ·obtain ⟨k0,k1,k2,k3,k4,-⟩:=(HC.out.below hX).cmd
       have kl:=(HC.out.below hX).lt
       obtain ⟨y0,y1,y2,yl⟩:=hcl.out X hX
       try simp at hd
       go_simp
      iterate 8
       refine walkK_skip (st1 rfl rfl (by simp)) ?_
       refine wkN ?_
      intro u X hX hsay
      simp only [sayAll,isV] at hsay
      obtain ⟨-,-,-,-,-,-,-,s7,-,-,-,-,-,-,-,s15,-⟩:=hsay
      obtain ⟨k0,k1,k2,k3,k4,-⟩:=(HC.out.below hX).cmd
      have kl:=(HC.out.below hX).lt
      obtain ⟨y0,y1,y2,yl⟩:=hcl.out X hX
      simp only [putAll,Act.put]
      go_wp2
      go_ret
      exact ⟨rfl,bnext HB.out hX⟩
    ·obtain rfl:k=nc:=by omega
     have hops:=hall.out HO.out
     have hz2:z=if 8 < emitsN c.code then 4 else match depthsN c.code with | .ok _=>0 | .error e=>e:=by rw [hzc.out,checkZ,if_neg (by simpa using hops)]
     have hel:=hem.out k
     rw [het.out] at hel ⊢
     obtain ⟨E,hE⟩:∃ E,E=emitsN c.code:=⟨_,rfl⟩
     rw [← hE] at hz2 hel ⊢
     clear hE hops hlt
     by_cases h8:8 < E
     ·rw [if_pos h8] at hz2
      have h8':(8:Int) < (E:Int):=by omega
      subst hz2
      go_wp2
      go_ret
      exact ⟨rfl,HB.out⟩
     ·rw [if_neg h8] at hz2
      have h8':¬ (8:Int) < (E:Int):=by omega
      cases hd:depthsN c.code with
      | ok d=>
       rw [hd] at hz2 pd
       have pd':Hid (∀ W,Below w.heap.size w W→Calls Tryz.prog 56 #[.slice ca k cc] W fun e w'=>∃ g,W.heap.size≤g∧e=.returned (.tuple #[.slice (some ⟨g,0,none⟩) k k,.int .i64 0])∧Bk w' g 3 (dV d)∧Below W.heap.size W w'):=pd
       subst hz2
       clear pd hd
       go_wp2_with (go_at_call 56;go_must ((with_reducible refine (pd'.out _ HB.out).mono ?_);rintro e w5 ⟨g,-,rfl,-,hb5⟩;have B5:=hid (bnext HB.out hb5);clear hb5))
       go_ret
       exact ⟨rfl,B5.out⟩
      | error er=>
       rw [hd] at hz2 pd
       have pd':Hid (∀ W,Below w.heap.size w W→Calls Tryz.prog 56 #[.slice ca k cc] W fun e w'=>e=.returned (.tuple #[.slice none 0 0,.int .i64 (er:Nat)])∧Below W.heap.size W w'):=pd
       simp only at hz2
       subst hz2
       clear pd hd
       go_wp2_with (go_at_call 56;go_must ((with_reducible refine (pd'.out _ HB.out).mono ?_);rintro e w5 ⟨rfl,hb5⟩;have B5:=hid (bnext HB.out hb5);clear hb5))
       go_ret
       exact ⟨rfl,B5.out⟩
theorem rcheck_any (w:World) (h:CmIn w c ra nr rc wa nw wc aa na ac ca nc cc) :
  Calls Tryz.prog 24 #[cmV ra nr rc wa nw wc aa na ac c.fuel ca nc cc] w fun e w'=>e=.returned (.int .i64 ((checkN c:Nat)))∧Below w.heap.size w w':=by
 by_cases hf:fewN c
 ·by_cases hs:risesN c.reads 0∧risesN c.writes 0
  ·exact rcheck_main c ra nr rc wa nw wc aa na ac ca nc cc w h hf hs.1 hs.2
  ·rw [checkN,if_neg (by simpa using hf),if_pos (fun q=>hs ⟨q.1,q.2.1⟩)]
   exact rcheck_rises c ra nr rc wa nw wc aa na ac ca nc cc w h hf hs
 ·rw [checkN,if_pos hf]
  exact rcheck_few c ra nr rc wa nw wc aa na ac ca nc cc w h hf
end
end
section
open Go.RowKit
section
variable (c:Cmd) (ra:Option Addr) (nr rc:Nat) (wa:Option Addr) (nw wc:Nat) (aa:Option Addr) (na ac:Nat) (ca:Option Addr) (nc cc:Nat)
theorem rcheck_args (w:World) (h1:nr≤8) (h2:nw≤8) (h3:8 < na) :
  Calls Tryz.prog 24 #[cmV ra nr rc wa nw wc aa na ac c.fuel ca nc cc] w fun e w'=>e=.returned (.int .i64 4)∧Below w.heap.size w w':=by
 have B0:=hid (below_alloc1 w (CmObj ra nr rc wa nw wc aa na ac c.fuel ca nc cc))
 generalize c.fuel=fuel at *
 by_cases g:nr + nw≤8
 ·have e0:decide (8 < (nr:Int) + (nw:Int))=false:=decide_eq_false (by omega)
  have e1:decide (8 < (na:Int))=true:=decide_eq_true (by omega)
  go_enter Tryz.func24,Tryz.ntmps24
  go_wp2
  go_ret
  exact ⟨rfl,B0.out⟩
 ·have e0:decide (8 < (nr:Int) + (nw:Int))=true:=decide_eq_true (by omega)
  go_enter Tryz.func24,Tryz.ntmps24
  go_wp2
  go_ret
  exact ⟨rfl,B0.out⟩
theorem rcheck_may (w:World) (h:CmRaw w c ra nr rc wa nw wc aa na ac ca nc cc) (h1:nr≤8) (h2:nw≤8) (h4:nc≤64) :
  ∃ z:Int,(z=0↔MayBe c)∧∀ W,Below w.heap.size w W→Calls Tryz.prog 24 #[cmV ra nr rc wa nw wc aa na ac c.fuel ca nc cc] W fun e w'=>e=.returned (.int .i64 z)∧Below W.heap.size W w':=by
 by_cases g:na≤8
 ·have hC:CmIn w c ra nr rc wa nw wc aa na ac ca nc cc:=⟨h.lr,h.lw,h.la,h.lc,h.reads,h.writes,h.args,h.code,by omega,by omega,by omega,by omega⟩
  refine ⟨((checkN c:Nat):Int),?_,fun W hW=>rcheck_any c ra nr rc wa nw wc aa na ac ca nc cc W (hC.below hW)⟩
  rw [← check_zero c]
  omega
 ·refine ⟨4,⟨fun e=>absurd e (by decide),fun hm=>?_⟩,fun W hW=>rcheck_args c ra nr rc wa nw wc aa na ac ca nc cc W h1 h2 (by omega)⟩
  obtain ⟨-,h3,-⟩:=hm.few
  have:=h.la
  omega
end
end
end Go.Proofs.YtpaocjpjlogkgaaGreat
