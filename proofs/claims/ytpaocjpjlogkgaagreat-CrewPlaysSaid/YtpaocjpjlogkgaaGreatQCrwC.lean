/-
  Words and contracts of this claim, 2 texts laid into one, each under its own remark. No conditions but those that stand at each.
-/
import Derived.Test.YtpaocjpjlogkgaaGreatQWords
import Derived.Test.YtpaocjpjlogkgaaGreatQRckA
import Derived.Handy
import Derived.Test.YtpaocjpjlogkgaaGreatQPooV
import Derived.Test.YtpaocjpjlogkgaaGreatQCrwF
import Derived.Test.YtpaocjpjlogkgaaGreatZCrwTu
namespace Go.Proofs.YtpaocjpjlogkgaaGreat
set_option maxRecDepth 100000
set_option maxHeartbeats 32000000
open Go
open Go.Lib (hid)
section
open Go.RowKit
section
variable (l:List CmL) (A:Option Addr) (n c:Nat)
theorem right17_any (w:World) (h:Cmds w A c l) (hN:l.length=n) (hz:n≤9223372036854775807) (b:Bool) (hb:b=true↔((∀ x∈l,MayBe x.c∧fitsT x.c 6)∧n≤20)) :
  Calls Tryz.prog 6 #[.slice A n c] w fun e w'=>e=.returned (.bool b)∧Below w.heap.size w w':=by
 have hcap:=h.cap
 rw [hN] at hcap
 have H:=hid h
 have HN:=hid hN
 have no:Hid (∀ (i:Nat) (x:CmL),l[i]? = some x→¬ (MayBe x.c∧fitsT x.c 6)→b=false):=hid (fun i x hx hn=>by
  cases b with
  | false=>rfl
  | true=>exact absurd ((hb.1 rfl).1 x (List.mem_of_getElem? hx)) hn)
 have fin:Hid ((∀ (i:Nat) (x:CmL),i < n→l[i]? = some x→MayBe x.c∧fitsT x.c 6)→b=decide (n≤20)):=hid (fun hall=>by
  have ha:∀ x∈l,MayBe x.c∧fitsT x.c 6:=fun x hx=>by
   obtain ⟨i,hi⟩:=List.getElem?_of_mem hx
   refine hall i x ?_ hi
   rcases Nat.lt_or_ge i n with q | q
   ·exact q
   ·rw [List.getElem?_eq_none (by omega)] at hi;cases hi
  by_cases q:n≤20
  ·rw [decide_eq_true q]
   exact hb.2 ⟨ha,q⟩
  ·rw [decide_eq_false q]
   cases b with
   | false=>rfl
   | true=>exact absurd (hb.1 rfl).2 q)
 clear h hN hb
 go_enter Tryz.func6,Tryz.ntmps6
 go_wp2
 go_loopw [3] (fun cc wr=>∃ i:Nat,i≤n∧cc=.int .i64 i∧Hid (∀ (j:Nat) (x:CmL),j < i→l[j]? = some x→MayBe x.c∧fitsT x.c 6)∧Hid (Below w.heap.size w wr)) (fun cc _=>n - (intOf cc).toNat)
 case atStart=>exact ⟨0,Nat.zero_le _,rfl,hid (fun j x hj=>absurd hj (by omega)),hid (Below.refl _ _)⟩
 case round=>
  obtain ⟨i,hi,rfl,HP,HB⟩:=hrel
  by_cases hlt:i < n
  ·have d1:(i:Int) < (n:Int):=by omega
   have d2:(i:Int) < (c:Int):=by omega
   obtain ⟨x,hx⟩:=cml_at (l:=l) (i:=i) (by rw [HN.out];exact hlt)
   obtain ⟨bb,off,rfl,hA⟩:=(H.out.below HB.out).lies hx
   obtain ⟨c0,c1,c2,c3,c4,cl⟩:=hA _ (Below.refl _ _)
   obtain ⟨-,-,-,-,-,-,-,-,-,hI⟩:=(H.out.below HB.out).at hx
   have hno:=no.out i x hx
   have HX:=hid hx
   obtain ⟨cmd,ra,nr,rc,wa,nw,wc,aa,na,ac,ca,nc,cc⟩:=x
   simp only at c0 c1 c2 c3 c4 hno
   have hR:CmRaw wr cmd ra nr rc wa nw wc aa na ac ca nc cc:=hI
   have hfew:MayBe cmd→nr≤8∧nw≤8∧na≤8∧nc≤64:=fun hm=>by
    obtain ⟨f1,f2,f3,f4,-⟩:=hm.few
    have:=hR.lr
    have:=hR.lw
    have:=hR.la
    have:=hR.lc
    omega
   by_cases g1:nr≤8
   rotate_left
   ·obtain rfl:=hno (fun q=>g1 (hfew q.1).1)
    have e1:(8:Int) < (nr:Int):=by omega
    clear hno hfew hR hI hx hA HX no fin
    generalize cmd.fuel=fuel at *
    go_wp2
    go_ret
    exact ⟨rfl,HB.out⟩
   have e1:¬ (8:Int) < (nr:Int):=by omega
   have e1':decide ((8:Int) < (nr:Int))=false:=decide_eq_false e1
   by_cases g2:nw≤8
   rotate_left
   ·obtain rfl:=hno (fun q=>g2 (hfew q.1).2.1)
    have e2:(8:Int) < (nw:Int):=by omega
    clear hno hfew hR hI hx hA HX no fin
    generalize cmd.fuel=fuel at *
    go_wp2
    go_ret
    exact ⟨rfl,HB.out⟩
   have e2:¬ (8:Int) < (nw:Int):=by omega
   have e2':decide ((8:Int) < (nw:Int))=false:=decide_eq_false e2
   by_cases g3:nc≤64
   rotate_left
   ·obtain rfl:=hno (fun q=>g3 (hfew q.1).2.2.2)
    have e3:(64:Int) < (nc:Int):=by omega
    clear hno hfew hR hI hx hA HX no fin
    generalize cmd.fuel=fuel at *
    go_wp2
    go_ret
    exact ⟨rfl,HB.out⟩
   have e3:¬ (64:Int) < (nc:Int):=by omega
   have e3':decide ((64:Int) < (nc:Int))=false:=decide_eq_false e3
   obtain ⟨z,hz0,hck⟩:=rcheck_may cmd ra nr rc wa nw wc aa na ac ca nc cc wr hR g1 g2 g3
   have HCK:=hid (hck _ (Below.refl _ _))
   by_cases g4:z=0
   rotate_left
   ·obtain rfl:=hno (fun q=>g4 (hz0.2 q.1))
    clear hno hfew hR hI hx hA HX no fin hz0 hck
    generalize cmd.fuel=fuel at *
    go_wp2_with (go_at_call 24;go_must ((with_reducible refine HCK.out.mono ?_);rintro e w1 ⟨rfl,hb1⟩;have B1:=hid (bnext HB.out hb1);clear hb1))
    go_ret
    exact ⟨rfl,B1.out⟩
   subst g4
   have hm:=hz0.1 rfl
   obtain ⟨h1,h2,h3,h4⟩:=hfew hm
   have hC:CmIn wr cmd ra nr rc wa nw wc aa na ac ca nc cc:=⟨hR.lr,hR.lw,hR.la,hR.lc,hR.reads,hR.writes,hR.args,hR.code,by omega,by omega,by omega,by omega⟩
   have HA:Hid (∀ X,Below wr.heap.size wr X→X.cell? ⟨bb,off + i * 5,none⟩=some (.slice ra nr rc)∧X.cell? ⟨bb,off + i * 5 + 1,none⟩=some (.slice wa nw wc)∧X.cell? ⟨bb,off + i * 5 + 2,none⟩=some (.slice aa na ac)∧X.cell? ⟨bb,off + i * 5 + 3,none⟩=some (.int .i64 cmd.fuel)∧X.cell? ⟨bb,off + i * 5 + 4,none⟩=some (.slice ca nc cc)∧bb < X.heap.size):=hid hA
   clear hA
   by_cases g5:fitsT cmd 6
   ·have HF:=hid (fun W (hW:Below wr.heap.size wr W)=>(show Calls Tryz.prog 25 #[cmV ra nr rc wa nw wc aa na ac cmd.fuel ca nc cc,.int .i64 6] W _ from fits_any cmd ra nr rc wa nw wc aa na ac ca nc cc 6 true W (hC.below hW) ⟨fun _=>g5,fun _=>rfl⟩))
    have HP2:Hid (∀ (j:Nat) (x:CmL),j < i + 1→l[j]? = some x→MayBe x.c∧fitsT x.c 6):=hid (fun j y hj hy=>by
     by_cases e:j=i
     ·subst e
      have:=HX.out
      rw [hy] at this
      injection this with this
      rw [this]
      exact ⟨hm,g5⟩
     ·exact HP.out j y (by omega) hy)
    clear hno hfew hR hI hx HX hz0 hck hm hC g5
    generalize cmd.fuel=fuel at *
    go_wp2_with (first
     | (go_at_call 24;go_must ((with_reducible refine HCK.out.mono ?_);rintro e w1 ⟨rfl,hb1⟩;have B1:=hid hb1;clear c0 c1 c2 c3 c4 cl;obtain ⟨c0,c1,c2,c3,c4,cl⟩:=HA.out _ hb1;clear hb1))
     | (go_at_call 25;go_must ((with_reducible refine (HF.out _ B1.out).mono ?_);rintro e w2 ⟨rfl,hb2⟩;have B2:=hid (bnext HB.out (bnext B1.out hb2));clear hb2 c0 c1 c2 c3 c4 cl)))
    go_roundw
    case rel=>exact ⟨i + 1,by omega,by go_num,HP2,B2⟩
    case measure=>simp [intOf];omega
   ·have HF:=hid (fun W (hW:Below wr.heap.size wr W)=>(show Calls Tryz.prog 25 #[cmV ra nr rc wa nw wc aa na ac cmd.fuel ca nc cc,.int .i64 6] W _ from fits_any cmd ra nr rc wa nw wc aa na ac ca nc cc 6 false W (hC.below hW) ⟨fun q=>(by cases q),fun q=>absurd q g5⟩))
    obtain rfl:=hno (fun q=>g5 q.2)
    clear hno hfew hR hI hx HX hz0 hck hm hC g5
    generalize cmd.fuel=fuel at *
    go_wp2_with (first
     | (go_at_call 24;go_must ((with_reducible refine HCK.out.mono ?_);rintro e w1 ⟨rfl,hb1⟩;have B1:=hid hb1;clear c0 c1 c2 c3 c4 cl;obtain ⟨c0,c1,c2,c3,c4,cl⟩:=HA.out _ hb1;clear hb1))
     | (go_at_call 25;go_must ((with_reducible refine (HF.out _ B1.out).mono ?_);rintro e w2 ⟨rfl,hb2⟩;have B2:=hid (bnext HB.out (bnext B1.out hb2));clear hb2 c0 c1 c2 c3 c4 cl)))
    go_ret
    exact ⟨rfl,B2.out⟩
  ·obtain rfl:n=i:=by omega
   have hf:=fin.out (fun j x hj hx=>HP.out j x hj hx)
   clear hlt
   by_cases q:n≤20
   ·rw [decide_eq_true q] at hf
    subst hf
    have q1:(n:Int)≤20:=by omega
    have q2:decide ((n:Int)≤20)=true:=decide_eq_true q1
    clear no fin
    go_wp2
    go_ret
    exact ⟨by first | rfl | simp [q],HB.out⟩
   ·rw [decide_eq_false q] at hf
    subst hf
    have q1:¬ (n:Int)≤20:=by omega
    have q2:decide ((n:Int)≤20)=false:=decide_eq_false q1
    clear no fin
    go_wp2
    go_ret
    exact ⟨by first | rfl | simp [q],HB.out⟩
end
end
section
open Go Go.RowKit
def R17 (l:List CmL):Prop:=(∀ x∈l,MayBe x.c∧fitsT x.c 6)∧l.length≤20
abbrev csOf (l:List CmL):List Cmd:=l.map CmL.c
abbrev b06:List Ent:=List.replicate 6 entZ
theorem goodT6:goodT b06:=goodT_new 6
section
variable {l:List CmL} {A:Option Addr} {n c:Nat} {w:World}
theorem right17_yes (h:Cmds w A c l) (hN:l.length=n) (hr:R17 l):Calls Tryz.prog 6 #[.slice A n c] w fun e w'=>e=.returned (.bool true)∧Below w.heap.size w w':=
 right17_any l A n c w h hN (by have:=hr.2;omega) true ⟨fun _=>⟨hr.1,by rw [← hN];exact hr.2⟩,fun _=>rfl⟩
theorem right17_no (h:Cmds w A c l) (hN:l.length=n) (hz:n≤9223372036854775807) (hr:¬ R17 l):Calls Tryz.prog 6 #[.slice A n c] w fun e w'=>e=.returned (.bool false)∧Below w.heap.size w w':=
 right17_any l A n c w h hN hz false ⟨fun h=>(by cases h),fun h=>absurd ⟨h.1,by rw [hN];exact h.2⟩ hr⟩
theorem R17.cmds (h:R17 l):∀ c∈csOf l,MayBe c∧fitsT c 6:=fun c hc=>by
 obtain ⟨x,hx,rfl⟩:=List.mem_map.1 hc
 exact h.1 x hx
theorem R17.cmds' (h:R17 l):∀ c∈csOf l,MayBe c∧fitsT c b06.length:=fun c hc=>by rw [List.length_replicate];exact h.cmds c hc
theorem R17.few (h:R17 l):(csOf l).length≤20:=by rw [List.length_map];exact h.2
theorem R17.inv (h:R17 l):CInv (csOf l) b06 3 (startX 6 (csOf l)):=start_inv h.cmds (by decide)
theorem start_any (h:Cmds w A c l) (hN:l.length=n) (hr:R17 l) {z:CwL} (hz:CwIs 6 0 (restX 6) w z):Calls Tryz.prog 8 #[.agg (cwA 6 0 hd0 z),.slice A n c,.int .i64 1] w (AddPost 6 0 hd0 (startX 6 (csOf l)) w):=by
 have:=cadd_any 6 0 hd0 (restX 6) z l A n c 1 w hz h hN hr.1 (by have:=hr.2;show 0 + n≤900;omega) (by decide) (by decide)
 rwa [start_is 6 l hN] at this
end
end
end Go.Proofs.YtpaocjpjlogkgaaGreat
