/-
  Words and contracts of this claim, 3 texts laid into one, each under its own remark. No conditions but those that stand at each.
-/
import Derived.Test.YtpaocjpjlogkgaaGreatQWords
import Derived.OwnWalk
import Derived.Deep.QuietTactic
import Derived.BigQuiet
import Derived.Lib.Hide
import Derived.WalkSmall
import Derived.Deep.DeepMust
import Derived.WalkSpells
import Derived.WalkLawsBesides
namespace Go.Proofs.YtpaocjpjlogkgaaGreat
set_option maxRecDepth 100000
set_option maxHeartbeats 32000000
open Go
open Go.Lib (hid)
section
open Go.RowKit
theorem same_yes (l:List Int) (A:Option Addr) (c:Nat) (B:Option Addr) (d:Nat) (w:World) (h1:Ints w A c l) (h2:Ints w B d l) (hn:l.length≤1099511627776) :
  Calls Tryz.prog 105 #[.slice A l.length c,.slice B l.length d] w
   fun e w'=>e=.returned (.bool true)∧∃ n,w'=w.drewN n:=by
 have hcl:Hid (∀ i,i < l.length→∃ b off,A=some ⟨b,off,none⟩∧b < w.heap.size∧w.cell? ⟨b,off + i,none⟩=some (.int .i64 (l[i]?.getD 0))):=hid fun i h=>h1.cellAt h
 have hcm:Hid (∀ i,i < l.length→∃ b off,B=some ⟨b,off,none⟩∧b < w.heap.size∧w.cell? ⟨b,off + i,none⟩=some (.int .i64 (l[i]?.getD 0))):=hid fun i h=>h2.cellAt h
 have hle:=h1.2.1
 have hle2:=h2.2.1
 clear h1 h2
 generalize l.length=N at *
 go_enter Tryz.func105,Tryz.ntmps105
 go_wp2
 go_loopw [5] (fun cc wr=>∃ i k:Nat,i≤N∧cc=.int .i64 i∧wr=w.drewN k) (fun cc _=>N - (intOf cc).toNat)
 case atStart=>exact ⟨0,0,Nat.zero_le _,rfl,rfl⟩
 case round=>
  obtain ⟨i,k,hi,rfl,rfl⟩:=hrel
  by_cases hlt:i < N
  ·obtain ⟨b,off,rfl,hbl,hcell⟩:=hcl.out i hlt
   obtain ⟨b2,off2,rfl,hbl2,hcell2⟩:=hcm.out i hlt
   have d0:(i:Int) < (N:Int):=by omega
   have d1:(i:Int) < (c:Int):=by omega
   have d2:(i:Int) < (d:Int):=by omega
   generalize l[i]?.getD 0=x at *
   clear hcl hcm
   go_wp2
   go_quiet (fail)
   go_wp2
   go_roundw
   case rel=>exact ⟨i + 1,_,by omega,by go_num,rfl⟩
   case measure=>simp [intOf];omega
  ·go_wp2
   go_ret
   exact ⟨rfl,_,rfl⟩
end
section
open Go.RowKit
theorem sameI (l:List Ins) (A:Option Addr) (c:Nat) (B:Option Addr) (d:Nat) (w:World) (h1:Inss w A c l) (h2:Inss w B d l) (hn:l.length≤1099511627776) :
  Calls Tryz.prog 106 #[.slice A l.length c,.slice B l.length d] w
   fun e w'=>e=.returned (.bool true)∧Below w.heap.size w w':=by
 have hcl:Hid (∀ i,i < l.length→∃ k s n b off b2 off2,A=some ⟨b,off,none⟩∧b < w.heap.size∧w.cell? ⟨b,off + i * 3,none⟩=some (.int .i64 k)∧w.cell? ⟨b,off + i * 3 + 1,none⟩=some (.int .i64 s)∧w.cell? ⟨b,off + i * 3 + 2,none⟩=some (.int .i64 n)
   ∧ B=some ⟨b2,off2,none⟩∧b2 < w.heap.size∧w.cell? ⟨b2,off2 + i * 3,none⟩=some (.int .i64 k)∧w.cell? ⟨b2,off2 + i * 3 + 1,none⟩=some (.int .i64 s)∧w.cell? ⟨b2,off2 + i * 3 + 2,none⟩=some (.int .i64 n)):=hid fun i h=>by
  obtain ⟨b,off,a0,a1,a2,a3,a4⟩:=h1.cellAt h
  obtain ⟨b2,off2,b0,b1,b2',b3,b4⟩:=h2.cellAt h
  exact ⟨_,_,_,b,off,b2,off2,a0,a1,a2,a3,a4,b0,b1,b2',b3,b4⟩
 have hle:=h1.2.1
 have hle2:=h2.2.1
 clear h1 h2
 generalize l.length=N at *
 go_enter Tryz.func106,Tryz.ntmps106
 go_wp2
 go_loopw [5] (fun cc wr=>∃ i k:Nat,i≤N∧cc=.int .i64 i∧wr=w.drewN k) (fun cc _=>N - (intOf cc).toNat)
 case atStart=>exact ⟨0,0,Nat.zero_le _,rfl,rfl⟩
 case round=>
  obtain ⟨i,k,hi,rfl,rfl⟩:=hrel
  by_cases hlt:i < N
  ·obtain ⟨kd,s,n,b,off,b2,off2,rfl,hbl,x0,x1,x2,rfl,hbl2,y0,y1,y2⟩:=hcl.out i hlt
   have d0:(i:Int) < (N:Int):=by omega
   have d1:(i:Int) < (c:Int):=by omega
   have d2:(i:Int) < (d:Int):=by omega
   clear hcl
   go_wp2
   go_quiet (fail)
   go_wp2
   go_roundw
   case rel=>exact ⟨i + 1,_,by omega,by go_num,rfl⟩
   case measure=>simp [intOf];omega
  ·go_wp2
   go_ret
   exact ⟨rfl,below_drewN (Below.refl _ _) _⟩
theorem sameL (l:List Ins) (N:Nat) (hN:l.length=N) (A:Option Addr) (c:Nat) (B:Option Addr) (d:Nat) (w:World) (h1:Inss w A c l) (h2:Inss w B d l) (hn:N≤1099511627776) :
  Calls Tryz.prog 106 #[.slice A N c,.slice B N d] w fun e w'=>e=.returned (.bool true)∧Below w.heap.size w w':=by
 subst hN
 exact sameI l A c B d w h1 h2 hn
end
section
open Go.RowKit
theorem same_ints (l:List Int) (N:Nat) (hN:l.length=N) (A:Option Addr) (c:Nat) (B:Option Addr) (d:Nat) (w:World) (h1:Ints w A c l) (h2:Ints w B d l) (hn:N≤1000000) :
  Calls Tryz.prog 105 #[.slice A N c,.slice B N d] w fun e w'=>e=.returned (.bool true)∧Below w.heap.size w w':=by
 subst hN
 exact (same_yes l A c B d w h1 h2 (by omega)).mono fun e w' ⟨he,n,hw⟩=>⟨he,by rw [hw];exact drewN_below w n⟩
theorem rcsame_yes (x y:CmL) (hc:x.c=y.c) (w:World) (hx:x.In w) (hy:y.In w) (h1:x.nr≤1000∧x.nw≤1000∧x.na≤1000∧x.nc≤1000) :
  Calls Tryz.prog 68 #[.agg (cmlC x).toArray,.agg (cmlC y).toArray] w fun e w'=>e=.returned (.bool true)∧Below w.heap.size w w':=by
 obtain ⟨xc,ra,nr,rc,wa,nw,wc,aa,na,ac,ca,nc,cc⟩:=x
 obtain ⟨yc,ra2,nr2,rc2,wa2,nw2,wc2,aa2,na2,ac2,ca2,nc2,cc2⟩:=y
 simp only at hc h1
 subst hc
 have hx:CmRaw w xc ra nr rc wa nw wc aa na ac ca nc cc:=hx
 have hy:CmRaw w xc ra2 nr2 rc2 wa2 nw2 wc2 aa2 na2 ac2 ca2 nc2 cc2:=hy
 obtain ⟨f1,f2,f3,f4⟩:=h1
 obtain rfl:nr2=nr:=by rw [← hy.lr,← hx.lr]
 obtain rfl:nw2=nw:=by rw [← hy.lw,← hx.lw]
 obtain rfl:na2=na:=by rw [← hy.la,← hx.la]
 obtain rfl:nc2=nc:=by rw [← hy.lc,← hx.lc]
 show Calls Tryz.prog 68 #[cmV ra nr2 rc wa nw2 wc aa na2 ac xc.fuel ca nc2 cc,cmV ra2 nr2 rc2 wa2 nw2 wc2 aa2 na2 ac2 xc.fuel ca2 nc2 cc2] w _
 have BA:=below_alloc1 w (CmObj ra nr2 rc wa nw2 wc aa na2 ac xc.fuel ca nc2 cc)
 have BB:=below_alloc1 (w.alloc (CmObj ra nr2 rc wa nw2 wc aa na2 ac xc.fuel ca nc2 cc)) (CmObj ra2 nr2 rc2 wa2 nw2 wc2 aa2 na2 ac2 xc.fuel ca2 nc2 cc2)
 have B0:=hid (bnext BA BB)
 have K1:=(Bk.new w 56 #[.slice ra nr2 rc,.slice wa nw2 wc,.slice aa na2 ac,.int .i64 xc.fuel,.slice ca nc2 cc]).below BB
 have K2:=Bk.new (w.alloc (CmObj ra nr2 rc wa nw2 wc aa na2 ac xc.fuel ca nc2 cc)) 56 #[.slice ra2 nr2 rc2,.slice wa2 nw2 wc2,.slice aa2 na2 ac2,.int .i64 xc.fuel,.slice ca2 nc2 cc2]
 rw [World.size_alloc] at K2
 obtain ⟨W0,hW0⟩:∃ W0,W0=(w.alloc (CmObj ra nr2 rc wa nw2 wc aa na2 ac xc.fuel ca nc2 cc)).alloc (CmObj ra2 nr2 rc2 wa2 nw2 wc2 aa2 na2 ac2 xc.fuel ca2 nc2 cc2):=⟨_,rfl⟩
 rw [← hW0] at K1 K2 B0
 have HX:Hid (∀ X,Below W0.heap.size W0 X→CmRaw X xc ra nr2 rc wa nw2 wc aa na2 ac ca nc2 cc∧CmRaw X xc ra2 nr2 rc2 wa2 nw2 wc2 aa2 na2 ac2 ca2 nc2 cc2):=hid (fun X hX=>by
  have hb:=bnext B0.out hX
  exact ⟨⟨hx.lr,hx.lw,hx.la,hx.lc,hx.reads.below hb,hx.writes.below hb,hx.args.below hb,hx.code.below hb⟩,⟨hy.lr,hy.lw,hy.la,hy.lc,hy.reads.below hb,hy.writes.below hb,hy.args.below hb,hy.code.below hb⟩⟩)
 have L:=hid (And.intro hx.lr (And.intro hx.lw (And.intro hx.la hx.lc)))
 have c1:=hid (fun X (hX:Below W0.heap.size W0 X)=>same_ints xc.reads nr2 L.out.1 ra rc ra2 rc2 X (HX.out X hX).1.reads (HX.out X hX).2.reads (by omega))
 have c2:=hid (fun X (hX:Below W0.heap.size W0 X)=>same_ints xc.writes nw2 L.out.2.1 wa wc wa2 wc2 X (HX.out X hX).1.writes (HX.out X hX).2.writes (by omega))
 have c3:=hid (fun X (hX:Below W0.heap.size W0 X)=>same_ints xc.args na2 L.out.2.2.1 aa ac aa2 ac2 X (HX.out X hX).1.args (HX.out X hX).2.args (by omega))
 have c4:=hid (fun X (hX:Below W0.heap.size W0 X)=>sameL xc.code nc2 L.out.2.2.2 ca cc ca2 cc2 X (HX.out X hX).1.code (HX.out X hX).2.code (by omega))
 have KK:Hid (∀ X,Below W0.heap.size W0 X→Bk X w.heap.size 56 #[.slice ra nr2 rc,.slice wa nw2 wc,.slice aa na2 ac,.int .i64 xc.fuel,.slice ca nc2 cc]∧Bk X (w.heap.size + 1) 56 #[.slice ra2 nr2 rc2,.slice wa2 nw2 wc2,.slice aa2 na2 ac2,.int .i64 xc.fuel,.slice ca2 nc2 cc2]):=hid (fun X hX=>⟨K1.below hX,K2.below hX⟩)
 clear hx hy K1 K2 BA BB
 generalize xc.fuel=fu at *
 have HW:=hid hW0
 have R0:=hid (Below.refl W0.heap.size W0)
 obtain ⟨p0,p1,p2,p3,p4,-⟩:=(KK.out _ R0.out).1.cmd
 have pl:=(KK.out _ R0.out).1.lt
 obtain ⟨q0,q1,q2,q3,q4,-⟩:=(KK.out _ R0.out).2.cmd
 have ql:=(KK.out _ R0.out).2.lt
 have t0:=hid (c1.out _ R0.out)
 have m1:True:=trivial
 have m2:True:=trivial
 rw [hW0] at p0 p1 p2 p3 p4 q0 q1 q2 q3 q4 pl ql
 have t0':=t0
 rw [hW0] at t0'
 clear hW0 t0
 go_enter Tryz.func68,Tryz.ntmps68
 go_wp2_with (first
  | (go_at_call 105;clear m1;go_must ((with_reducible refine t0'.out.mono ?_);rintro e w1 ⟨rfl,hb1⟩;rw [← HW.out] at hb1;have B1:=hid hb1;clear p0 p1 p2 p3 p4 q0 q1 q2 q3 q4 pl ql;obtain ⟨p0,p1,p2,p3,p4,-⟩:=(KK.out _ hb1).1.cmd;have pl:=(KK.out _ hb1).1.lt;obtain ⟨q0,q1,q2,q3,q4,-⟩:=(KK.out _ hb1).2.cmd;have ql:=(KK.out _ hb1).2.lt;clear hb1))
  | (go_at_call 105;clear m2;go_must ((with_reducible refine (c2.out _ B1.out).mono ?_);rintro e w2 ⟨rfl,hb2⟩;have B2:=hid (bnext B1.out hb2);clear p0 p1 p2 p3 p4 q0 q1 q2 q3 q4 pl ql;obtain ⟨p0,p1,p2,p3,p4,-⟩:=(KK.out _ B2.out).1.cmd;have pl:=(KK.out _ B2.out).1.lt;obtain ⟨q0,q1,q2,q3,q4,-⟩:=(KK.out _ B2.out).2.cmd;have ql:=(KK.out _ B2.out).2.lt;clear hb2))
  | (go_at_call 105;go_must ((with_reducible refine (c3.out _ B2.out).mono ?_);rintro e w3 ⟨rfl,hb3⟩;have B3:=hid (bnext B2.out hb3);clear p0 p1 p2 p3 p4 q0 q1 q2 q3 q4 pl ql;obtain ⟨p0,p1,p2,p3,p4,-⟩:=(KK.out _ B3.out).1.cmd;have pl:=(KK.out _ B3.out).1.lt;obtain ⟨q0,q1,q2,q3,q4,-⟩:=(KK.out _ B3.out).2.cmd;have ql:=(KK.out _ B3.out).2.lt;clear hb3))
  | (go_at_call 106;go_must ((with_reducible refine (c4.out _ B3.out).mono ?_);rintro e w4 ⟨rfl,hb4⟩;have B4:=hid (bnext B3.out hb4);clear hb4)))
 go_ret
 exact ⟨rfl,bnext B0.out B4.out⟩
end
end Go.Proofs.YtpaocjpjlogkgaaGreat
