/-
  What foremanref08.Fits, foremanlaw12's right and foremanref12.Same (of what reads the same) answer, in whatever memory. No conditions but those that stand there.
-/
import Derived.Test.YtpaocjpjlogkgaaGreatQRckA
import Derived.Test.YtpaocjpjlogkgaaGreatQTabA
import Derived.Test.YtpaocjpjlogkgaaGreatQWords
import Derived.Test.YtpaocjpjlogkgaaGreatQQueP
namespace Go.Proofs.YtpaocjpjlogkgaaGreat
open Go.RowKit
set_option maxRecDepth 100000
section
variable (c:Cmd) (ra:Option Addr) (nr rc:Nat) (wa:Option Addr) (nw wc:Nat) (aa:Option Addr) (na ac:Nat) (ca:Option Addr) (nc cc:Nat)
end
set_option maxHeartbeats 1000000 in
theorem rsameE_yes (l:List Ent) (h8:Eight l) (A A':Option Addr) (n c c':Nat) (w:World) (h:Ents w A c l) (h':Ents w A' c' l) (hn:l.length=n) (hz:n≤1000000) :
  Calls Tryz.prog 20 #[.slice A n c,.slice A' n c'] w fun e w'=>e=.returned (.bool true)∧Below w.heap.size w w':=by
 have hc:=h.2.1
 have hc':=h'.2.1
 have H:=Lib.hid h
 have H':=Lib.hid h'
 have H8:=Lib.hid h8
 have HN:=Lib.hid hn
 rw [hn] at hc hc'
 clear h h' h8 hn
 go_enter Tryz.func20,Tryz.ntmps20
 go_wp2
 go_loopw [5] (fun cc wr=>∃ k:Nat,k≤n∧cc=.int .i64 k∧Hid (Below w.heap.size w wr)) (fun cc _=>n - (intOf cc).toNat)
 case atStart=>exact ⟨0,Nat.zero_le _,rfl,Lib.hid (Below.refl _ _)⟩
 case round=>
  obtain ⟨k,hk,rfl,HB⟩:=hrel
  by_cases hlt:k < n
  ·have d1:(k:Int) < (n:Int):=by omega
   have d2:(k:Int) < (c:Int):=by omega
   have d3:(k:Int) < (c':Int):=by omega
   obtain ⟨g,off,rfl,hg,hl⟩:=H.out.load H8.out (i:=k) (by rw [HN.out];exact hlt)
   obtain ⟨g',off',rfl,hg',hl'⟩:=H'.out.load H8.out (i:=k) (by rw [HN.out];exact hlt)
   have L:Hid (∀ w',(∃ n,w'=wr.drewN n)→(loadVar 76 ⟨g,off + k * 9,none⟩).run Tryz.prog w'=.ok (.agg (bkC (entI (l[k]?.getD entZ)))) w'):=Lib.hid (by
    rintro _ ⟨q,rfl⟩
    exact (hl _ (bnext HB.out (drewN_below _ _))).1)
   have L':Hid (∀ w',(∃ n,w'=wr.drewN n)→(loadVar 76 ⟨g',off' + k * 9,none⟩).run Tryz.prog w'=.ok (.agg (bkC (entI (l[k]?.getD entZ)))) w'):=Lib.hid (by
    rintro _ ⟨q,rfl⟩
    exact (hl' _ (bnext HB.out (drewN_below _ _))).1)
   have NE:Hid (∀ W,(binOp .neq 76 (.agg (bkC (entI (l[k]?.getD entZ)))) (.agg (bkC (entI (l[k]?.getD entZ))))).run Tryz.prog W=.ok (.bool false) W):=Lib.hid (fun W=>by rw [neq_ent W (H8.out.at k) (H8.out.at k),decide_eq_true rfl];rfl)
   clear hl hl'
   generalize bkC (entI (l[k]?.getD entZ))=cs at *
   go_wp2
   try simp only [List.append_eq,List.cons_append,List.nil_append]
   refine wp_region_quiet_lit (by kernel_rfl) (by kernel_rfl) ?_
   repeat (first
    | (go_big_quiet_want;(first | refine quiet_load_at _ g (off + k * 9) L.out _ rfl rfl ?_ | refine quiet_load_at _ g' (off' + k * 9) L'.out _ rfl rfl ?_ | refine quiet_neq_at _ false eqGuardEnt NE.out _ _ _ rfl rfl rfl ?_);go_simp;go_big_quiet_on)
    | go_big_quiet_step (fail))
   refine wpQuiet_nil ?_
   rintro _ ⟨nq,rfl⟩
   go_wp2
   go_roundw
   case rel=>exact ⟨k + 1,by omega,by go_num,Lib.hid (bnext HB.out (drewN_below _ _))⟩
   case measure=>simp [intOf];omega
  ·obtain rfl:k=n:=by omega
   clear hlt
   go_wp2
   go_ret
   exact ⟨rfl,HB.out⟩
end Go.Proofs.YtpaocjpjlogkgaaGreat
