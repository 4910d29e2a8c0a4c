/-
  What slices.Clone answers, of ints and of blocks, in whatever memory: a row of one's own. No conditions but that there are at most 1,000.
-/
import Derived.Test.YtpaocjpjlogkgaaGreatQWords
import Derived.Deep.DeepMust
import Derived.Deep.MidRow
import Derived.Lib.Agree
namespace Go.Proofs.YtpaocjpjlogkgaaGreat
open Go.RowKit
set_option maxRecDepth 100000
theorem infoInt:∃ i,Tryz.prog.info? 3=some i∧i.zero=some (.int .i64 0)∧i.size=1∧i.bytes=8:=by
 have h:(Tryz.prog.info? 3).map (fun i=>(i.zero,i.size,i.bytes))=some (some (.int .i64 0),1,8):=by kernel_rfl
 cases hi:Tryz.prog.info? 3 with
 | none=>rw [hi] at h;cases h
 | some i=>
  rw [hi] at h
  simp only [Option.map_some,Option.some.injEq,Prod.mk.injEq] at h
  exact ⟨i,rfl,h.1,h.2.1,h.2.2⟩
theorem infoBlkZ:∃ i,Tryz.prog.info? 74=some i∧i.zero=some (.agg (bkC (List.replicate 8 0)))∧i.size=8∧i.bytes=64:=by
 have h:(Tryz.prog.info? 74).map (fun i=>(i.zero,i.size,i.bytes))=some (some (.agg (bkC (List.replicate 8 0))),8,64):=by kernel_rfl
 cases hi:Tryz.prog.info? 74 with
 | none=>rw [hi] at h;cases h
 | some i=>
  rw [hi] at h
  simp only [Option.map_some,Option.some.injEq,Prod.mk.injEq] at h
  exact ⟨i,rfl,h.1,h.2.1,h.2.2⟩
set_option maxHeartbeats 400000 in
theorem clone_ints (A:Option Addr) (n c:Nat) (xs:List Value) (w:World) (hA:Sl w 1 A n c xs) (hn:n≤1000) (h1:∀ u∈xs,u.oneCell'=true) :
  Calls Tryz.prog 77 #[.slice A n c] w
   fun e w'=>∃ A' c',e=.returned (.slice A' n c')∧w'.ownsRow w.heap.size 3 1 (.slice A' n c') n xs∧Below w.heap.size w w':=by
 obtain ⟨i0,hi,hz0,hz1,hz2⟩:=infoInt
 have HA:=Lib.hid hA
 have H1:=Lib.hid h1
 clear hA h1
 cases A with
 | none=>
  obtain ⟨rfl,rfl⟩:=HA.out.2.2.1 rfl
  have hq:=Lib.run_eql_slice_nil (P:=Tryz.prog) w 49 3 none 0 0 0 0 Tryz.underlying49
  go_enter Tryz.func77,Tryz.ntmps77
  go_wp2
  go_ret
  refine ⟨none,0,rfl,?_,Below.refl _ _⟩
  have:=HA.out.1
  exact ⟨this,.inl ⟨rfl,rfl⟩⟩
 | some a=>
  have hq:=Lib.run_eql_slice_nil (P:=Tryz.prog) w 49 3 (some a) n c 0 0 Tryz.underlying49
  go_enter Tryz.func77,Tryz.ntmps77
  go_wp2_with (at_builtin;go_must (refine wpList_append_own _ rfl (.tmp 5) (.tmp 6) _ rfl w.heap.size 3 i0 _ 1 8 Tryz.underlying49 hi hz0 hz1 hz2 rfl (by decide) _ 0 [] rfl (World.ownsRow_lit w #[] 0 (Nat.le_refl _) (by decide) rfl) a n c xs rfl HA.out.1 ((HA.out.alloc _).olds a rfl) H1.out (by unfold maxLen;omega) (by omega) (by simp) ?_;intro v' w1 hown hg hnil))
  obtain ⟨A',c',rfl,hsl⟩:=Sl.own hown
  simp only [Nat.zero_add,List.nil_append] at hown
  go_wp2
  go_ret
  exact ⟨A',c',by simp,hown,((Below.refl _ _).alloc (Nat.le_refl _) _).grown hg (by simp) (fun k hk=>by
   have hk':(Value.slice (some ⟨w.heap.size,0,none⟩) 0 0).ownBlock=some k:=hk
   simp [Value.ownBlock] at hk'
   omega)⟩
set_option maxHeartbeats 400000 in
theorem clone_blks (A:Option Addr) (n c:Nat) (xs:List Value) (w:World) (hA:Sl w 8 A n c xs) (hn:n≤1000) (h1:∀ u∈xs,u.oneCell'=true) :
  Calls Tryz.prog 78 #[.slice A n c] w
   fun e w'=>∃ A' c',e=.returned (.slice A' n c')∧w'.ownsRow w.heap.size 74 8 (.slice A' n c') n xs∧Below w.heap.size w w':=by
 obtain ⟨i0,hi,hz0,hz1,hz2⟩:=infoBlkZ
 have HA:=Lib.hid hA
 have H1:=Lib.hid h1
 clear hA h1
 cases A with
 | none=>
  obtain ⟨rfl,rfl⟩:=HA.out.2.2.1 rfl
  have hq:=Lib.run_eql_slice_nil (P:=Tryz.prog) w 65 74 none 0 0 0 0 Tryz.underlying65
  go_enter Tryz.func78,Tryz.ntmps78
  go_wp2
  go_ret
  refine ⟨none,0,rfl,?_,Below.refl _ _⟩
  have:=HA.out.1
  exact ⟨this,.inl ⟨rfl,rfl⟩⟩
 | some a=>
  have hq:=Lib.run_eql_slice_nil (P:=Tryz.prog) w 65 74 (some a) n c 0 0 Tryz.underlying65
  go_enter Tryz.func78,Tryz.ntmps78
  go_wp2_with (at_builtin;go_must (refine wpList_append_own _ rfl (.tmp 5) (.tmp 6) _ rfl w.heap.size 74 i0 _ 8 64 Tryz.underlying65 hi hz0 hz1 hz2 rfl (by decide) _ 0 [] rfl (World.ownsRow_lit w #[] 0 (Nat.le_refl _) (by decide) rfl) a n c xs rfl HA.out.1 ((HA.out.alloc _).olds a rfl) H1.out (by unfold maxLen;omega) (by omega) (by simp) ?_;intro v' w1 hown hg hnil))
  obtain ⟨A',c',rfl,hsl⟩:=Sl.own hown
  simp only [Nat.zero_add,List.nil_append] at hown
  go_wp2
  go_ret
  exact ⟨A',c',by simp,hown,((Below.refl _ _).alloc (Nat.le_refl _) _).grown hg (by simp) (fun k hk=>by
   have hk':(Value.slice (some ⟨w.heap.size,0,none⟩) 0 0).ownBlock=some k:=hk
   simp [Value.ownBlock] at hk'
   omega)⟩
end Go.Proofs.YtpaocjpjlogkgaaGreat
