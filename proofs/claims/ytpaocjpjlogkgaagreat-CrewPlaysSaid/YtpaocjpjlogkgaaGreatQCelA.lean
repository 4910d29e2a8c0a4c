/-
  Words and contracts of this claim, 2 texts laid into one, each under its own remark. No conditions but those that stand at each.
-/
import Derived.Test.YtpaocjpjlogkgaaGreatQWords
import Derived.Test.YtpaocjpjlogkgaaGreatQQueP
import Derived.WalkKit
import Derived.WalkSpells
import Derived.WalkLawsBesides
import Derived.WalkSmall
import Derived.Lib.Hide
import Derived.Deep.QuietTactic
import Derived.BigQuiet
import Derived.Deep.DeepMust
import Derived.IntWalk
namespace Go.Proofs.YtpaocjpjlogkgaaGreat
set_option maxRecDepth 100000
set_option maxHeartbeats 32000000
open Go
open Go.Lib (hid)
section
open Go.RowKit
theorem there_any (i:Int) (b:Bool) (hb:decide (0≤i∧i < 8)=b) (w:World) :
  Calls Tryz.prog 141 #[.int .i64 i] w fun e w'=>e=.returned (.bool b)∧w=w':=by
 subst hb
 by_cases h0:0≤i
 ·by_cases h1:i < 8
  ·go_enter Tryz.func141,Tryz.ntmps141
   go_wp2
   go_ret
   exact ⟨by simp [h0,h1],rfl⟩
  ·go_enter Tryz.func141,Tryz.ntmps141
   go_wp2
   go_ret
   exact ⟨by simp [h1],rfl⟩
 ·go_enter Tryz.func141,Tryz.ntmps141
  go_wp2
  go_ret
  exact ⟨by simp;omega,rfl⟩
theorem get_any (b:List Int) (h8:b.length=8) (i:Int) (w:World) :
  Calls Tryz.prog 140 #[.agg (bkC b),.int .i64 i] w fun e w'=>e=.returned (.int .i64 (getC b i))∧Below w.heap.size w w':=by
 by_cases h:0≤i∧i < 8
 ·obtain ⟨k,rfl⟩:=Int.eq_ofNat_of_zero_le h.1
  have ht:=there_any k true (decide_eq_true h)
  have hat:=bkC_at (b:=b) (i:=k) (by omega)
  have hg:getC b k=b[k]?.getD 0:=by rw [getC,if_pos h,Int.toNat_natCast]
  rw [hg]
  have hk:k < 8:=by omega
  have hbk:=Bk.new w 74 (bkC b)
  have hc:=(hbk.cell k).trans hat
  clear hbk hat hg h
  generalize bkC b=cs at *
  generalize b[k]?.getD 0=x at *
  go_enter Tryz.func140,Tryz.ntmps140
  go_wp2_with (go_at_call 141;go_must ((with_reducible refine (ht _).mono ?_);rintro e w1 ⟨rfl,rfl⟩))
  go_ret
  exact ⟨rfl,(Below.refl _ _).alloc (Nat.le_refl _) _⟩
 ·have ht:=there_any i false (decide_eq_false h)
  have hg:getC b i=0:=by rw [getC,if_neg h]
  rw [hg]
  clear h8 hg h
  generalize bkC b=cs at *
  go_enter Tryz.func140,Tryz.ntmps140
  go_wp2_with (go_at_call 141;go_must ((with_reducible refine (ht _).mono ?_);rintro e w1 ⟨rfl,rfl⟩))
  go_ret
  exact ⟨rfl,(Below.refl _ _).alloc (Nat.le_refl _) _⟩
theorem put_any (b:List Int) (h8:b.length=8) (i n:Int) (w:World) :
  Calls Tryz.prog 129 #[.agg (bkC b),.int .i64 i,.int .i64 n] w fun e w'=>e=.returned (.agg (bkC (putC b i n)))∧Below w.heap.size w w':=by
 have hp8:(putC b i n).length=8:=by rw [putC_length,h8]
 by_cases h:0≤i∧i < 8
 ·obtain ⟨k,rfl⟩:=Int.eq_ofNat_of_zero_le h.1
  have ht:=there_any k true (decide_eq_true h)
  have hg:bkC (putC b k n)=(bkC b).setIfInBounds k (.int .i64 n):=by rw [putC,if_pos h,Int.toNat_natCast,bkC_set]
  have hk:k < 8:=by omega
  have hO:=(Bk.new w 74 (bkC b)).alloc (.cells (bkC (List.replicate 8 0)) 74)
  have hS:=(Bk.new w 74 ((bkC b).setIfInBounds k (.int .i64 n))).alloc (.cells (bkC (List.replicate 8 0)) 74)
  have hN:Bk ((w.alloc (.cells ((bkC b).setIfInBounds k (.int .i64 n)) 74)).alloc (.cells (bkC (List.replicate 8 0)) 74)) (w.heap.size + 1) 74 (bkC (List.replicate 8 0)):=heap_alloc2_new _ _ _
  have hc:=(hO.cell k).trans (bkC_at (b:=b) (i:=k) (by omega))
  have hf:=hO.frozen k
  have i8:=infoBlk hp8
  have s8:(bkC (putC b k n)).size=8:=by rw [bkC_size,hp8]
  have all8:=bkC_all (putC b k n)
  have hB:=below_row (((Below.refl w.heap.size w).alloc (Nat.le_refl _) (.cells ((bkC b).setIfInBounds k (.int .i64 n)) 74)).alloc (by simp) (.cells (bkC (List.replicate 8 0)) 74)) (g:=w.heap.size + 1) (by omega) ((bkC b).setIfInBounds k (.int .i64 n))
  rw [hg] at i8 s8 all8 ⊢
  rw [bkC_noughts] at hO hS hN hc hf hB
  have hN':=hid hN
  have hS':=hid hS
  have hB':=hid hB
  clear hN hS hO hg h hB
  generalize bkC b=cs at *
  go_enter Tryz.func129,Tryz.ntmps129
  go_wp2_with (first
   | (go_at_call 141;go_must ((with_reducible refine (ht _).mono ?_);rintro e w1 ⟨rfl,rfl⟩))
   | (refine wpList_load_row rfl 74 _ rfl w.heap.size rfl 74 _ (0,0) _ hS'.out Tryz.underlying74 rfl i8 ?_)
   | (refine wpList_store_row rfl 74 _ _ rfl (w.heap.size + 1) _ rfl rfl 74 _ hN'.out i8 (by rw [s8];rfl) all8 ?_))
  exact bodyPost_ret (v:=.agg (cs.setIfInBounds k (.int .i64 n))) (results_cell_row rfl _ _ (w.heap.size + 1) 74 _ (0,0) _ rfl (hN'.out.setRow _) Tryz.underlying74 rfl i8) rfl ⟨rfl,hB'.out⟩
 ·have ht:=there_any i false (decide_eq_false h)
  have hg:putC b i n=b:=by rw [putC,if_neg h]
  rw [hg] at hp8 ⊢
  have hS:=(Bk.new w 74 (bkC b)).alloc (.cells (bkC (List.replicate 8 0)) 74)
  have hN:Bk ((w.alloc (.cells (bkC b) 74)).alloc (.cells (bkC (List.replicate 8 0)) 74)) (w.heap.size + 1) 74 (bkC (List.replicate 8 0)):=heap_alloc2_new _ _ _
  have i8:=infoBlk hp8
  have s8:(bkC b).size=8:=by rw [bkC_size,hp8]
  have all8:=bkC_all b
  have hB:=below_row (((Below.refl w.heap.size w).alloc (Nat.le_refl _) (.cells (bkC b) 74)).alloc (by simp) (.cells (bkC (List.replicate 8 0)) 74)) (g:=w.heap.size + 1) (by omega) (bkC b)
  rw [bkC_noughts] at hS hN hB
  have hN':=hid hN
  have hS':=hid hS
  have hB':=hid hB
  clear hN hS hg h hB
  generalize bkC b=cs at *
  go_enter Tryz.func129,Tryz.ntmps129
  go_wp2_with (first
   | (go_at_call 141;go_must ((with_reducible refine (ht _).mono ?_);rintro e w1 ⟨rfl,rfl⟩))
   | (refine wpList_load_row rfl 74 _ rfl w.heap.size rfl 74 _ (0,0) _ hS'.out Tryz.underlying74 rfl i8 ?_)
   | (refine wpList_store_row rfl 74 _ _ rfl (w.heap.size + 1) _ rfl rfl 74 _ hN'.out i8 (by rw [s8];rfl) all8 ?_))
  exact bodyPost_ret (v:=.agg cs) (results_cell_row rfl _ _ (w.heap.size + 1) 74 _ (0,0) _ rfl (hN'.out.setRow _) Tryz.underlying74 rfl i8) rfl ⟨rfl,hB'.out⟩
end
section
open Go.RowKit
theorem rget_any (b:List Int) (h8:b.length=8) (i:Int) (w:World) :
  Calls Tryz.prog 88 #[.agg (bkC b),.int .i64 i] w fun e w'=>e=.returned (.int .i64 (getC b i))∧Below w.heap.size w w':=by
 by_cases h:0≤i∧i < 8
 ·obtain ⟨k,rfl⟩:=Int.eq_ofNat_of_zero_le h.1
  have hat:=bkC_at (b:=b) (i:=k) (by omega)
  have hg:getC b k=b[k]?.getD 0:=by rw [getC,if_pos h,Int.toNat_natCast]
  rw [hg]
  have hk:k < 8:=by omega
  have hbk:=Bk.new w 74 (bkC b)
  have hc:=(hbk.cell k).trans hat
  clear hbk hat hg h
  generalize bkC b=cs at *
  generalize b[k]?.getD 0=x at *
  go_enter Tryz.func88,Tryz.ntmps88
  go_wp2
  go_ret
  exact ⟨rfl,(Below.refl _ _).alloc (Nat.le_refl _) _⟩
 ·have ht:=there_any i false (decide_eq_false h)
  have hg:getC b i=0:=by rw [getC,if_neg h]
  rw [hg]
  have h2:i < 0∨(¬ i < 0∧8≤i):=by omega
  clear h8 hg h
  generalize bkC b=cs at *
  rcases h2 with d0 | ⟨d0,d1⟩
  ·have e0:decide (i < 0)=true:=decide_eq_true d0
   go_enter Tryz.func88,Tryz.ntmps88
   go_wp2
   go_ret
   exact ⟨rfl,(Below.refl _ _).alloc (Nat.le_refl _) _⟩
  ·have e0:decide (i < 0)=false:=decide_eq_false d0
   have e1:decide (8≤i)=true:=decide_eq_true d1
   go_enter Tryz.func88,Tryz.ntmps88
   go_wp2
   go_ret
   exact ⟨rfl,(Below.refl _ _).alloc (Nat.le_refl _) _⟩
theorem rput_any (b:List Int) (h8:b.length=8) (i n:Int) (w:World) :
  Calls Tryz.prog 90 #[.agg (bkC b),.int .i64 i,.int .i64 n] w fun e w'=>e=.returned (.agg (bkC (putC b i n)))∧Below w.heap.size w w':=by
 have hp8:(putC b i n).length=8:=by rw [putC_length,h8]
 by_cases h:0≤i∧i < 8
 ·obtain ⟨k,rfl⟩:=Int.eq_ofNat_of_zero_le h.1
  have hg:bkC (putC b k n)=(bkC b).setIfInBounds k (.int .i64 n):=by rw [putC,if_pos h,Int.toNat_natCast,bkC_set]
  have hk:k < 8:=by omega
  have hO:=(Bk.new w 74 (bkC b)).alloc (.cells (bkC (List.replicate 8 0)) 74)
  have hS:=(Bk.new w 74 ((bkC b).setIfInBounds k (.int .i64 n))).alloc (.cells (bkC (List.replicate 8 0)) 74)
  have hN:Bk ((w.alloc (.cells ((bkC b).setIfInBounds k (.int .i64 n)) 74)).alloc (.cells (bkC (List.replicate 8 0)) 74)) (w.heap.size + 1) 74 (bkC (List.replicate 8 0)):=heap_alloc2_new _ _ _
  have hc:=(hO.cell k).trans (bkC_at (b:=b) (i:=k) (by omega))
  have hf:=hO.frozen k
  have i8:=infoBlk hp8
  have s8:(bkC (putC b k n)).size=8:=by rw [bkC_size,hp8]
  have all8:=bkC_all (putC b k n)
  have hB:=below_row (((Below.refl w.heap.size w).alloc (Nat.le_refl _) (.cells ((bkC b).setIfInBounds k (.int .i64 n)) 74)).alloc (by simp) (.cells (bkC (List.replicate 8 0)) 74)) (g:=w.heap.size + 1) (by omega) ((bkC b).setIfInBounds k (.int .i64 n))
  rw [hg] at i8 s8 all8 ⊢
  rw [bkC_noughts] at hO hS hN hc hf hB
  have hN':=hid hN
  have hS':=hid hS
  have hB':=hid hB
  clear hN hS hO hg h hB
  generalize bkC b=cs at *
  go_enter Tryz.func90,Tryz.ntmps90
  go_wp2_with (first
   | (refine wpList_load_row rfl 74 _ rfl w.heap.size rfl 74 _ (0,0) _ hS'.out Tryz.underlying74 rfl i8 ?_)
   | (refine wpList_store_row rfl 74 _ _ rfl (w.heap.size + 1) _ rfl rfl 74 _ hN'.out i8 (by rw [s8];rfl) all8 ?_))
  exact bodyPost_ret (v:=.agg (cs.setIfInBounds k (.int .i64 n))) (results_cell_row rfl _ _ (w.heap.size + 1) 74 _ (0,0) _ rfl (hN'.out.setRow _) Tryz.underlying74 rfl i8) rfl ⟨rfl,hB'.out⟩
 ·have ht:=there_any i false (decide_eq_false h)
  have hg:putC b i n=b:=by rw [putC,if_neg h]
  rw [hg] at hp8 ⊢
  have hS:=(Bk.new w 74 (bkC b)).alloc (.cells (bkC (List.replicate 8 0)) 74)
  have hN:Bk ((w.alloc (.cells (bkC b) 74)).alloc (.cells (bkC (List.replicate 8 0)) 74)) (w.heap.size + 1) 74 (bkC (List.replicate 8 0)):=heap_alloc2_new _ _ _
  have i8:=infoBlk hp8
  have s8:(bkC b).size=8:=by rw [bkC_size,hp8]
  have all8:=bkC_all b
  have hB:=below_row (((Below.refl w.heap.size w).alloc (Nat.le_refl _) (.cells (bkC b) 74)).alloc (by simp) (.cells (bkC (List.replicate 8 0)) 74)) (g:=w.heap.size + 1) (by omega) (bkC b)
  rw [bkC_noughts] at hS hN hB
  have hN':=hid hN
  have hS':=hid hS
  have hB':=hid hB
  have h2:i < 0∨(¬ i < 0∧8≤i):=by omega
  clear hN hS hg h hB
  generalize bkC b=cs at *
  rcases h2 with d0 | ⟨d0,d1⟩
  ·have e0:decide (0≤i)=false:=decide_eq_false (by omega)
   go_enter Tryz.func90,Tryz.ntmps90
   go_wp2_with (first
    | (refine wpList_load_row rfl 74 _ rfl w.heap.size rfl 74 _ (0,0) _ hS'.out Tryz.underlying74 rfl i8 ?_)
    | (refine wpList_store_row rfl 74 _ _ rfl (w.heap.size + 1) _ rfl rfl 74 _ hN'.out i8 (by rw [s8];rfl) all8 ?_))
   exact bodyPost_ret (v:=.agg cs) (results_cell_row rfl _ _ (w.heap.size + 1) 74 _ (0,0) _ rfl (hN'.out.setRow _) Tryz.underlying74 rfl i8) rfl ⟨rfl,hB'.out⟩
  ·have e0:decide (0≤i)=true:=decide_eq_true (by omega)
   have e1:decide (i < 8)=false:=decide_eq_false (by omega)
   go_enter Tryz.func90,Tryz.ntmps90
   go_wp2_with (first
    | (refine wpList_load_row rfl 74 _ rfl w.heap.size rfl 74 _ (0,0) _ hS'.out Tryz.underlying74 rfl i8 ?_)
    | (refine wpList_store_row rfl 74 _ _ rfl (w.heap.size + 1) _ rfl rfl 74 _ hN'.out i8 (by rw [s8];rfl) all8 ?_))
   exact bodyPost_ret (v:=.agg cs) (results_cell_row rfl _ _ (w.heap.size + 1) 74 _ (0,0) _ rfl (hN'.out.setRow _) Tryz.underlying74 rfl i8) rfl ⟨rfl,hB'.out⟩
end
end Go.Proofs.YtpaocjpjlogkgaaGreat
