/-
  Words and contracts of this claim, 7 texts laid into one, each under its own remark. No conditions but those that stand at each.
-/
import Derived.Test.YtpaocjpjlogkgaaGreatQPooV
import Derived.Test.YtpaocjpjlogkgaaGreatQQueP
import Derived.Test.YtpaocjpjlogkgaaGreatZLckX
import Derived.Test.YtpaocjpjlogkgaaGreatQRely
import Derived.Test.YtpaocjpjlogkgaaGreatQTabA
import Derived.Test.YtpaocjpjlogkgaaGreatQLckRa
import Derived.Test.YtpaocjpjlogkgaaGreatQLckS
import Derived.Test.YtpaocjpjlogkgaaGreatZTabR
import Derived.Test.YtpaocjpjlogkgaaGreatQShdC
namespace Go.Proofs.YtpaocjpjlogkgaaGreat
set_option maxRecDepth 100000
set_option maxHeartbeats 32000000
open Go
open Go.Lib (hid)
section
open Go Go.RowKit
theorem isOne_any (m k:Int) (w:World):Calls Tryz.prog 33 #[.int .i64 m,.int .i64 k] w fun e w'=>e=.returned (.bool (decide (0≤k∧k < m)))∧w=w':=by
 by_cases h1:0≤k
 ·have d1:decide (0≤k)=true:=decide_eq_true h1
  by_cases h2:k < m
  ·have d2:decide (k < m)=true:=decide_eq_true h2
   have d3:decide (0≤k∧k < m)=true:=decide_eq_true ⟨h1,h2⟩
   rw [d3]
   go_enter Tryz.func33,Tryz.ntmps33
   go_wp2
   go_ret
   exact ⟨rfl,rfl⟩
  ·have d2:decide (k < m)=false:=decide_eq_false h2
   have d3:decide (0≤k∧k < m)=false:=decide_eq_false fun q=>h2 q.2
   rw [d3]
   go_enter Tryz.func33,Tryz.ntmps33
   go_wp2
   go_ret
   exact ⟨rfl,rfl⟩
 ·have d1:decide (0≤k)=false:=decide_eq_false h1
  have d3:decide (0≤k∧k < m)=false:=decide_eq_false fun q=>h1 q.1
  rw [d3]
  go_enter Tryz.func33,Tryz.ntmps33
  go_wp2
  go_ret
  exact ⟨rfl,rfl⟩
theorem free_any (n no:Nat) (H:Hd) (z:CwL) (u:Who) (t:TkL) (w:World) (hl:LkSl w z.wA n z.wc (lksW u n)) (hu:u.length≤1000) (ht:t.In w) (hm:MayBe t.x.c) (hf:fitsT t.x.c n) :
  Calls Tryz.prog 36 #[.agg (cwA n no H z),.agg (tkA t)] w fun e w'=>e=.returned (.bool (decide (t.wk < 0) && readyL (lksW u n) t.x.c t.s))∧Below w.heap.size w w':=by
 have hlk:=CmL.lk ht.cmd hm hf
 have hr:=hid (fun W (hW:Below w.heap.size w W)=>ready_who t.x.c t.x.ra t.x.nr t.x.rc t.x.wa t.x.nw t.x.wc t.x.aa t.x.na t.x.ac t.x.c.fuel t.x.ca t.x.nc t.x.cc u z.wA n z.wc t.s W (hl.below hW) hu (hlk.below hW))
 have b0:Below w.heap.size w ((w.alloc (.cells (cwA n no H z) 34)).alloc (.cells (tkA t) 67)):=bnext (below_alloc1 _ _) (below_alloc1 _ _)
 have kt:=Bk.new (w.alloc (.cells (cwA n no H z) 34)) 67 (tkA t)
 rw [World.size_alloc] at kt
 have B0:=hid b0
 have KT:=hid kt
 clear hl ht hm hf hlk b0 kt
 by_cases hk:t.wk < 0
 ·have d1:decide (t.wk < 0)=true:=decide_eq_true hk
  rw [d1,Bool.true_and]
  generalize readyL (lksW u n) t.x.c t.s=r at *
  go_enter Tryz.func36,Tryz.ntmps36
  go_wp2_with (first
   | (with_reducible refine ld_tcmd (w.heap.size + 1) KT.out _ rfl rfl rfl ?_)
   | (go_at_call 73;go_must ((with_reducible refine (hr.out _ B0.out).mono ?_);rintro e w1 ⟨rfl,hb1⟩;have B1:=hid (bnext B0.out hb1);clear hb1)))
  go_ret
  exact ⟨rfl,B1.out⟩
 ·have d1:decide (t.wk < 0)=false:=decide_eq_false hk
  rw [d1,Bool.false_and]
  go_enter Tryz.func36,Tryz.ntmps36
  go_wp2
  go_ret
  exact ⟨rfl,B0.out⟩
end
section
open Go Go.RowKit
attribute [local go_sem] look findAt
attribute [local simp] depsOf isV Region.binds
section
variable (n no:Nat) (H:Hd) (X:Crw) (z:CwL) (workers worker seq:Int) (w:World)
theorem pick_arg (h:CwIs n no X w z) (hin:¬ (0≤worker∧worker < workers)) :
  Calls Tryz.prog 12 #[.agg (cwA n no H z),.int .i64 workers,.int .i64 worker,.int .i64 seq] w (CwErr n no H X z 1 w):=by
 obtain ⟨W0,hW0⟩:∃ W,W=(w.alloc (.cells (cwA n no H z) 34)).alloc (.cells cwZ 34):=⟨_,rfl⟩
 obtain ⟨b0,kb,kr⟩:=cwW_is n no H z w
 rw [← hW0] at b0 kb kr
 have HW:=hid hW0
 have B0:=hid b0
 have K0:=hid kb
 have R0:=hid kr
 have H0:=hid h
 have hs0:w.heap.size + 2≤W0.heap.size:=by rw [hW0,World.size_alloc,World.size_alloc];omega
 clear h b0 kb kr hW0
 have d1:decide (0≤worker∧worker < workers)=false:=decide_eq_false hin
 have BE:=B0
 have KE:=K0
 have RE:=R0
 go_enter Tryz.func12,Tryz.ntmps12
 go_wp2_with (first
  | (go_at_call 33;rw [← HW.out];go_must ((with_reducible refine (isOne_any _ _ _).mono ?_);rintro e w1 ⟨rfl,rfl⟩;obtain ⟨-,-,p2,-,pl,-⟩:=K0.out.crew))
  | (with_reducible refine ld_cw w.heap.size KE.out _ rfl rfl rfl ?_)
  | (with_reducible refine st_cw (w.heap.size + 1) RE.out rfl n no H z _ _ rfl rfl rfl rfl ?_))
 exact bodyPost_ret (v:=.tuple #[.agg (cwA n no H z),.int .i64 1]) (res2_cw rfl _ _ (w.heap.size + 1) _ rfl rfl (Bk.setRow RE.out _)) rfl ⟨z,rfl,H0.out.below (below_row BE.out (by omega) _),below_row BE.out (by omega) _,fun _ _ q=>q⟩
theorem pick_busy (h:CwIs n no X w z) (hfew:X.tasks.length≤900) (hin:0≤worker∧worker < workers) (j:Nat) (ho:ofP X.tasks worker=some j) :
  Calls Tryz.prog 12 #[.agg (cwA n no H z),.int .i64 workers,.int .i64 worker,.int .i64 seq] w (CwErr n no H X z 15 w):=by
 obtain ⟨W0,hW0⟩:∃ W,W=(w.alloc (.cells (cwA n no H z) 34)).alloc (.cells cwZ 34):=⟨_,rfl⟩
 obtain ⟨b0,kb,kr⟩:=cwW_is n no H z w
 rw [← hW0] at b0 kb kr
 have HW:=hid hW0
 have B0:=hid b0
 have K0:=hid kb
 have R0:=hid kr
 have H0:=hid h
 have hs0:w.heap.size + 2≤W0.heap.size:=by rw [hW0,World.size_alloc,World.size_alloc];omega
 have hof:=hid (fun W (hW:Below w.heap.size w W)=>pof_is X.tasks z.tl z.tA z.tn z.tc W worker (H0.out.tk.below hW) (by have:=H0.out.tk.lenL;omega))
 rw [wk_some ho] at hof
 have d1:decide (0≤worker∧worker < workers)=true:=decide_eq_true hin
 have d3:decide ((0:Int)≤(j:Int))=true:=decide_eq_true (by omega)
 clear ho
 clear h b0 kb kr hW0
 go_enter Tryz.func12,Tryz.ntmps12
 go_wp2_with (first
  | (go_at_call 33;rw [← HW.out];go_must ((with_reducible refine (isOne_any _ _ _).mono ?_);rintro e w1 ⟨rfl,rfl⟩;obtain ⟨-,-,p2,-,pl,-⟩:=K0.out.crew))
  | (go_at_call 34;go_must ((with_reducible refine (hof.out _ B0.out).mono ?_);rintro e w2 ⟨rfl,hb2⟩;have B2:=hid (bnext B0.out hb2);have K2:=hid (K0.out.below hb2);have R2:=hid (R0.out.below hb2);clear hb2;obtain ⟨-,-,p2,-,pl,-⟩:=K2.out.crew))
  | (with_reducible refine ld_cw w.heap.size K2.out _ rfl rfl rfl ?_)
  | (with_reducible refine st_cw (w.heap.size + 1) R2.out rfl n no H z _ _ rfl rfl rfl rfl ?_))
 exact bodyPost_ret (v:=.tuple #[.agg (cwA n no H z),.int .i64 15]) (res2_cw rfl _ _ (w.heap.size + 1) _ rfl rfl (Bk.setRow R2.out _)) rfl ⟨z,rfl,H0.out.below (below_row B2.out (by omega) _),below_row B2.out (by omega) _,fun _ _ q=>q⟩
theorem pick_find (h:CwIs n no X w z) (hfew:X.tasks.length≤900) (hin:0≤worker∧worker < workers) (ho:ofP X.tasks worker=none) (hf:findP X.tasks seq=none) :
  Calls Tryz.prog 12 #[.agg (cwA n no H z),.int .i64 workers,.int .i64 worker,.int .i64 seq] w (CwErr n no H X z 16 w):=by
 obtain ⟨W0,hW0⟩:∃ W,W=(w.alloc (.cells (cwA n no H z) 34)).alloc (.cells cwZ 34):=⟨_,rfl⟩
 obtain ⟨b0,kb,kr⟩:=cwW_is n no H z w
 rw [← hW0] at b0 kb kr
 have HW:=hid hW0
 have B0:=hid b0
 have K0:=hid kb
 have R0:=hid kr
 have H0:=hid h
 have hs0:w.heap.size + 2≤W0.heap.size:=by rw [hW0,World.size_alloc,World.size_alloc];omega
 have hof:=hid (fun W (hW:Below w.heap.size w W)=>pof_is X.tasks z.tl z.tA z.tn z.tc W worker (H0.out.tk.below hW) (by have:=H0.out.tk.lenL;omega))
 rw [wk_none ho] at hof
 have hfi:=hid (fun W (hW:Below w.heap.size w W)=>pfind_is X.tasks z.tl z.tA z.tn z.tc W seq (H0.out.tk.below hW) (by have:=H0.out.tk.lenL;omega))
 rw [seq_none hf] at hfi
 have d1:decide (0≤worker∧worker < workers)=true:=decide_eq_true hin
 have d3:decide ((0:Int)≤-1)=false:=by decide
 have d4:decide ((-1:Int) < 0)=true:=by decide
 clear ho hf
 clear h b0 kb kr hW0
 go_enter Tryz.func12,Tryz.ntmps12
 go_wp2_with (first
  | (go_at_call 33;rw [← HW.out];go_must ((with_reducible refine (isOne_any _ _ _).mono ?_);rintro e w1 ⟨rfl,rfl⟩;obtain ⟨-,-,p2,-,pl,-⟩:=K0.out.crew))
  | (go_at_call 34;go_must ((with_reducible refine (hof.out _ B0.out).mono ?_);rintro e w2 ⟨rfl,hb2⟩;have B2:=hid (bnext B0.out hb2);have K2:=hid (K0.out.below hb2);have R2:=hid (R0.out.below hb2);clear hb2;obtain ⟨-,-,p2,-,pl,-⟩:=K2.out.crew))
  | (go_at_call 35;go_must ((with_reducible refine (hfi.out _ B2.out).mono ?_);rintro e w3 ⟨rfl,hb3⟩;have B3:=hid (bnext B2.out hb3);have K3:=hid (K2.out.below hb3);have R3:=hid (R2.out.below hb3);clear hb3;obtain ⟨-,-,p2,-,pl,-⟩:=K3.out.crew)))
 try simp only [List.append_eq,List.cons_append,List.nil_append]
 refine wp_region_saysK 9 (fun x y=>Below x.heap.size x y) (fun _ _ _ h k=>bnext h k) w3 (below_drew1 w3) (by kernel_rfl) (by kernel_rfl) (by kernel_rfl) (by kernel_rfl) (by rfl) ?_
 simp only [List.take_succ_cons,List.take_zero,List.drop_succ_cons,List.drop_zero]
 refine wkI (.int .i64 (-1)) (fun u X hX hd=>?_) ?_
 iterate 2
  ·skip
   try simp at hd
   go_simp
   try rfl
  refine wkI (.bool true) (fun u X hX hd=>?_) ?_
 ·skip
  try simp at hd
  go_simp
  try rfl
 iterate 5
  refine walkK_skip (st1 rfl rfl (by simp)) ?_
  refine wkN ?_
 refine walkK_skip (st1 rfl rfl (by simp)) ?_
 refine walkK_last ?_
 intro u X hX hsay
 have v1:=sayAll_put hsay 1 (.bool true) rfl
 have v2:=sayAll_put hsay 2 (.bool true) rfl
 clear hsay
 simp only [putAll,Act.put,v1,v2,List.setIfInBounds_toArray,List.set_cons_succ,List.set_cons_zero,Nat.zero_add,Nat.reduceAdd]
 have KE:=hid (K3.out.below hX)
 have RE:=hid (R3.out.below hX)
 have BE:=hid (bnext B3.out hX)
 clear hX v1 v2
 go_wp2_with (first
  | (with_reducible refine ld_cw w.heap.size KE.out _ rfl rfl rfl ?_)
  | (with_reducible refine st_cw (w.heap.size + 1) RE.out rfl n no H z _ _ rfl rfl rfl rfl ?_))
 exact bodyPost_ret (v:=.tuple #[.agg (cwA n no H z),.int .i64 16]) (res2_cw rfl _ _ (w.heap.size + 1) _ rfl rfl (Bk.setRow RE.out _)) rfl ⟨z,rfl,H0.out.below (below_row BE.out (by omega) _),below_row BE.out (by omega) _,fun _ _ q=>q⟩
theorem pick_has (h:CwIs n no X w z) (hfew:X.tasks.length≤900) (hg:goodL n X.tasks) (hin:0≤worker∧worker < workers) (ho:ofP X.tasks worker=none) (i:Nat) (hf:findP X.tasks seq=some i) (hno:0≤(tskAt X.tasks i).worker∨readyB (whoP X.tasks) seq (tskAt X.tasks i).cmd=false) :
  Calls Tryz.prog 12 #[.agg (cwA n no H z),.int .i64 workers,.int .i64 worker,.int .i64 seq] w (CwErr n no H X z 16 w):=by
 obtain ⟨W0,hW0⟩:∃ W,W=(w.alloc (.cells (cwA n no H z) 34)).alloc (.cells cwZ 34):=⟨_,rfl⟩
 obtain ⟨b0,kb,kr⟩:=cwW_is n no H z w
 rw [← hW0] at b0 kb kr
 have HW:=hid hW0
 have B0:=hid b0
 have K0:=hid kb
 have R0:=hid kr
 have H0:=hid h
 have hs0:w.heap.size + 2≤W0.heap.size:=by rw [hW0,World.size_alloc,World.size_alloc];omega
 have hof:=hid (fun W (hW:Below w.heap.size w W)=>pof_is X.tasks z.tl z.tA z.tn z.tc W worker (H0.out.tk.below hW) (by have:=H0.out.tk.lenL;omega))
 rw [wk_none ho] at hof
 have hfi:=hid (fun W (hW:Below w.heap.size w W)=>pfind_is X.tasks z.tl z.tA z.tn z.tc W seq (H0.out.tk.below hW) (by have:=H0.out.tk.lenL;omega))
 rw [seq_some hf] at hfi
 have d1:decide (0≤worker∧worker < workers)=true:=decide_eq_true hin
 have d3:decide ((0:Int)≤-1)=false:=by decide
 obtain ⟨hi,hsq⟩:=findP_some hf
 obtain ⟨t,ht,hts,hint,hfe⟩:=tk_is h.tk hi
 have hmf:=hg (tskAt X.tasks i) (List.mem_of_getElem? (tskAt_lt hi))
 have hc0:(tskAt X.tasks i).cmd=t.x.c:=by rw [← hts];rfl
 have hw0:(tskAt X.tasks i).worker=t.wk:=by rw [← hts];rfl
 have hs1:t.s=seq:=by rw [← hsq,← hts];rfl
 rw [hc0] at hmf
 have hfv:(decide (t.wk < 0) && readyL (lksW (whoP X.tasks) n) t.x.c t.s)=false:=by
  rcases hno with q | q
  ·rw [decide_eq_false (by omega)];rfl
  ·rw [hs1,readyB_L hmf.1.sets hmf.2,← hc0,q,Bool.and_false]
 obtain ⟨b,off,hA,hat⟩:=h.tk.sl.lies ht
 have HAT:=hid hat
 have hitn:i < z.tn:=by have:=h.tk.lenL;omega
 have hcap:z.tn≤z.tc:=by have:=h.tk.sl.cap;rw [h.tk.len] at this;exact this
 have e1:(i:Int) < (z.tn:Int):=by omega
 have e2:(i:Int) < (z.tc:Int):=by omega
 have e3:decide ((i:Int) < 0)=false:=decide_eq_false (by omega)
 have e4:¬ (i:Int) < 0:=by omega
 have hfr:=hid (fun W (hW:Below w.heap.size w W)=>free_any n no H z (whoP X.tasks) t W (H0.out.wt.sl.below hW) (by rw [whoP_len];omega) (hint.below hW) hmf.1 hmf.2)
 rw [show (decide (t.wk < 0) && readyL (lksW (whoP X.tasks) n) t.x.c t.s)=false from hfv] at hfr
 have HA:=hid hA
 have HT:=hid hts
 clear ho hf hg hno hfv hi hsq ht hts hint hfe hmf hc0 hw0 hs1 hat hA hitn hcap
 clear h b0 kb kr hW0
 go_enter Tryz.func12,Tryz.ntmps12
 go_wp2_with (first
  | (go_at_call 33;rw [← HW.out];go_must ((with_reducible refine (isOne_any _ _ _).mono ?_);rintro e w1 ⟨rfl,rfl⟩;obtain ⟨-,-,p2,-,pl,-⟩:=K0.out.crew))
  | (go_at_call 34;go_must ((with_reducible refine (hof.out _ B0.out).mono ?_);rintro e w2 ⟨rfl,hb2⟩;have B2:=hid (bnext B0.out hb2);have K2:=hid (K0.out.below hb2);have R2:=hid (R0.out.below hb2);clear hb2;obtain ⟨-,-,p2,-,pl,-⟩:=K2.out.crew))
  | (go_at_call 35;go_must ((with_reducible refine (hfi.out _ B2.out).mono ?_);rintro e w3 ⟨rfl,hb3⟩;have B3:=hid (bnext B2.out hb3);have K3:=hid (K2.out.below hb3);have R3:=hid (R2.out.below hb3);clear hb3;obtain ⟨-,-,p2,-,pl,-⟩:=K3.out.crew)))
 try simp only [List.append_eq,List.cons_append,List.nil_append]
 refine wp_region_saysK 9 (fun x y=>Below x.heap.size x y) (fun _ _ _ h k=>bnext h k) w3 (below_drew1 w3) (by kernel_rfl) (by kernel_rfl) (by kernel_rfl) (by kernel_rfl) (by rfl) ?_
 simp only [List.take_succ_cons,List.take_zero,List.drop_succ_cons,List.drop_zero]
 refine wkI (.int .i64 (i:Int)) (fun u X' hX hd=>?_) ?_
 iterate 2
  ·obtain ⟨p0,p1,p2,p3,pl,-⟩:=(K3.out.below hX).crew
   rw [HA.out] at p2
   try simp at hd
   go_simp
   try rfl
  refine wkI (.bool false) (fun u X' hX hd=>?_) ?_
 ·obtain ⟨p0,p1,p2,p3,pl,-⟩:=(K3.out.below hX).crew
  rw [HA.out] at p2
  try simp at hd
  go_simp
  try rfl
 refine wkI (.agg (cwA n no H z)) (fun u X' hX hd=>?_) ?_
 ·have hl:=run_loadVar_row X' w.heap.size 34 34 _ (0,0) _ (K3.out.below hX) Tryz.underlying34 rfl infoCrw
  try simp at hd
  refine op_load_at 34 (w.heap.size) (0) hl _ rfl ?_
  go_simp
 refine wkI ?_ (fun u X' hX hd=>?_) ?_
 rotate_left
 ·obtain ⟨p0,p1,p2,p3,pl,-⟩:=(K3.out.below hX).crew
  rw [HA.out] at p2
  try simp at hd
  go_simp
  try rfl
 refine wkI (.slice (some ⟨b,off,none⟩) z.tn z.tc) (fun u X' hX hd=>?_) ?_
 ·obtain ⟨p0,p1,p2,p3,pl,-⟩:=(K3.out.below hX).crew
  rw [HA.out] at p2
  try simp at hd
  go_simp
  try rfl
 refine wkI (.int .i64 (i:Int)) (fun u X' hX hd=>?_) ?_
 ·obtain ⟨p0,p1,p2,p3,pl,-⟩:=(K3.out.below hX).crew
  rw [HA.out] at p2
  try simp at hd
  go_simp
  try rfl
 refine wkI (.pointer (some ⟨b,off + i * 18,none⟩)) (fun u X' hX hd=>?_) ?_
 ·obtain ⟨p0,p1,p2,p3,pl,-⟩:=(K3.out.below hX).crew
  rw [HA.out] at p2
  try simp at hd
  go_simp
  try rfl
 refine walkK_is (.agg (tkA t)) (by first | exact gs0 rfl | exact gs1 rfl rfl rfl) (fun _=>Below.refl _ _) (fun u X' hX hd=>?_) ?_
 ·have hl:=run_loadVar_mid X' b (off + i * 18) 67 (tkC t) _ (HAT.out X' (bnext B3.out hX)).all Tryz.underlying67 rfl infoTk
  try simp at hd
  refine op_load_at 67 (b) (off + i * 18) hl _ rfl ?_
  go_simp
 refine walkK_last ?_
 intro u X' hX hsay
 have v1:=sayAll_put hsay 1 (.bool false) rfl
 have v2:=sayAll_put hsay 2 (.bool false) rfl
 have v3:=sayAll_put hsay 3 (.agg (cwA n no H z)) rfl
 have v8:=sayAll_put hsay 8 (.agg (tkA t)) rfl
 clear hsay
 simp only [putAll,Act.put,v1,v2,v3,v8,List.setIfInBounds_toArray,List.set_cons_succ,List.set_cons_zero,Nat.zero_add,Nat.reduceAdd]
 have K4:=hid (K3.out.below hX)
 have R4:=hid (R3.out.below hX)
 have B4:=hid (bnext B3.out hX)
 clear hX v1 v2 v3 v8
 go_wp2_with (first
  | (go_at_call 36;go_must ((with_reducible refine (hfr.out _ B4.out).mono ?_);rintro e w5 ⟨rfl,hb5⟩;have B5:=hid (bnext B4.out hb5);have K5:=hid (K4.out.below hb5);have R5:=hid (R4.out.below hb5);clear hb5))
  | (with_reducible refine ld_cw w.heap.size K5.out _ rfl rfl rfl ?_)
  | (with_reducible refine st_cw (w.heap.size + 1) R5.out rfl n no H z _ _ rfl rfl rfl rfl ?_))
 exact bodyPost_ret (v:=.tuple #[.agg (cwA n no H z),.int .i64 16]) (res2_cw rfl _ _ (w.heap.size + 1) _ rfl rfl (Bk.setRow R5.out _)) rfl ⟨z,rfl,H0.out.below (below_row B5.out (by omega) _),below_row B5.out (by omega) _,fun _ _ q=>q⟩
theorem pick_yes (h:CwIs n no X w z) (hfew:X.tasks.length≤900) (hg:goodL n X.tasks) (hid0:∀ T∈X.tasks,T.worker < 0→T.m=newM T.cmd) (hin:0≤worker∧worker < workers) (ho:ofP X.tasks worker=none) (i:Nat) (hf:findP X.tasks seq=some i) (hwn:(tskAt X.tasks i).worker < 0) (hrd:readyB (whoP X.tasks) seq (tskAt X.tasks i).cmd=true) :
  Calls Tryz.prog 12 #[.agg (cwA n no H z),.int .i64 workers,.int .i64 worker,.int .i64 seq] w (CwErr n no H { X with tasks:=X.tasks.set i { tskAt X.tasks i with worker:=worker,own:=loadT X.blocks (tskAt X.tasks i).cmd } } z 0 w):=by
 obtain ⟨W0,hW0⟩:∃ W,W=(w.alloc (.cells (cwA n no H z) 34)).alloc (.cells cwZ 34):=⟨_,rfl⟩
 obtain ⟨b0,kb,kr⟩:=cwW_is n no H z w
 rw [← hW0] at b0 kb kr
 have HW:=hid hW0
 have B0:=hid b0
 have K0:=hid kb
 have R0:=hid kr
 have H0:=hid h
 have hs0:w.heap.size + 2≤W0.heap.size:=by rw [hW0,World.size_alloc,World.size_alloc];omega
 have hof:=hid (fun W (hW:Below w.heap.size w W)=>pof_is X.tasks z.tl z.tA z.tn z.tc W worker (H0.out.tk.below hW) (by have:=H0.out.tk.lenL;omega))
 rw [wk_none ho] at hof
 have hfi:=hid (fun W (hW:Below w.heap.size w W)=>pfind_is X.tasks z.tl z.tA z.tn z.tc W seq (H0.out.tk.below hW) (by have:=H0.out.tk.lenL;omega))
 rw [seq_some hf] at hfi
 have d1:decide (0≤worker∧worker < workers)=true:=decide_eq_true hin
 have d3:decide ((0:Int)≤-1)=false:=by decide
 obtain ⟨hi,hsq⟩:=findP_some hf
 obtain ⟨t,ht,hts,hint,hfe⟩:=tk_is h.tk hi
 have hmf:=hg (tskAt X.tasks i) (List.mem_of_getElem? (tskAt_lt hi))
 have hc0:(tskAt X.tasks i).cmd=t.x.c:=by rw [← hts];rfl
 have hw0:(tskAt X.tasks i).worker=t.wk:=by rw [← hts];rfl
 have hs1:t.s=seq:=by rw [← hsq,← hts];rfl
 rw [hc0] at hmf
 have hfv:(decide (t.wk < 0) && readyL (lksW (whoP X.tasks) n) t.x.c t.s)=true:=by
  rw [decide_eq_true (by omega),hs1,readyB_L hmf.1.sets hmf.2,← hc0,hrd]
  rfl
 obtain ⟨b,off,hA,hat⟩:=h.tk.sl.lies ht
 have HAT:=hid hat
 have hitn:i < z.tn:=by have:=h.tk.lenL;omega
 have hcap:z.tn≤z.tc:=by have:=h.tk.sl.cap;rw [h.tk.len] at this;exact this
 have e1:(i:Int) < (z.tn:Int):=by omega
 have e2:(i:Int) < (z.tc:Int):=by omega
 have e3:decide ((i:Int) < 0)=false:=decide_eq_false (by omega)
 have e4:¬ (i:Int) < 0:=by omega
 have hfr:=hid (fun W (hW:Below w.heap.size w W)=>free_any n no H z (whoP X.tasks) t W (H0.out.wt.sl.below hW) (by rw [whoP_len];omega) (hint.below hW) hmf.1 hmf.2)
 rw [show (decide (t.wk < 0) && readyL (lksW (whoP X.tasks) n) t.x.c t.s)=true from hfv] at hfr
 have HIN:=hid hint
 have HFE:=hid hfe
 have hll:(loadT X.blocks t.x.c).length=t.x.nr + t.x.nw:=by
  rw [load_length]
  have q1:t.x.c.reads.length=t.x.nr:=hint.cmd.lr
  have q2:t.x.c.writes.length=t.x.nw:=hint.cmd.lw
  omega
 have h8:∀ x∈loadT X.blocks t.x.c,x.length=8:=load_good h.e8 hmf.1.sets (by rw [h.len];exact hmf.2)
 have hidle:t.m=newM t.x.c:=by
  have:=hid0 (tskAt X.tasks i) (List.mem_of_getElem? (tskAt_lt hi)) hwn
  rw [← hts] at this
  exact this
 have hlo:=hid (fun W (hW:Below w.heap.size w W)=>load_tk X.blocks z.bA n z.bc t W (hint.below hW) hmf.1 (H0.out.bl.below hW) H0.out.e8 (by rw [H0.out.len];exact hmf.2) H0.out.len hll h8)
 have hwi:=hid (fun W (u:TkL) (hW:Below w.heap.size w W) (hu:u.In W) (hq:u.tsk={ tskAt X.tasks i with worker:=worker,own:=loadT X.blocks (tskAt X.tasks i).cmd })=>pwith_off X.tasks z.tl z.tA z.tn z.tc W i u (H0.out.tk.below hW) hitn (by have:=H0.out.tk.lenL;omega) hu (load_few (l:=X.blocks) hmf.1 hu worker (by rw [hq,← hts];rfl) hidle))
 have HS:=hid hts
 have HTM:=hid (List.mem_of_getElem? ht)
 have HWH:Hid (whoP (X.tasks.set i { tskAt X.tasks i with worker:=worker,own:=loadT X.blocks (tskAt X.tasks i).cmd })=whoP X.tasks):=hid (whoP_set (tskAt_lt hi) rfl rfl)
 have HA:=hid hA
 clear ho hf hg hid0 hwn hrd hfv hi hsq ht hts hint hfe hmf hc0 hw0 hs1 hat hA hitn hcap hll h8 hidle
 clear h b0 kb kr hW0
 go_enter Tryz.func12,Tryz.ntmps12
 go_wp2_with (first
  | (go_at_call 33;rw [← HW.out];go_must ((with_reducible refine (isOne_any _ _ _).mono ?_);rintro e w1 ⟨rfl,rfl⟩;obtain ⟨-,-,p2,-,pl,-⟩:=K0.out.crew))
  | (go_at_call 34;go_must ((with_reducible refine (hof.out _ B0.out).mono ?_);rintro e w2 ⟨rfl,hb2⟩;have B2:=hid (bnext B0.out hb2);have K2:=hid (K0.out.below hb2);have R2:=hid (R0.out.below hb2);clear hb2;obtain ⟨-,-,p2,-,pl,-⟩:=K2.out.crew))
  | (go_at_call 35;go_must ((with_reducible refine (hfi.out _ B2.out).mono ?_);rintro e w3 ⟨rfl,hb3⟩;have B3:=hid (bnext B2.out hb3);have K3:=hid (K2.out.below hb3);have R3:=hid (R2.out.below hb3);clear hb3;obtain ⟨-,-,p2,-,pl,-⟩:=K3.out.crew)))
 try simp only [List.append_eq,List.cons_append,List.nil_append]
 refine wp_region_saysK 9 (fun x y=>Below x.heap.size x y) (fun _ _ _ h k=>bnext h k) w3 (below_drew1 w3) (by kernel_rfl) (by kernel_rfl) (by kernel_rfl) (by kernel_rfl) (by rfl) ?_
 simp only [List.take_succ_cons,List.take_zero,List.drop_succ_cons,List.drop_zero]
 refine wkI (.int .i64 (i:Int)) (fun u X' hX hd=>?_) ?_
 iterate 2
  ·obtain ⟨p0,p1,p2,p3,pl,-⟩:=(K3.out.below hX).crew
   rw [HA.out] at p2
   try simp at hd
   go_simp
   try rfl
  refine wkI (.bool false) (fun u X' hX hd=>?_) ?_
 ·obtain ⟨p0,p1,p2,p3,pl,-⟩:=(K3.out.below hX).crew
  rw [HA.out] at p2
  try simp at hd
  go_simp
  try rfl
 refine wkI (.agg (cwA n no H z)) (fun u X' hX hd=>?_) ?_
 ·have hl:=run_loadVar_row X' w.heap.size 34 34 _ (0,0) _ (K3.out.below hX) Tryz.underlying34 rfl infoCrw
  try simp at hd
  refine op_load_at 34 (w.heap.size) (0) hl _ rfl ?_
  go_simp
 refine wkI ?_ (fun u X' hX hd=>?_) ?_
 rotate_left
 ·obtain ⟨p0,p1,p2,p3,pl,-⟩:=(K3.out.below hX).crew
  rw [HA.out] at p2
  try simp at hd
  go_simp
  try rfl
 refine wkI (.slice (some ⟨b,off,none⟩) z.tn z.tc) (fun u X' hX hd=>?_) ?_
 ·obtain ⟨p0,p1,p2,p3,pl,-⟩:=(K3.out.below hX).crew
  rw [HA.out] at p2
  try simp at hd
  go_simp
  try rfl
 refine wkI (.int .i64 (i:Int)) (fun u X' hX hd=>?_) ?_
 ·obtain ⟨p0,p1,p2,p3,pl,-⟩:=(K3.out.below hX).crew
  rw [HA.out] at p2
  try simp at hd
  go_simp
  try rfl
 refine wkI (.pointer (some ⟨b,off + i * 18,none⟩)) (fun u X' hX hd=>?_) ?_
 ·obtain ⟨p0,p1,p2,p3,pl,-⟩:=(K3.out.below hX).crew
  rw [HA.out] at p2
  try simp at hd
  go_simp
  try rfl
 refine walkK_is (.agg (tkA t)) (by first | exact gs0 rfl | exact gs1 rfl rfl rfl) (fun _=>Below.refl _ _) (fun u X' hX hd=>?_) ?_
 ·have hl:=run_loadVar_mid X' b (off + i * 18) 67 (tkC t) _ (HAT.out X' (bnext B3.out hX)).all Tryz.underlying67 rfl infoTk
  try simp at hd
  refine op_load_at 67 (b) (off + i * 18) hl _ rfl ?_
  go_simp
 refine walkK_last ?_
 intro u X' hX hsay
 have v1:=sayAll_put hsay 1 (.bool false) rfl
 have v2:=sayAll_put hsay 2 (.bool false) rfl
 have v3:=sayAll_put hsay 3 (.agg (cwA n no H z)) rfl
 have v8:=sayAll_put hsay 8 (.agg (tkA t)) rfl
 clear hsay
 simp only [putAll,Act.put,v1,v2,v3,v8,List.setIfInBounds_toArray,List.set_cons_succ,List.set_cons_zero,Nat.zero_add,Nat.reduceAdd]
 have K4:=hid (K3.out.below hX)
 have R4:=hid (R3.out.below hX)
 have B4:=hid (bnext B3.out hX)
 clear hX v1 v2 v3 v8
 go_wp2_with (first
  | (go_at_call 36;go_must ((with_reducible refine (hfr.out _ B4.out).mono ?_);rintro e w5 ⟨rfl,hb5⟩;have B5:=hid (bnext B4.out hb5);have K5:=hid (K4.out.below hb5);have R5:=hid (R4.out.below hb5);clear hb5;obtain ⟨-,-,p2,-,pl,-⟩:=K5.out.crew;rw [HA.out] at p2;have hbl:=(HAT.out w5 B5.out).lt;have HR5:=hid (HAT.out w5 B5.out).all;have KZ:=hid (Bk.new w5 67 tkZ);obtain ⟨w6,hw6⟩:∃ w6,w6=(w5.alloc (.cells tkZ 67)).setRow w5.heap.size (tkA t):=⟨_,rfl⟩;have HW6:=hid hw6.symm;have b56:Below w5.heap.size w5 w6:=(by rw [hw6];exact below_row (below_alloc1 _ _) (Nat.le_refl _) _);have hs6:w5.heap.size < w6.heap.size:=(by rw [hw6];simp);have K6:Hid (Bk w6 w5.heap.size 67 (tkA t)):=hid (by rw [hw6];exact KZ.out.setRow _);have C6:=hid (K5.out.below b56);have R6:=hid (R5.out.below b56);have B6:=hid (bnext B5.out b56);have hs5:w.heap.size + 2≤w5.heap.size:=(by have:=R5.out.lt;omega);obtain ⟨q0,-,q2,-,ql,-⟩:=C6.out.crew;rw [HA.out] at q2;clear hw6 b56))
  | (with_reducible refine ld_tskm b (off + i * 18) HR5.out _ rfl rfl rfl ?_)
  | (with_reducible refine st_tsk w5.heap.size KZ.out rfl t _ _ rfl rfl rfl rfl ?_;rw [HW6.out])
  | (with_reducible refine ld_tcmd w5.heap.size K6.out _ rfl rfl rfl ?_)
  | (go_at_call 37;go_must ((with_reducible refine (hlo.out _ B6.out).mono ?_);rintro e w7 ⟨bA,bc,rfl,hin7,hb7,hov⟩;have I7:=hid hin7;have OV:=hid hov;have B7:=hid (bnext B6.out hb7);have K7:=hid (K6.out.below hb7);have C7:=hid (C6.out.below hb7);have R7:=hid (R6.out.below hb7);have hs7:w6.heap.size≤w7.heap.size:=hb7.size;clear hin7 hb7 hov q0 q2 ql p2 pl;obtain ⟨-,-,-,-,k16,k17,kl,kf⟩:=K7.out.tskv;obtain ⟨-,-,r2,-,rl,rf⟩:=C7.out.crew;have hne1:w5.heap.size≠w.heap.size:=(by omega);have hne2:w.heap.size≠w5.heap.size:=(by omega);obtain ⟨t8,ht8⟩:∃ u,u=({ t with wk:=worker,own:=loadT X.blocks t.x.c,bA:=bA,bn:=t.x.nr + t.x.nw,bc:=bc }:TkL):=⟨_,rfl⟩;have HT8:=hid ht8;have k8:Bk ((w7.setCell ⟨w5.heap.size,17,none⟩ (.int .i64 worker)).setCell ⟨w5.heap.size,16,none⟩ (.slice bA (t.x.nr + t.x.nw) bc)) w5.heap.size 67 (tkA t8):=(by rw [ht8];exact (K7.out.tK worker).tO (loadT X.blocks t.x.c) bA (t.x.nr + t.x.nw) bc);have c8:Bk ((w7.setCell ⟨w5.heap.size,17,none⟩ (.int .i64 worker)).setCell ⟨w5.heap.size,16,none⟩ (.slice bA (t.x.nr + t.x.nw) bc)) w.heap.size 34 (cwA n no H z):=((C7.out.far hne2 _).far hne2 _);have b8:Below w.heap.size w ((w7.setCell ⟨w5.heap.size,17,none⟩ (.int .i64 worker)).setCell ⟨w5.heap.size,16,none⟩ (.slice bA (t.x.nr + t.x.nw) bc)):=((B7.out.setCell (p:=⟨w5.heap.size,17,none⟩) (by show w.heap.size≤w5.heap.size;omega) _).setCell (p:=⟨w5.heap.size,16,none⟩) (by show w.heap.size≤w5.heap.size;omega) _);have toff:∀ G,w.heap.size≤G→G < w6.heap.size→t8.Off G:=(fun G h1 h2=>by rw [ht8];exact ⟨(HIN.out.off_ge h1).x,(HIN.out.off_ge h1).m.1,(HIN.out.off_ge h1).m.2.1,OV.out.off h2⟩);have ti:t8.In w7:=(by rw [ht8];exact ⟨I7.out.cmd,I7.out.mac,I7.out.four,I7.out.own,I7.out.eight⟩);have hq8:t8.tsk={ tskAt X.tasks i with worker:=worker,own:=loadT X.blocks (tskAt X.tasks i).cmd }:=(by rw [ht8,← HS.out];rfl);have hto:=toff w5.heap.size (by omega) hs6;have hwi8:=hwi.out _ t8 b8 ((ti.setCell hto 17 (.int .i64 worker)).setCell hto 16 (.slice bA (t.x.nr + t.x.nw) bc)) hq8;rw [HA.out] at hwi8;have TO:=hid toff;have HQ:=hid hq8;have HWI:=hid hwi8;have R8:=hid ((R7.out.far (p:=⟨w5.heap.size,17,none⟩) (by show w.heap.size + 1≠w5.heap.size;omega) (.int .i64 worker)).far (p:=⟨w5.heap.size,16,none⟩) (by show w.heap.size + 1≠w5.heap.size;omega) (.slice bA (t.x.nr + t.x.nw) bc));have B8:=hid b8;have hs8:w6.heap.size≤((w7.setCell ⟨w5.heap.size,17,none⟩ (.int .i64 worker)).setCell ⟨w5.heap.size,16,none⟩ (.slice bA (t.x.nr + t.x.nw) bc)).heap.size:=(by simp [World.setCell];omega);have HS8:=hid hs8;have K8:=hid k8;have C8:=hid c8;obtain ⟨-,-,s2,-,sl,-⟩:=c8.crew;rw [HA.out] at s2;clear k8 c8 ht8 b8 toff ti hq8 hto hwi8 hs8))
  | (with_reducible refine ld_tsk w5.heap.size K8.out _ rfl rfl rfl ?_)
  | (go_at_call 38;go_must ((with_reducible refine HWI.out.mono ?_);rintro e w9 ⟨A9,c9,l9,rfl,hT9,hb9,ho9⟩;have T9:=hid hT9;have O9:=hid ho9;have HS9:=hid hb9.size;have B9:=hid (bnext B8.out hb9);have C9:=hid (C8.out.below hb9);have R9:=hid (R8.out.below hb9);obtain ⟨-,-,u2,-,ul,uf⟩:=C9.out.crew;clear hT9 hb9 ho9 s2 sl r2 rl rf k16 k17 kl kf;have C10:=hid (C9.out.cT A9 z.tn c9 l9);have R10:=hid (R9.out.far (p:=⟨w.heap.size,2,none⟩) (by show w.heap.size + 1≠w.heap.size;omega) (.slice A9 z.tn c9))))
  | (with_reducible refine ld_cw w.heap.size C10.out _ rfl rfl rfl ?_)
  | (with_reducible refine st_cw (w.heap.size + 1) R10.out rfl n no H { z with tA:=A9,tn:=z.tn,tc:=c9,tl:=l9 } _ _ rfl rfl rfl rfl ?_))
 have BF:Below w.heap.size w ((w9.setCell ⟨w.heap.size,2,none⟩ (.slice A9 z.tn c9)).setRow (w.heap.size + 1) (cwA n no H { z with tA:=A9,tn:=z.tn,tc:=c9,tl:=l9 })):=below_row (B9.out.setCell (p:=⟨w.heap.size,2,none⟩) (Nat.le_refl _) _) (by omega) _
 have hP:∀ G,w.heap.size≤G→G < w5.heap.size→TkOffs G A9 z.tn l9:=fun G h1 h2=>O9.out G (by have:=HS8.out;omega) ⟨by rw [← HA.out];exact H0.out.tk.off_ge h1,TO.out G h1 (by omega)⟩
 have TF:=(T9.out.keep (hP w.heap.size (Nat.le_refl _) (by omega)) (OneOff.setCell w9 w.heap.size 2 (.slice A9 z.tn c9))).keep (hP (w.heap.size + 1) (by omega) (by omega)) (OneOff.setRow _ (w.heap.size + 1) (cwA n no H { z with tA:=A9,tn:=z.tn,tc:=c9,tl:=l9 }))
 rw [HQ.out] at TF
 have IS:=H0.out.withT BF TF HWH.out
 have hsz:w.heap.size≤w6.heap.size:=by omega
 have hsF:w.heap.size≤((w7.setCell ⟨w5.heap.size,17,none⟩ (.int .i64 worker)).setCell ⟨w5.heap.size,16,none⟩ (.slice bA (t.x.nr + t.x.nw) bc)).heap.size:=Nat.le_trans hsz HS8.out
 exact bodyPost_ret (v:=.tuple #[.agg (cwA n no H { z with tA:=A9,tn:=z.tn,tc:=c9,tl:=l9 }),.int .i64 0]) (res2_cw rfl _ _ (w.heap.size + 1) _ rfl rfl (Bk.setRow R10.out _)) rfl ⟨_,rfl,IS,BF,fun G hG q=>⟨q.b,O9.out G (Nat.lt_of_lt_of_le hG hsF) ⟨by rw [← HA.out];exact q.t,by rw [HT8.out];exact ⟨(q.t.2 t HTM.out).x,(q.t.2 t HTM.out).m.1,(q.t.2 t HTM.out).m.2.1,OV.out.off (Nat.lt_of_lt_of_le hG hsz)⟩⟩,q.r,q.o,q.k⟩⟩
end
end
section
open Go Go.RowKit
theorem ld_cmdv {ops:Array Oper} {rest:List Oper} {o:Oper} {a:Act} {w:World} {Q:Exit→Act→World→Prop} (g:Nat) {v1 v2 v3 v4 v5:Value} (hk:Bk w g 56 #[v1,v2,v3,v4,v5]) (x:Operand) (hgd:o.guard=none) (ho:o.op=.load 56 x) (hx:a.eval x=.pointer (some ⟨g,0,none⟩))
  (h:wpList Tryz.prog ops Q rest (a.put o.dst (.agg #[v1,v2,v3,v4,v5])) w):wpList Tryz.prog ops Q (o :: rest) a w:=
 wpList_load_row hgd _ x ho g hx _ _ (0,0) _ hk Tryz.underlying56 rfl infoCm5 h
def AddPost (n no:Nat) (H:Hd) (X:Crw) (w:World) (e:Ending) (w':World):Prop:=∃ z,e=.returned (.agg (cwA n no H z))∧CwIs n no X w' z∧Below w.heap.size w w'
def AddOff (n no:Nat) (H:Hd) (X:Crw) (z0:CwL) (l:List CmL) (w:World) (e:Ending) (w':World):Prop:=∃ z,e=.returned (.agg (cwA n no H z))∧CwIs n no X w' z∧Below w.heap.size w w'∧∀ G,G < w.heap.size→CwOff G n no z0→(∀ x∈l,x.Off G)→CwOff G n no z
theorem whoP_addX (X:Crw) (f:Nat→Int) (l:List CmL) (i:Nat):whoP (addX X f l i).tasks=whoP X.tasks ++ whoG f l i:=by
 show whoP (X.tasks ++ newG f l i)=_
 rw [show whoP (X.tasks ++ newG f l i)=whoP X.tasks ++ whoP (newG f l i) by simp [whoP],whoP_newG]
theorem CwIs.more {n no:Nat} {X:Crw} {f:Nat→Int} {l:List CmL} {i:Nat} {x:CmL} {w:World} {z:CwL} (h:CwIs n no (addX X f l i) w z) (hx:l[i]? = some x) {W:World} (hb:CwIs n no (addX X f l i) W z) {A1:Option Addr} {m1 c1:Nat} {l1:List TkL} (hT:TkIs ((addX X f l i).tasks ++ [newP (f i) x.c]) W A1 m1 c1 l1) {A2:Option Addr} {c2:Nat} (hW:LkOwn 0 W A2 n c2 (lksW (whoP (addX X f l i).tasks ++ [(f i,x.c)]) n)) :
  CwIs n no (addX X f l (i + 1)) W { z with tA:=A1,tn:=m1,tc:=c1,tl:=l1,wA:=A2,wc:=c2 }:=by
 have e1:(addX X f l (i + 1)).tasks=(addX X f l i).tasks ++ [newP (f i) x.c]:=by
  show X.tasks ++ newG f l (i + 1)=X.tasks ++ newG f l i ++ [newP (f i) x.c]
  rw [newG_succ f hx,List.append_assoc]
 refine ⟨h.len,hb.bl,h.e8,?_,by rw [e1];exact hT,hb.rs,h.on,hb.mark⟩
 rw [whoP_addX,whoG_succ f hx,← List.append_assoc,← whoP_addX]
 exact hW
section
variable (n no:Nat) (H:Hd) (X:Crw) (z:CwL) (l:List CmL) (A:Option Addr) (ln c:Nat) (first:Int) (w:World)
theorem cadd_off (h:CwIs n no X w z) (hl:Cmds w A c l) (hN:l.length=ln) (hr:∀ x∈l,MayBe x.c∧fitsT x.c n) (hfew:X.tasks.length + ln≤900) (hn:n≤1000) (hf:0≤first∧first≤1000000000000000) :
  Calls Tryz.prog 8 #[.agg (cwA n no H z),.slice A ln c,.int .i64 first] w (AddOff n no H (addX X (fun j:Nat=>first + (j:Int)) l ln) z l w):=by
 obtain ⟨W0,hW0⟩:∃ W,W=(w.alloc (.cells (cwA n no H z) 34)).alloc (.cells cwZ 34):=⟨_,rfl⟩
 obtain ⟨b0,kb,kr⟩:=cwW_is n no H z w
 rw [← hW0] at b0 kb kr
 have hs0:w.heap.size + 2≤W0.heap.size:=by rw [hW0,World.size_alloc,World.size_alloc];omega
 obtain ⟨F,hF⟩:∃ F:Nat→Int,F=fun j:Nat=>first + (j:Int):=⟨_,rfl⟩
 rw [← hF]
 have HF:=hid hF
 have hFi:Hid (∀ j,F j=first + (j:Int)):=hid (fun j=>by rw [hF])
 have i0:Hid (CwIs n no (addX X F l 0) W0 z):=hid (by rw [addX_zero];exact h.below b0)
 have HW:=hid hW0
 have B0:=hid b0
 have K0:=hid kb
 have R0:=hid kr
 have O0:=hid (And.intro (h.off_ge (G:=w.heap.size) (Nat.le_refl _)) (h.off_ge (G:=w.heap.size + 1) (by omega)))
 have HL:=hid hl
 have HN:=hid hN
 have HRT:=hid hr
 have HXL:=hid (fun G (hG:w.heap.size≤G)=>fun x (hx:x∈l)=>CmL.In.off_ge (hl.2 x hx) hG)
 have hcap:=hl.cap
 rw [hN] at hcap
 clear h hl hN hr hW0 b0 kb kr hF
 go_enter Tryz.func8,Tryz.ntmps8
 go_wp2
 rw [← HW.out]
 go_loopw [11] (fun cc wr=>∃ (i:Nat) (y:CwL),i≤ln∧cc=.int .i64 i∧Hid (CwIs n no (addX X F l i) wr y)∧Hid (Bk wr w.heap.size 34 (cwA n no H y))∧Hid (Bk wr (w.heap.size + 1) 34 cwZ)∧Hid (Below w.heap.size w wr)∧Hid (∀ G,G < w.heap.size + 2→CwOff G n no z→(∀ x∈l,x.Off G)→CwOff G n no y)) (fun cc _=>ln - (intOf cc).toNat)
 case atStart=>exact ⟨0,z,Nat.zero_le _,rfl,i0,K0,R0,B0,hid (fun G _ q _=>q)⟩
 case round=>
  obtain ⟨i,y,hi,rfl,HI,HK,HR,HB,HQ⟩:=hrel
  have HO:Hid (CwOff w.heap.size n no y∧CwOff (w.heap.size + 1) n no y):=hid ⟨HQ.out _ (by omega) O0.out.1 (HXL.out _ (by omega)),HQ.out _ (by omega) O0.out.2 (HXL.out _ (by omega))⟩
  by_cases hlt:i < ln
  ·have d1:(i:Int) < (ln:Int):=by omega
   have d2:(i:Int) < (c:Int):=by omega
   have dw:IntKind.i64.wrap (first + (i:Int))=first + (i:Int):=by rw [IntKind.wrap_i64];omega
   obtain ⟨x,hx⟩:=cml_at (l:=l) (i:=i) (by rw [HN.out];exact hlt)
   have hmem:=List.mem_of_getElem? hx
   have hmf:=HRT.out x hmem
   have hin:=HL.out.2 x hmem
   have HME:=hid hmem
   obtain ⟨bb,off,hAA,hA⟩:=(HL.out.below HB.out).lies hx
   obtain ⟨c0,c1,c2,c3,c4,cl⟩:=hA wr (Below.refl _ _)
   have hyn:y.tn=X.tasks.length + i:=by
    have:=HI.out.tk.lenL
    rw [← this]
    show (X.tasks ++ newG F l i).length=_
    rw [List.length_append,newG_length]
   have hyn2:y.tn≤899:=by omega
   obtain ⟨W1,hW1⟩:∃ W,W=wr.alloc (CmObj x.ra x.nr x.rc x.wa x.nw x.wc x.aa x.na x.ac x.c.fuel x.ca x.nc x.cc):=⟨_,rfl⟩
   have b1:Below wr.heap.size wr W1:=by rw [hW1];exact below_alloc1 _ _
   have kx:Bk W1 wr.heap.size 56 #[.slice x.ra x.nr x.rc,.slice x.wa x.nw x.wc,.slice x.aa x.na x.ac,.int .i64 x.c.fuel,.slice x.ca x.nc x.cc]:=by rw [hW1];exact Bk.new wr _ _
   have hne:w.heap.size≠wr.heap.size:=by have:=HR.out.lt;omega
   have hne1:w.heap.size + 1≠wr.heap.size:=by have:=HR.out.lt;omega
   have HW1:=hid hW1
   have KX:=hid kx
   have I1:=hid (HI.out.below b1)
   have K1:=hid (HK.out.below b1)
   have R1:=hid (HR.out.below b1)
   have B1:=hid (bnext HB.out b1)
   have hadd:=hid (padd_off _ y.tl y.tA y.tn y.tc W1 x (first + (i:Int)) I1.out.tk (by omega) (hin.below B1.out) (hin.few hmf.1))
   have hask:=hid (fun W (hW:Below w.heap.size w W) (hl:LkOwn 0 W y.wA n y.wc (lksW (whoP (addX X F l i).tasks) n))=>ask_who x.c x.ra x.nr x.rc x.wa x.nw x.wc x.aa x.na x.ac x.c.fuel x.ca x.nc x.cc (whoP (addX X F l i).tasks) y.wA n y.wc (first + (i:Int)) W hl.sl hn (by rw [whoP_len];have:=HI.out.tk.lenL;omega) hmf.1.sets ((CmL.lk hin hmf.1 hmf.2).below hW))
   have HX:=hid hx
   have hp:=(HK.out.alloc (CmObj x.ra x.nr x.rc x.wa x.nw x.wc x.aa x.na x.ac x.c.fuel x.ca x.nc x.cc)).crew
   obtain ⟨-,-,p2,-,pl,-⟩:=hp
   have HXO:=hid (fun G (hG:w.heap.size≤G)=>CmL.In.off_ge hin hG)
   clear hx hmem hmf hin hA hyn hW1 b1 kx
   go_wp2_with (first
    | (go_at_call 26;rw [← HW1.out];go_must ((with_reducible refine hadd.out.mono ?_);rintro e w2 ⟨A2,c2,l2,rfl,hT2,hb2,ho2⟩;have T2:=hid hT2;have O2:=hid ho2;have K2:=hid (K1.out.below hb2);have R2:=hid (R1.out.below hb2);have I2:=hid (I1.out.below hb2);have B2:=hid (bnext B1.out hb2);have KX2:=hid (KX.out.below hb2);clear hT2 ho2 hb2 p2 pl;obtain ⟨-,-,p2,-,pl,pf⟩:=K2.out.crew;have OT:Hid (∀ G,G < w.heap.size + 2→TkOffs G y.tA y.tn y.tl→x.Off G→TkOffs G A2 (y.tn + 1) l2):=hid (fun G h1 p q=>O2.out G (by have:=R1.out.lt;omega) ⟨p,q⟩);have g3:=OneOff.setCell w2 w.heap.size 2 (.slice A2 (y.tn + 1) c2);have K3:=hid (K2.out.cT A2 (y.tn + 1) c2 l2);have R3:=hid (R2.out.far (p:=⟨w.heap.size,2,none⟩) (by show w.heap.size + 1≠w.heap.size;omega) (.slice A2 (y.tn + 1) c2));have KX3:=hid (KX2.out.far (p:=⟨w.heap.size,2,none⟩) (fun e=>hne e.symm) (.slice A2 (y.tn + 1) c2));have B3:=hid (B2.out.setCell (p:=⟨w.heap.size,2,none⟩) (Nat.le_refl _) (.slice A2 (y.tn + 1) c2));have I3:=hid (I2.out.keep HO.out.1 g3 K2.out (by decide) (by decide));have T3:=hid (T2.out.keep (OT.out w.heap.size (by omega) HO.out.1.t (HXO.out _ (Nat.le_refl _))) g3);obtain ⟨-,s1,-,-,sl,-⟩:=K3.out.crew;have HASK:=hid (hask.out _ B3.out I3.out.wt);clear g3))
    | (with_reducible refine ld_cmdv wr.heap.size KX3.out _ rfl rfl rfl ?_)
    | (go_at_call 27;go_must ((with_reducible refine HASK.out.mono ?_);rintro e w4 ⟨A4,c4',rfl,hL4,hb4⟩;have L4:=hid (hL4.lower (Nat.zero_le _));have K4:=hid (K3.out.below hb4);have R4:=hid (R3.out.below hb4);have I4:=hid (I3.out.below hb4);have T4:=hid (T3.out.below hb4);have B4:=hid (bnext B3.out hb4);clear hL4 hb4 s1 sl p2 pl pf;obtain ⟨-,t1,-,-,tl,tf⟩:=K4.out.crew)))
   obtain ⟨W5,hW5⟩:∃ W,W=w4.setCell ⟨w.heap.size,1,none⟩ (.slice A4 n c4'):=⟨_,rfl⟩
   rw [← hW5]
   have g5:=OneOff.setCell w4 w.heap.size 1 (.slice A4 n c4')
   rw [← hW5] at g5
   have L5:=L4.out.turns g5.grown K4.out (by decide) (by decide)
   have T5:=T4.out.keep (OT.out w.heap.size (by omega) HO.out.1.t (HXO.out _ (Nat.le_refl _))) g5
   have I5:=I4.out.keep HO.out.1 g5 K4.out (by decide) (by decide)
   have K5:Hid (Bk W5 w.heap.size 34 (cwA n no H { y with tA:=A2,tn:=y.tn + 1,tc:=c2,tl:=l2,wA:=A4,wc:=c4' })):=hid (by rw [hW5];exact K4.out.cW A4 c4')
   have R5:Hid (Bk W5 (w.heap.size + 1) 34 cwZ):=hid (by rw [hW5];exact R4.out.far (by show w.heap.size + 1≠w.heap.size;omega) _)
   have B5:Hid (Below w.heap.size w W5):=hid (by rw [hW5];exact B4.out.setCell (p:=⟨w.heap.size,1,none⟩) (Nat.le_refl _) _)
   rw [← hFi.out i] at L5 T5
   have I6:=hid (I5.more HX.out I5 T5 L5)
   have O6:Hid (∀ G,G < w.heap.size + 2→CwOff G n no z→(∀ x∈l,x.Off G)→CwOff G n no { y with tA:=A2,tn:=y.tn + 1,tc:=c2,tl:=l2,wA:=A4,wc:=c4' }):=hid (fun G hG q r=>⟨(HQ.out G hG q r).b,OT.out G hG (HQ.out G hG q r).t (r x HME.out),(HQ.out G hG q r).r,(HQ.out G hG q r).o,(HQ.out G hG q r).k⟩)
   clear hW5 g5 L5 T5 I5
   rw [← hAA]
   clear hAA
   go_roundw
   case rel=>exact ⟨i + 1,_,by omega,by go_num,I6,K5,R5,B5,O6⟩
   case measure=>simp [intOf];omega
  ·obtain rfl:ln=i:=by omega
   clear hlt
   go_wp2_with (first
    | (with_reducible refine ld_cw w.heap.size HK.out _ rfl rfl rfl ?_)
    | (with_reducible refine st_cw (w.heap.size + 1) HR.out rfl n no H y _ _ rfl rfl rfl rfl ?_))
   have BF:Below w.heap.size w (wr.setRow (w.heap.size + 1) (cwA n no H y)):=below_row HB.out (by omega) _
   exact bodyPost_ret (v:=.agg (cwA n no H y)) (res_cw rfl _ _ (w.heap.size + 1) rfl (Bk.setRow HR.out _)) rfl ⟨_,rfl,HI.out.keep HO.out.2 (OneOff.setRow wr (w.heap.size + 1) (cwA n no H y)) HR.out (by decide) (by decide),BF,fun G hG q r=>HQ.out G (by omega) q r⟩
theorem cadd_any (h:CwIs n no X w z) (hl:Cmds w A c l) (hN:l.length=ln) (hr:∀ x∈l,MayBe x.c∧fitsT x.c n) (hfew:X.tasks.length + ln≤900) (hn:n≤1000) (hf:0≤first∧first≤1000000000000000) :
  Calls Tryz.prog 8 #[.agg (cwA n no H z),.slice A ln c,.int .i64 first] w (AddPost n no H (addX X (fun j:Nat=>first + (j:Int)) l ln) w):=
 (cadd_off n no H X z l A ln c first w h hl hN hr hfew hn hf).mono fun _ _ ⟨z',he,hI,hb,_⟩=>⟨z',he,hI,hb⟩
end
end
section
open Go Go.RowKit
def RestOff (n:Nat) (w:World) (e:Ending) (w':World):Prop:=∃ z,e=.returned (.agg (cwA n 0 hd0 z))∧CwIs n 0 (restX n) w' z∧Below w.heap.size w w'∧∀ G,G < w.heap.size→CwOff G n 0 z
theorem rest_off (n:Nat) (h1:1≤n) (hn:n≤1000) (w:World):Calls Tryz.prog 9 #[.int .i64 (n:Int)] w (RestOff n w):=by
 have hb:=hid (fun W=>rnew_any n hn W)
 have hw:=hid (fun W=>rnew_who n W h1 hn)
 have kz:=Bk.new w 34 cwZ
 have b0:=below_alloc1 w (.cells cwZ 34)
 have KZ:=hid kz
 have B0:=hid b0
 clear kz b0
 go_enter Tryz.func9,Tryz.ntmps9
 go_wp2_with (first
  | (go_at_call 17;go_must ((with_reducible refine (hb.out _).mono ?_);rintro e w1 ⟨A1,c1,rfl,ho1,hb1⟩;have O1:=hid ho1;have B1:=hid (bnext B0.out hb1);have K1:=hid (KZ.out.below hb1);have hz1:w.heap.size + 1≤w1.heap.size:=(by have:=K1.out.lt;omega);clear ho1 hb1))
  | (go_at_call 22;go_must ((with_reducible refine (hw.out _).mono ?_);rintro e w2 ⟨A2,c2,rfl,ho2,hb2⟩;have O2:=hid ho2;have P1:=hid (own_below O1.out hb2);have B2:=hid (bnext B1.out hb2);have K2:=hid (K1.out.below hb2);clear ho2 hb2))
  | (with_reducible refine st_cw w.heap.size K2.out rfl n 0 hd0 ⟨A1,c1,A2,c2,[],none,0,0,[],none,0,0,false,none,0,none,0⟩ _ _ rfl rfl rfl rfl ?_))
 have g:=OneOff.setRow w2 w.heap.size (cwA n 0 hd0 ⟨A1,c1,A2,c2,[],none,0,0,[],none,0,0,false,none,0,none,0⟩)
 have hl:(List.replicate n entZ).length=n:=List.length_replicate
 have E:Ents w2 A1 c1 (List.replicate n entZ):=by
  unfold Ents
  rw [hl]
  exact Sl.own' P1.out
 have hov:overA (w.heap.size + 1) A1 n:=(own_over P1.out).lower (by rw [World.size_alloc];exact Nat.le_refl _)
 exact bodyPost_ret (v:=.agg (cwA n 0 hd0 ⟨A1,c1,A2,c2,[],none,0,0,[],none,0,0,false,none,0,none,0⟩)) (res_cw rfl _ _ w.heap.size rfl (Bk.setRow K2.out _)) rfl
  ⟨_,rfl,⟨hl,E.keepOff hl (hov.off (by omega)) g,goodT_new n,(O2.out.lower (Nat.zero_le _)).turns g.grown K2.out (by decide) (by decide),TkIs.nil _,RsIs.nil _,rfl,⟨rfl,rfl,(by intro e he;cases he),⟨rfl,Nat.le_refl _,fun _=>⟨rfl,rfl⟩,fun h=>absurd h (by decide)⟩,⟨rfl,Nat.le_refl _,fun _=>⟨rfl,rfl⟩,fun h=>absurd h (by decide)⟩⟩⟩,below_row B2.out (Nat.le_refl _) _,fun G hG=>⟨hov.off (by omega),⟨(overA.nil (G+1) none).off (by omega),fun t ht=>(by cases ht)⟩,⟨(overA.nil (G+1) none).off (by omega),fun t ht=>(by cases ht)⟩,(overA.nil (G+1) none).off (by omega),(overA.nil (G+1) none).off (by omega)⟩⟩
theorem rest_any (n:Nat) (h1:1≤n) (hn:n≤1000) (w:World):Calls Tryz.prog 9 #[.int .i64 (n:Int)] w (AddPost n 0 hd0 (restX n) w):=
 (rest_off n h1 hn w).mono fun _ _ ⟨z,he,hI,hb,_⟩=>⟨z,he,hI,hb⟩
end
section
open Go Go.RowKit
attribute [local go_sem] look findAt
attribute [local simp] depsOf isV Region.binds
theorem tk_cmd {X:World} {b o:Nat} {t:TkL} (h:TkCells X b o t):X.rangeAt b (o + 1) (cmlC t.x):=fun j v hv=>by
 have hj:j < 5:=by
  rcases Nat.lt_or_ge j 5 with q | q
  ·exact q
  ·rw [List.getElem?_eq_none (by exact q)] at hv;cases hv
 rw [← hv]
 rcases (show j=0∨j=1∨j=2∨j=3∨j=4 by omega) with e | e | e | e | e <;> subst e <;> first | exact h.ra | exact h.wa | exact h.aa | exact h.fu | exact h.ca
section
variable (n no:Nat) (H:Hd) (X:Crw) (z:CwL) (workers worker seq:Int) (w:World)
theorem rpick_arg (h:CwIs n no X w z) (hfew:X.tasks.length≤900) (hin:¬ (0≤worker∧worker < workers)) :
  Calls Tryz.prog 13 #[.agg (cwA n no H z),.int .i64 workers,.int .i64 worker,.int .i64 seq] w (CwErr n no H X z 1 w):=by
 obtain ⟨W0,hW0⟩:∃ W,W=(w.alloc (.cells (cwA n no H z) 34)).alloc (.cells cwZ 34):=⟨_,rfl⟩
 obtain ⟨b0,kb,kr⟩:=cwW_is n no H z w
 rw [← hW0] at b0 kb kr
 have HW:=hid hW0
 have B0:=hid b0
 have K0:=hid kb
 have R0:=hid kr
 have H0:=hid h
 have hs0:w.heap.size + 2≤W0.heap.size:=by rw [hW0,World.size_alloc,World.size_alloc];omega
 have hfi:=hid (fun W (hW:Below w.heap.size w W)=>rfind_is X.tasks z.tl z.tA z.tn z.tc W seq (H0.out.tk.below hW) (by have:=H0.out.tk.lenL;omega))
 obtain ⟨fi,hfi0⟩:∃ r,r=idxP (seqP seq) X.tasks:=⟨_,rfl⟩
 rw [← hfi0] at hfi
 clear hfi0
 clear h b0 kb kr hW0
 go_enter Tryz.func13,Tryz.ntmps13
 by_cases hk:worker < 0
 ·have d1:decide (worker < 0)=true:=decide_eq_true hk
  go_wp2_with (first
  | (go_at_call 39;rw [← HW.out];go_must ((with_reducible refine (hfi.out _ B0.out).mono ?_);rintro e w3 ⟨rfl,hb3⟩;have B3:=hid (bnext B0.out hb3);have K3:=hid (K0.out.below hb3);have R3:=hid (R0.out.below hb3);clear hb3;obtain ⟨-,-,p2,-,pl,-⟩:=K3.out.crew))
  | (with_reducible refine ld_cw w.heap.size K3.out _ rfl rfl rfl ?_)
  | (with_reducible refine st_cw (w.heap.size + 1) R3.out rfl n no H z _ _ rfl rfl rfl rfl ?_))
  exact bodyPost_ret (v:=.tuple #[.agg (cwA n no H z),.int .i64 1]) (res2_cw rfl _ _ (w.heap.size + 1) _ rfl rfl (Bk.setRow R3.out _)) rfl ⟨z,rfl,H0.out.below (below_row B3.out (by omega) _),below_row B3.out (by omega) _,fun _ _ q=>q⟩
 ·have d1:decide (worker < 0)=false:=decide_eq_false hk
  have d2:decide (workers≤worker)=true:=decide_eq_true (by omega)
  go_wp2_with (first
  | (go_at_call 39;rw [← HW.out];go_must ((with_reducible refine (hfi.out _ B0.out).mono ?_);rintro e w3 ⟨rfl,hb3⟩;have B3:=hid (bnext B0.out hb3);have K3:=hid (K0.out.below hb3);have R3:=hid (R0.out.below hb3);clear hb3;obtain ⟨-,-,p2,-,pl,-⟩:=K3.out.crew))
  | (with_reducible refine ld_cw w.heap.size K3.out _ rfl rfl rfl ?_)
  | (with_reducible refine st_cw (w.heap.size + 1) R3.out rfl n no H z _ _ rfl rfl rfl rfl ?_))
  exact bodyPost_ret (v:=.tuple #[.agg (cwA n no H z),.int .i64 1]) (res2_cw rfl _ _ (w.heap.size + 1) _ rfl rfl (Bk.setRow R3.out _)) rfl ⟨z,rfl,H0.out.below (below_row B3.out (by omega) _),below_row B3.out (by omega) _,fun _ _ q=>q⟩
theorem rpick_busy (h:CwIs n no X w z) (hfew:X.tasks.length≤900) (hin:0≤worker∧worker < workers) (j:Nat) (ho:ofP X.tasks worker=some j) :
  Calls Tryz.prog 13 #[.agg (cwA n no H z),.int .i64 workers,.int .i64 worker,.int .i64 seq] w (CwErr n no H X z 15 w):=by
 obtain ⟨W0,hW0⟩:∃ W,W=(w.alloc (.cells (cwA n no H z) 34)).alloc (.cells cwZ 34):=⟨_,rfl⟩
 obtain ⟨b0,kb,kr⟩:=cwW_is n no H z w
 rw [← hW0] at b0 kb kr
 have HW:=hid hW0
 have B0:=hid b0
 have K0:=hid kb
 have R0:=hid kr
 have H0:=hid h
 have hs0:w.heap.size + 2≤W0.heap.size:=by rw [hW0,World.size_alloc,World.size_alloc];omega
 have hof:=hid (fun W (hW:Below w.heap.size w W)=>rof_is X.tasks z.tl z.tA z.tn z.tc W worker (H0.out.tk.below hW) (by have:=H0.out.tk.lenL;omega))
 rw [wk_some ho] at hof
 have hfi:=hid (fun W (hW:Below w.heap.size w W)=>rfind_is X.tasks z.tl z.tA z.tn z.tc W seq (H0.out.tk.below hW) (by have:=H0.out.tk.lenL;omega))
 obtain ⟨fi,hfi0⟩:∃ r,r=idxP (seqP seq) X.tasks:=⟨_,rfl⟩
 rw [← hfi0] at hfi
 clear hfi0
 have d1:decide (worker < 0)=false:=decide_eq_false (by omega)
 have d2:decide (workers≤worker)=false:=decide_eq_false (by omega)
 have d3:decide ((0:Int)≤(j:Int))=true:=decide_eq_true (by omega)
 clear ho
 clear h b0 kb kr hW0
 go_enter Tryz.func13,Tryz.ntmps13
 go_wp2_with (first
  | (go_at_call 39;rw [← HW.out];go_must ((with_reducible refine (hfi.out _ B0.out).mono ?_);rintro e w3 ⟨rfl,hb3⟩;have B3:=hid (bnext B0.out hb3);have K3:=hid (K0.out.below hb3);have R3:=hid (R0.out.below hb3);clear hb3;obtain ⟨-,-,p2,-,pl,-⟩:=K3.out.crew))
  | (go_at_call 40;go_must ((with_reducible refine (hof.out _ B3.out).mono ?_);rintro e w2 ⟨rfl,hb2⟩;have B2:=hid (bnext B3.out hb2);have K2:=hid (K3.out.below hb2);have R2:=hid (R3.out.below hb2);clear hb2;obtain ⟨-,-,p2,-,pl,-⟩:=K2.out.crew))
  | (with_reducible refine ld_cw w.heap.size K2.out _ rfl rfl rfl ?_)
  | (with_reducible refine st_cw (w.heap.size + 1) R2.out rfl n no H z _ _ rfl rfl rfl rfl ?_))
 exact bodyPost_ret (v:=.tuple #[.agg (cwA n no H z),.int .i64 15]) (res2_cw rfl _ _ (w.heap.size + 1) _ rfl rfl (Bk.setRow R2.out _)) rfl ⟨z,rfl,H0.out.below (below_row B2.out (by omega) _),below_row B2.out (by omega) _,fun _ _ q=>q⟩
theorem rpick_find (h:CwIs n no X w z) (hfew:X.tasks.length≤900) (hin:0≤worker∧worker < workers) (ho:ofP X.tasks worker=none) (hf:findP X.tasks seq=none) :
  Calls Tryz.prog 13 #[.agg (cwA n no H z),.int .i64 workers,.int .i64 worker,.int .i64 seq] w (CwErr n no H X z 16 w):=by
 obtain ⟨W0,hW0⟩:∃ W,W=(w.alloc (.cells (cwA n no H z) 34)).alloc (.cells cwZ 34):=⟨_,rfl⟩
 obtain ⟨b0,kb,kr⟩:=cwW_is n no H z w
 rw [← hW0] at b0 kb kr
 have HW:=hid hW0
 have B0:=hid b0
 have K0:=hid kb
 have R0:=hid kr
 have H0:=hid h
 have hs0:w.heap.size + 2≤W0.heap.size:=by rw [hW0,World.size_alloc,World.size_alloc];omega
 have hof:=hid (fun W (hW:Below w.heap.size w W)=>rof_is X.tasks z.tl z.tA z.tn z.tc W worker (H0.out.tk.below hW) (by have:=H0.out.tk.lenL;omega))
 rw [wk_none ho] at hof
 have hfi:=hid (fun W (hW:Below w.heap.size w W)=>rfind_is X.tasks z.tl z.tA z.tn z.tc W seq (H0.out.tk.below hW) (by have:=H0.out.tk.lenL;omega))
 rw [seq_none hf] at hfi
 have d1:decide (worker < 0)=false:=decide_eq_false (by omega)
 have d2:decide (workers≤worker)=false:=decide_eq_false (by omega)
 have d3:decide ((0:Int)≤-1)=false:=by decide
 have d4:decide ((-1:Int) < 0)=true:=by decide
 clear ho hf
 clear h b0 kb kr hW0
 go_enter Tryz.func13,Tryz.ntmps13
 go_wp2_with (first
  | (go_at_call 39;rw [← HW.out];go_must ((with_reducible refine (hfi.out _ B0.out).mono ?_);rintro e w3 ⟨rfl,hb3⟩;have B3:=hid (bnext B0.out hb3);have K3:=hid (K0.out.below hb3);have R3:=hid (R0.out.below hb3);clear hb3;obtain ⟨-,-,p2,-,pl,-⟩:=K3.out.crew))
  | (go_at_call 40;go_must ((with_reducible refine (hof.out _ B3.out).mono ?_);rintro e w2 ⟨rfl,hb2⟩;have B2:=hid (bnext B3.out hb2);have K2:=hid (K3.out.below hb2);have R2:=hid (R3.out.below hb2);clear hb2;obtain ⟨-,-,p2,-,pl,-⟩:=K2.out.crew)))
 try simp only [List.append_eq,List.cons_append,List.nil_append]
 refine wp_region_saysK 21 (fun x y=>Below x.heap.size x y) (fun _ _ _ h k=>bnext h k) w2 (below_drew1 w2) (by kernel_rfl) (by kernel_rfl) (by kernel_rfl) (by kernel_rfl) (by rfl) ?_
 simp only [List.take_succ_cons,List.take_zero,List.drop_succ_cons,List.drop_zero]
 refine wkI (.int .i64 (-1)) (fun u X hX hd=>?_) ?_
 iterate 2
  ·skip
   try simp at hd
   go_simp
   try rfl
  refine wkI (.bool true) (fun u X hX hd=>?_) ?_
 ·skip
  try simp at hd
  go_simp
  try rfl
 iterate 7
  refine walkK_skip (st1 rfl rfl (by simp)) ?_
  refine wkN ?_
 iterate 2
  refine wkI (.bool true) (fun u X hX hd=>?_) ?_
  ·skip
   try simp at hd
   go_simp
   try rfl
 iterate 8
  refine walkK_skip (st1 rfl rfl (by simp)) ?_
  refine wkN ?_
 refine walkK_skip (st1 rfl rfl (by simp)) ?_
 refine walkK_last ?_
 intro u X hX hsay
 have v1:=sayAll_put hsay 1 (.bool true) rfl
 have v2:=sayAll_put hsay 2 (.bool true) rfl
 have v10:=sayAll_put hsay 10 (.bool true) rfl
 have v11:=sayAll_put hsay 11 (.bool true) rfl
 clear hsay
 simp only [putAll,Act.put,v1,v2,v10,v11,List.setIfInBounds_toArray,List.set_cons_succ,List.set_cons_zero,Nat.zero_add,Nat.reduceAdd]
 have KE:=hid (K2.out.below hX)
 have RE:=hid (R2.out.below hX)
 have BE:=hid (bnext B2.out hX)
 clear hX v1 v2 v10 v11
 go_wp2_with (first
  | (with_reducible refine ld_cw w.heap.size KE.out _ rfl rfl rfl ?_)
  | (with_reducible refine st_cw (w.heap.size + 1) RE.out rfl n no H z _ _ rfl rfl rfl rfl ?_))
 exact bodyPost_ret (v:=.tuple #[.agg (cwA n no H z),.int .i64 16]) (res2_cw rfl _ _ (w.heap.size + 1) _ rfl rfl (Bk.setRow RE.out _)) rfl ⟨z,rfl,H0.out.below (below_row BE.out (by omega) _),below_row BE.out (by omega) _,fun _ _ q=>q⟩
theorem rpick_has (h:CwIs n no X w z) (hfew:X.tasks.length≤900) (hg:goodL n X.tasks) (hin:0≤worker∧worker < workers) (ho:ofP X.tasks worker=none) (i:Nat) (hf:findP X.tasks seq=some i) (hno:0≤(tskAt X.tasks i).worker) :
  Calls Tryz.prog 13 #[.agg (cwA n no H z),.int .i64 workers,.int .i64 worker,.int .i64 seq] w (CwErr n no H X z 16 w):=by
 obtain ⟨W0,hW0⟩:∃ W,W=(w.alloc (.cells (cwA n no H z) 34)).alloc (.cells cwZ 34):=⟨_,rfl⟩
 obtain ⟨b0,kb,kr⟩:=cwW_is n no H z w
 rw [← hW0] at b0 kb kr
 have HW:=hid hW0
 have B0:=hid b0
 have K0:=hid kb
 have R0:=hid kr
 have H0:=hid h
 have hs0:w.heap.size + 2≤W0.heap.size:=by rw [hW0,World.size_alloc,World.size_alloc];omega
 have hof:=hid (fun W (hW:Below w.heap.size w W)=>rof_is X.tasks z.tl z.tA z.tn z.tc W worker (H0.out.tk.below hW) (by have:=H0.out.tk.lenL;omega))
 rw [wk_none ho] at hof
 have hfi:=hid (fun W (hW:Below w.heap.size w W)=>rfind_is X.tasks z.tl z.tA z.tn z.tc W seq (H0.out.tk.below hW) (by have:=H0.out.tk.lenL;omega))
 rw [seq_some hf] at hfi
 have d1:decide (worker < 0)=false:=decide_eq_false (by omega)
 have d2:decide (workers≤worker)=false:=decide_eq_false (by omega)
 have d3:decide ((0:Int)≤-1)=false:=by decide
 obtain ⟨hi,hsq⟩:=findP_some hf
 obtain ⟨t,ht,hts,hint,hfe⟩:=tk_is h.tk hi
 have hmf:=hg (tskAt X.tasks i) (List.mem_of_getElem? (tskAt_lt hi))
 have hc0:(tskAt X.tasks i).cmd=t.x.c:=by rw [← hts];rfl
 have hw0:(tskAt X.tasks i).worker=t.wk:=by rw [← hts];rfl
 have hs1:t.s=seq:=by rw [← hsq,← hts];rfl
 rw [hc0] at hmf
 obtain ⟨b,off,hA,hat⟩:=h.tk.sl.lies ht
 have HAT:=hid hat
 have hitn:i < z.tn:=by have:=h.tk.lenL;omega
 have hcap:z.tn≤z.tc:=by have:=h.tk.sl.cap;rw [h.tk.len] at this;exact this
 have e1:(i:Int) < (z.tn:Int):=by omega
 have e2:(i:Int) < (z.tc:Int):=by omega
 have e3:decide ((i:Int) < 0)=false:=decide_eq_false (by omega)
 have e4:¬ (i:Int) < 0:=by omega
 have e5:decide (0≤t.wk)=true:=decide_eq_true (by omega)
 have HA:=hid hA
 clear ho hf hg hno hi hsq ht hts hint hfe hmf hc0 hw0 hs1 hat hA hitn hcap
 clear h b0 kb kr hW0
 go_enter Tryz.func13,Tryz.ntmps13
 go_wp2_with (first
  | (go_at_call 39;rw [← HW.out];go_must ((with_reducible refine (hfi.out _ B0.out).mono ?_);rintro e w3 ⟨rfl,hb3⟩;have B3:=hid (bnext B0.out hb3);have K3:=hid (K0.out.below hb3);have R3:=hid (R0.out.below hb3);clear hb3;obtain ⟨-,-,p2,-,pl,-⟩:=K3.out.crew))
  | (go_at_call 40;go_must ((with_reducible refine (hof.out _ B3.out).mono ?_);rintro e w2 ⟨rfl,hb2⟩;have B2:=hid (bnext B3.out hb2);have K2:=hid (K3.out.below hb2);have R2:=hid (R3.out.below hb2);clear hb2;obtain ⟨-,-,p2,-,pl,-⟩:=K2.out.crew)))
 try simp only [List.append_eq,List.cons_append,List.nil_append]
 refine wp_region_saysK 21 (fun x y=>Below x.heap.size x y) (fun _ _ _ h k=>bnext h k) w2 (below_drew1 w2) (by kernel_rfl) (by kernel_rfl) (by kernel_rfl) (by kernel_rfl) (by rfl) ?_
 simp only [List.take_succ_cons,List.take_zero,List.drop_succ_cons,List.drop_zero]
 refine wkI (.int .i64 (i:Int)) (fun u X' hX hd=>?_) ?_
 iterate 2
  ·obtain ⟨p0,p1,p2,p3,pl,-⟩:=(K2.out.below hX).crew
   rw [HA.out] at p2
   obtain qw:=(HAT.out X' (bnext B2.out hX)).wk
   try simp at hd
   go_simp
   try rfl
  refine wkI (.bool false) (fun u X' hX hd=>?_) ?_
 ·obtain ⟨p0,p1,p2,p3,pl,-⟩:=(K2.out.below hX).crew
  rw [HA.out] at p2
  obtain qw:=(HAT.out X' (bnext B2.out hX)).wk
  try simp at hd
  go_simp
  try rfl
 refine wkI ?_ (fun u X' hX hd=>?_) ?_
 rotate_left
 ·obtain ⟨p0,p1,p2,p3,pl,-⟩:=(K2.out.below hX).crew
  rw [HA.out] at p2
  obtain qw:=(HAT.out X' (bnext B2.out hX)).wk
  try simp at hd
  go_simp
  try rfl
 refine wkI (.slice (some ⟨b,off,none⟩) z.tn z.tc) (fun u X' hX hd=>?_) ?_
 ·obtain ⟨p0,p1,p2,p3,pl,-⟩:=(K2.out.below hX).crew
  rw [HA.out] at p2
  obtain qw:=(HAT.out X' (bnext B2.out hX)).wk
  try simp at hd
  go_simp
  try rfl
 refine wkI (.int .i64 (i:Int)) (fun u X' hX hd=>?_) ?_
 ·obtain ⟨p0,p1,p2,p3,pl,-⟩:=(K2.out.below hX).crew
  rw [HA.out] at p2
  obtain qw:=(HAT.out X' (bnext B2.out hX)).wk
  try simp at hd
  go_simp
  try rfl
 refine wkI (.pointer (some ⟨b,off + i * 18,none⟩)) (fun u X' hX hd=>?_) ?_
 ·obtain ⟨p0,p1,p2,p3,pl,-⟩:=(K2.out.below hX).crew
  rw [HA.out] at p2
  obtain qw:=(HAT.out X' (bnext B2.out hX)).wk
  try simp at hd
  go_simp
  try rfl
 refine wkI ?_ (fun u X' hX hd=>?_) ?_
 rotate_left
 ·obtain ⟨p0,p1,p2,p3,pl,-⟩:=(K2.out.below hX).crew
  rw [HA.out] at p2
  obtain qw:=(HAT.out X' (bnext B2.out hX)).wk
  try simp at hd
  go_simp
  try rfl
 refine wkI (.int .i64 t.wk) (fun u X' hX hd=>?_) ?_
 iterate 3
  ·obtain ⟨p0,p1,p2,p3,pl,-⟩:=(K2.out.below hX).crew
   rw [HA.out] at p2
   obtain qw:=(HAT.out X' (bnext B2.out hX)).wk
   try simp at hd
   go_simp
   try rfl
  refine wkI (.bool true) (fun u X' hX hd=>?_) ?_
 ·obtain ⟨p0,p1,p2,p3,pl,-⟩:=(K2.out.below hX).crew
  rw [HA.out] at p2
  obtain qw:=(HAT.out X' (bnext B2.out hX)).wk
  try simp at hd
  go_simp
  try rfl
 iterate 8
  refine walkK_skip (st1 rfl rfl (by simp)) ?_
  refine wkN ?_
 refine walkK_skip (st1 rfl rfl (by simp)) ?_
 refine walkK_last ?_
 intro u X' hX hsay
 have v1:=sayAll_put hsay 1 (.bool false) rfl
 have v2:=sayAll_put hsay 2 (.bool false) rfl
 have v10:=sayAll_put hsay 10 (.bool true) rfl
 have v11:=sayAll_put hsay 11 (.bool true) rfl
 clear hsay
 simp only [putAll,Act.put,v1,v2,v10,v11,List.setIfInBounds_toArray,List.set_cons_succ,List.set_cons_zero,Nat.zero_add,Nat.reduceAdd]
 have K4:=hid (K2.out.below hX)
 have R4:=hid (R2.out.below hX)
 have B4:=hid (bnext B2.out hX)
 clear hX v1 v2 v10 v11
 go_wp2_with (first
  | (with_reducible refine ld_cw w.heap.size K4.out _ rfl rfl rfl ?_)
  | (with_reducible refine st_cw (w.heap.size + 1) R4.out rfl n no H z _ _ rfl rfl rfl rfl ?_))
 exact bodyPost_ret (v:=.tuple #[.agg (cwA n no H z),.int .i64 16]) (res2_cw rfl _ _ (w.heap.size + 1) _ rfl rfl (Bk.setRow R4.out _)) rfl ⟨z,rfl,H0.out.below (below_row B4.out (by omega) _),below_row B4.out (by omega) _,fun _ _ q=>q⟩
theorem rpick_wait (h:CwIs n no X w z) (hfew:X.tasks.length≤900) (hg:goodL n X.tasks) (hin:0≤worker∧worker < workers) (ho:ofP X.tasks worker=none) (i:Nat) (hf:findP X.tasks seq=some i) (hwn:(tskAt X.tasks i).worker < 0) (hno:readyB (whoP X.tasks) seq (tskAt X.tasks i).cmd=false) :
  Calls Tryz.prog 13 #[.agg (cwA n no H z),.int .i64 workers,.int .i64 worker,.int .i64 seq] w (CwErr n no H X z 16 w):=by
 obtain ⟨W0,hW0⟩:∃ W,W=(w.alloc (.cells (cwA n no H z) 34)).alloc (.cells cwZ 34):=⟨_,rfl⟩
 obtain ⟨b0,kb,kr⟩:=cwW_is n no H z w
 rw [← hW0] at b0 kb kr
 have HW:=hid hW0
 have B0:=hid b0
 have K0:=hid kb
 have R0:=hid kr
 have H0:=hid h
 have hs0:w.heap.size + 2≤W0.heap.size:=by rw [hW0,World.size_alloc,World.size_alloc];omega
 have hof:=hid (fun W (hW:Below w.heap.size w W)=>rof_is X.tasks z.tl z.tA z.tn z.tc W worker (H0.out.tk.below hW) (by have:=H0.out.tk.lenL;omega))
 rw [wk_none ho] at hof
 have hfi:=hid (fun W (hW:Below w.heap.size w W)=>rfind_is X.tasks z.tl z.tA z.tn z.tc W seq (H0.out.tk.below hW) (by have:=H0.out.tk.lenL;omega))
 rw [seq_some hf] at hfi
 have d1:decide (worker < 0)=false:=decide_eq_false (by omega)
 have d2:decide (workers≤worker)=false:=decide_eq_false (by omega)
 have d3:decide ((0:Int)≤-1)=false:=by decide
 obtain ⟨hi,hsq⟩:=findP_some hf
 obtain ⟨t,ht,hts,hint,hfe⟩:=tk_is h.tk hi
 have hmf:=hg (tskAt X.tasks i) (List.mem_of_getElem? (tskAt_lt hi))
 have hc0:(tskAt X.tasks i).cmd=t.x.c:=by rw [← hts];rfl
 have hw0:(tskAt X.tasks i).worker=t.wk:=by rw [← hts];rfl
 have hs1:t.s=seq:=by rw [← hsq,← hts];rfl
 rw [hc0] at hmf
 have hfv:readyL (lksW (whoP X.tasks) n) t.x.c t.s=false:=by rw [hs1,readyB_L hmf.1.sets hmf.2,← hc0,hno]
 obtain ⟨b,off,hA,hat⟩:=h.tk.sl.lies ht
 have HAT:=hid hat
 have hitn:i < z.tn:=by have:=h.tk.lenL;omega
 have hcap:z.tn≤z.tc:=by have:=h.tk.sl.cap;rw [h.tk.len] at this;exact this
 have e1:(i:Int) < (z.tn:Int):=by omega
 have e2:(i:Int) < (z.tc:Int):=by omega
 have e3:decide ((i:Int) < 0)=false:=decide_eq_false (by omega)
 have e4:¬ (i:Int) < 0:=by omega
 have hrd:=hid (fun W (hW:Below w.heap.size w W)=>rready_who t.x.c t.x.ra t.x.nr t.x.rc t.x.wa t.x.nw t.x.wc t.x.aa t.x.na t.x.ac t.x.c.fuel t.x.ca t.x.nc t.x.cc (whoP X.tasks) z.wA n z.wc t.s W (H0.out.wt.sl.below hW) (by rw [whoP_len];omega) ((CmL.lk hint.cmd hmf.1 hmf.2).below hW))
 rw [show readyL (lksW (whoP X.tasks) n) t.x.c t.s=false from hfv,hs1] at hrd
 have e5:decide (0≤t.wk)=false:=decide_eq_false (by omega)
 have HA:=hid hA
 have HT:=hid hts
 clear ho hf hg hno hwn hfv hi hsq ht hts hint hfe hmf hc0 hw0 hs1 hat hA hitn hcap
 clear h b0 kb kr hW0
 go_enter Tryz.func13,Tryz.ntmps13
 go_wp2_with (first
  | (go_at_call 39;rw [← HW.out];go_must ((with_reducible refine (hfi.out _ B0.out).mono ?_);rintro e w3 ⟨rfl,hb3⟩;have B3:=hid (bnext B0.out hb3);have K3:=hid (K0.out.below hb3);have R3:=hid (R0.out.below hb3);clear hb3;obtain ⟨-,-,p2,-,pl,-⟩:=K3.out.crew))
  | (go_at_call 40;go_must ((with_reducible refine (hof.out _ B3.out).mono ?_);rintro e w2 ⟨rfl,hb2⟩;have B2:=hid (bnext B3.out hb2);have K2:=hid (K3.out.below hb2);have R2:=hid (R3.out.below hb2);clear hb2;obtain ⟨-,-,p2,-,pl,-⟩:=K2.out.crew)))
 try simp only [List.append_eq,List.cons_append,List.nil_append]
 refine wp_region_saysK 21 (fun x y=>Below x.heap.size x y) (fun _ _ _ h k=>bnext h k) w2 (below_drew1 w2) (by kernel_rfl) (by kernel_rfl) (by kernel_rfl) (by kernel_rfl) (by rfl) ?_
 simp only [List.take_succ_cons,List.take_zero,List.drop_succ_cons,List.drop_zero]
 refine wkI (.int .i64 (i:Int)) (fun u X' hX hd=>?_) ?_
 iterate 2
  ·obtain ⟨p0,p1,p2,p3,pl,-⟩:=(K2.out.below hX).crew
   rw [HA.out] at p2
   obtain qw:=(HAT.out X' (bnext B2.out hX)).wk
   try simp at hd
   go_simp
   try rfl
  refine wkI (.bool false) (fun u X' hX hd=>?_) ?_
 ·obtain ⟨p0,p1,p2,p3,pl,-⟩:=(K2.out.below hX).crew
  rw [HA.out] at p2
  obtain qw:=(HAT.out X' (bnext B2.out hX)).wk
  try simp at hd
  go_simp
  try rfl
 refine wkI ?_ (fun u X' hX hd=>?_) ?_
 rotate_left
 ·obtain ⟨p0,p1,p2,p3,pl,-⟩:=(K2.out.below hX).crew
  rw [HA.out] at p2
  obtain qw:=(HAT.out X' (bnext B2.out hX)).wk
  try simp at hd
  go_simp
  try rfl
 refine wkI (.slice (some ⟨b,off,none⟩) z.tn z.tc) (fun u X' hX hd=>?_) ?_
 ·obtain ⟨p0,p1,p2,p3,pl,-⟩:=(K2.out.below hX).crew
  rw [HA.out] at p2
  obtain qw:=(HAT.out X' (bnext B2.out hX)).wk
  try simp at hd
  go_simp
  try rfl
 refine wkI (.int .i64 (i:Int)) (fun u X' hX hd=>?_) ?_
 ·obtain ⟨p0,p1,p2,p3,pl,-⟩:=(K2.out.below hX).crew
  rw [HA.out] at p2
  obtain qw:=(HAT.out X' (bnext B2.out hX)).wk
  try simp at hd
  go_simp
  try rfl
 refine wkI (.pointer (some ⟨b,off + i * 18,none⟩)) (fun u X' hX hd=>?_) ?_
 ·obtain ⟨p0,p1,p2,p3,pl,-⟩:=(K2.out.below hX).crew
  rw [HA.out] at p2
  obtain qw:=(HAT.out X' (bnext B2.out hX)).wk
  try simp at hd
  go_simp
  try rfl
 refine wkI ?_ (fun u X' hX hd=>?_) ?_
 rotate_left
 ·obtain ⟨p0,p1,p2,p3,pl,-⟩:=(K2.out.below hX).crew
  rw [HA.out] at p2
  obtain qw:=(HAT.out X' (bnext B2.out hX)).wk
  try simp at hd
  go_simp
  try rfl
 refine wkI (.int .i64 t.wk) (fun u X' hX hd=>?_) ?_
 iterate 3
  ·obtain ⟨p0,p1,p2,p3,pl,-⟩:=(K2.out.below hX).crew
   rw [HA.out] at p2
   obtain qw:=(HAT.out X' (bnext B2.out hX)).wk
   try simp at hd
   go_simp
   try rfl
  refine wkI (.bool false) (fun u X' hX hd=>?_) ?_
 ·obtain ⟨p0,p1,p2,p3,pl,-⟩:=(K2.out.below hX).crew
  rw [HA.out] at p2
  obtain qw:=(HAT.out X' (bnext B2.out hX)).wk
  try simp at hd
  go_simp
  try rfl
 refine wkI ?_ (fun u X' hX hd=>?_) ?_
 rotate_left
 ·obtain ⟨p0,p1,p2,p3,pl,-⟩:=(K2.out.below hX).crew
  rw [HA.out] at p2
  obtain qw:=(HAT.out X' (bnext B2.out hX)).wk
  try simp at hd
  go_simp
  try rfl
 refine wkI (.slice z.wA n z.wc) (fun u X' hX hd=>?_) ?_
 ·obtain ⟨p0,p1,p2,p3,pl,-⟩:=(K2.out.below hX).crew
  rw [HA.out] at p2
  obtain qw:=(HAT.out X' (bnext B2.out hX)).wk
  try simp at hd
  go_simp
  try rfl
 refine wkI ?_ (fun u X' hX hd=>?_) ?_
 rotate_left
 ·obtain ⟨p0,p1,p2,p3,pl,-⟩:=(K2.out.below hX).crew
  rw [HA.out] at p2
  obtain qw:=(HAT.out X' (bnext B2.out hX)).wk
  try simp at hd
  go_simp
  try rfl
 refine wkI (.slice (some ⟨b,off,none⟩) z.tn z.tc) (fun u X' hX hd=>?_) ?_
 ·obtain ⟨p0,p1,p2,p3,pl,-⟩:=(K2.out.below hX).crew
  rw [HA.out] at p2
  obtain qw:=(HAT.out X' (bnext B2.out hX)).wk
  try simp at hd
  go_simp
  try rfl
 refine wkI (.int .i64 (i:Int)) (fun u X' hX hd=>?_) ?_
 ·obtain ⟨p0,p1,p2,p3,pl,-⟩:=(K2.out.below hX).crew
  rw [HA.out] at p2
  obtain qw:=(HAT.out X' (bnext B2.out hX)).wk
  try simp at hd
  go_simp
  try rfl
 refine wkI (.pointer (some ⟨b,off + i * 18,none⟩)) (fun u X' hX hd=>?_) ?_
 ·obtain ⟨p0,p1,p2,p3,pl,-⟩:=(K2.out.below hX).crew
  rw [HA.out] at p2
  obtain qw:=(HAT.out X' (bnext B2.out hX)).wk
  try simp at hd
  go_simp
  try rfl
 refine wkI ?_ (fun u X' hX hd=>?_) ?_
 rotate_left
 ·obtain ⟨p0,p1,p2,p3,pl,-⟩:=(K2.out.below hX).crew
  rw [HA.out] at p2
  obtain qw:=(HAT.out X' (bnext B2.out hX)).wk
  try simp at hd
  go_simp
  try rfl
 refine wkI (.agg (#[.slice t.x.ra t.x.nr t.x.rc,.slice t.x.wa t.x.nw t.x.wc,.slice t.x.aa t.x.na t.x.ac,.int .i64 t.x.c.fuel,.slice t.x.ca t.x.nc t.x.cc])) (fun u X' hX hd=>?_) ?_
 ·have hl:=(show (loadVar 56 ⟨b,off + i * 18 + 1,none⟩).run Tryz.prog X'=.ok (.agg #[.slice t.x.ra t.x.nr t.x.rc,.slice t.x.wa t.x.nw t.x.wc,.slice t.x.aa t.x.na t.x.ac,.int .i64 t.x.c.fuel,.slice t.x.ca t.x.nc t.x.cc]) X' from run_loadVar_mid X' b (off + i * 18 + 1) 56 (cmlC t.x) _ (tk_cmd (HAT.out X' (bnext B2.out hX))) Tryz.underlying56 rfl infoCm5)
  try simp at hd
  refine op_load_at 56 (b) (off + i * 18 + 1) hl _ rfl ?_
  go_simp
 refine walkK_is (.int .i64 seq) (by first | exact gs0 rfl | exact gs1 rfl rfl rfl) (fun _=>Below.refl _ _) (fun u X' hX hd=>?_) ?_
 ·obtain ⟨p0,p1,p2,p3,pl,-⟩:=(K2.out.below hX).crew
  rw [HA.out] at p2
  obtain qw:=(HAT.out X' (bnext B2.out hX)).wk
  try simp at hd
  go_simp
  try rfl
 refine walkK_last ?_
 intro u X' hX hsay
 have v1:=sayAll_put hsay 1 (.bool false) rfl
 have v2:=sayAll_put hsay 2 (.bool false) rfl
 have v10:=sayAll_put hsay 10 (.bool false) rfl
 have v11:=sayAll_put hsay 11 (.bool false) rfl
 have v13:=sayAll_put hsay 13 (.slice z.wA n z.wc) rfl
 have v19:=sayAll_put hsay 19 (.agg (#[.slice t.x.ra t.x.nr t.x.rc,.slice t.x.wa t.x.nw t.x.wc,.slice t.x.aa t.x.na t.x.ac,.int .i64 t.x.c.fuel,.slice t.x.ca t.x.nc t.x.cc])) rfl
 have v20:=sayAll_put hsay 20 (.int .i64 seq) rfl
 clear hsay
 simp only [putAll,Act.put,v1,v2,v10,v11,v13,v19,v20,List.setIfInBounds_toArray,List.set_cons_succ,List.set_cons_zero,Nat.zero_add,Nat.reduceAdd]
 have K4:=hid (K2.out.below hX)
 have R4:=hid (R2.out.below hX)
 have B4:=hid (bnext B2.out hX)
 clear hX v1 v2 v10 v11 v13 v19 v20
 go_wp2_with (first
  | (go_at_call 41;go_must ((with_reducible refine (hrd.out _ B4.out).mono ?_);rintro e w5 ⟨rfl,hb5⟩;have B5:=hid (bnext B4.out hb5);have K5:=hid (K4.out.below hb5);have R5:=hid (R4.out.below hb5);clear hb5))
  | (with_reducible refine ld_cw w.heap.size K5.out _ rfl rfl rfl ?_)
  | (with_reducible refine st_cw (w.heap.size + 1) R5.out rfl n no H z _ _ rfl rfl rfl rfl ?_))
 exact bodyPost_ret (v:=.tuple #[.agg (cwA n no H z),.int .i64 16]) (res2_cw rfl _ _ (w.heap.size + 1) _ rfl rfl (Bk.setRow R5.out _)) rfl ⟨z,rfl,H0.out.below (below_row B5.out (by omega) _),below_row B5.out (by omega) _,fun _ _ q=>q⟩
theorem rpick_yes (h:CwIs n no X w z) (hfew:X.tasks.length≤900) (hg:goodL n X.tasks) (hid0:∀ T∈X.tasks,T.worker < 0→T.m=newM T.cmd) (hin:0≤worker∧worker < workers) (ho:ofP X.tasks worker=none) (i:Nat) (hf:findP X.tasks seq=some i) (hwn:(tskAt X.tasks i).worker < 0) (hrd:readyB (whoP X.tasks) seq (tskAt X.tasks i).cmd=true) :
  Calls Tryz.prog 13 #[.agg (cwA n no H z),.int .i64 workers,.int .i64 worker,.int .i64 seq] w (CwErr n no H { X with tasks:=X.tasks.set i { tskAt X.tasks i with worker:=worker,own:=loadT X.blocks (tskAt X.tasks i).cmd } } z 0 w):=by
 obtain ⟨W0,hW0⟩:∃ W,W=(w.alloc (.cells (cwA n no H z) 34)).alloc (.cells cwZ 34):=⟨_,rfl⟩
 obtain ⟨b0,kb,kr⟩:=cwW_is n no H z w
 rw [← hW0] at b0 kb kr
 have HW:=hid hW0
 have B0:=hid b0
 have K0:=hid kb
 have R0:=hid kr
 have H0:=hid h
 have hs0:w.heap.size + 2≤W0.heap.size:=by rw [hW0,World.size_alloc,World.size_alloc];omega
 have hof:=hid (fun W (hW:Below w.heap.size w W)=>rof_is X.tasks z.tl z.tA z.tn z.tc W worker (H0.out.tk.below hW) (by have:=H0.out.tk.lenL;omega))
 rw [wk_none ho] at hof
 have hfi:=hid (fun W (hW:Below w.heap.size w W)=>rfind_is X.tasks z.tl z.tA z.tn z.tc W seq (H0.out.tk.below hW) (by have:=H0.out.tk.lenL;omega))
 rw [seq_some hf] at hfi
 have d1:decide (worker < 0)=false:=decide_eq_false (by omega)
 have d2:decide (workers≤worker)=false:=decide_eq_false (by omega)
 have d3:decide ((0:Int)≤-1)=false:=by decide
 obtain ⟨hi,hsq⟩:=findP_some hf
 obtain ⟨t,ht,hts,hint,hfe⟩:=tk_is h.tk hi
 have hmf:=hg (tskAt X.tasks i) (List.mem_of_getElem? (tskAt_lt hi))
 have hc0:(tskAt X.tasks i).cmd=t.x.c:=by rw [← hts];rfl
 have hw0:(tskAt X.tasks i).worker=t.wk:=by rw [← hts];rfl
 have hs1:t.s=seq:=by rw [← hsq,← hts];rfl
 rw [hc0] at hmf
 have hfv:readyL (lksW (whoP X.tasks) n) t.x.c t.s=true:=by rw [hs1,readyB_L hmf.1.sets hmf.2,← hc0,hrd]
 obtain ⟨b,off,hA,hat⟩:=h.tk.sl.lies ht
 have HAT:=hid hat
 have hitn:i < z.tn:=by have:=h.tk.lenL;omega
 have hcap:z.tn≤z.tc:=by have:=h.tk.sl.cap;rw [h.tk.len] at this;exact this
 have e1:(i:Int) < (z.tn:Int):=by omega
 have e2:(i:Int) < (z.tc:Int):=by omega
 have e3:decide ((i:Int) < 0)=false:=decide_eq_false (by omega)
 have e4:¬ (i:Int) < 0:=by omega
 have hrd:=hid (fun W (hW:Below w.heap.size w W)=>rready_who t.x.c t.x.ra t.x.nr t.x.rc t.x.wa t.x.nw t.x.wc t.x.aa t.x.na t.x.ac t.x.c.fuel t.x.ca t.x.nc t.x.cc (whoP X.tasks) z.wA n z.wc t.s W (H0.out.wt.sl.below hW) (by rw [whoP_len];omega) ((CmL.lk hint.cmd hmf.1 hmf.2).below hW))
 rw [show readyL (lksW (whoP X.tasks) n) t.x.c t.s=true from hfv,hs1] at hrd
 have e5:decide (0≤t.wk)=false:=decide_eq_false (by omega)
 have HIN:=hid hint
 have HFE:=hid hfe
 have hll:(loadT X.blocks t.x.c).length=t.x.nr + t.x.nw:=by
  rw [load_length]
  have q1:t.x.c.reads.length=t.x.nr:=hint.cmd.lr
  have q2:t.x.c.writes.length=t.x.nw:=hint.cmd.lw
  omega
 have h8:∀ x∈loadT X.blocks t.x.c,x.length=8:=load_good h.e8 hmf.1.sets (by rw [h.len];exact hmf.2)
 have hidle:t.m=newM t.x.c:=by
  have:=hid0 (tskAt X.tasks i) (List.mem_of_getElem? (tskAt_lt hi)) hwn
  rw [← hts] at this
  exact this
 have hlo:=hid (fun W (hW:Below w.heap.size w W)=>rload_tk X.blocks z.bA n z.bc t W (hint.below hW) hmf.1 (H0.out.bl.below hW) H0.out.e8 (by rw [H0.out.len];exact hmf.2) H0.out.len hll h8)
 have hwi:=hid (fun W (u:TkL) (hW:Below w.heap.size w W) (hu:u.In W) (hq:u.tsk={ tskAt X.tasks i with worker:=worker,own:=loadT X.blocks (tskAt X.tasks i).cmd })=>rwith_off X.tasks z.tl z.tA z.tn z.tc W i u (H0.out.tk.below hW) hitn (by have:=H0.out.tk.lenL;omega) hu (load_few (l:=X.blocks) hmf.1 hu worker (by rw [hq,← hts];rfl) hidle))
 have HS:=hid hts
 have HTM:=hid (List.mem_of_getElem? ht)
 have HWH:Hid (whoP (X.tasks.set i { tskAt X.tasks i with worker:=worker,own:=loadT X.blocks (tskAt X.tasks i).cmd })=whoP X.tasks):=hid (whoP_set (tskAt_lt hi) rfl rfl)
 have HA:=hid hA
 clear ho hf hg hid0 hwn hfv hi hsq ht hts hint hfe hmf hc0 hw0 hs1 hat hA hitn hcap hll h8 hidle
 clear h b0 kb kr hW0
 go_enter Tryz.func13,Tryz.ntmps13
 go_wp2_with (first
  | (go_at_call 39;rw [← HW.out];go_must ((with_reducible refine (hfi.out _ B0.out).mono ?_);rintro e w3 ⟨rfl,hb3⟩;have B3:=hid (bnext B0.out hb3);have K3:=hid (K0.out.below hb3);have R3:=hid (R0.out.below hb3);clear hb3;obtain ⟨-,-,p2,-,pl,-⟩:=K3.out.crew))
  | (go_at_call 40;go_must ((with_reducible refine (hof.out _ B3.out).mono ?_);rintro e w2 ⟨rfl,hb2⟩;have B2:=hid (bnext B3.out hb2);have K2:=hid (K3.out.below hb2);have R2:=hid (R3.out.below hb2);clear hb2;obtain ⟨-,-,p2,-,pl,-⟩:=K2.out.crew)))
 try simp only [List.append_eq,List.cons_append,List.nil_append]
 refine wp_region_saysK 21 (fun x y=>Below x.heap.size x y) (fun _ _ _ h k=>bnext h k) w2 (below_drew1 w2) (by kernel_rfl) (by kernel_rfl) (by kernel_rfl) (by kernel_rfl) (by rfl) ?_
 simp only [List.take_succ_cons,List.take_zero,List.drop_succ_cons,List.drop_zero]
 refine wkI (.int .i64 (i:Int)) (fun u X' hX hd=>?_) ?_
 iterate 2
  ·obtain ⟨p0,p1,p2,p3,pl,-⟩:=(K2.out.below hX).crew
   rw [HA.out] at p2
   obtain qw:=(HAT.out X' (bnext B2.out hX)).wk
   try simp at hd
   go_simp
   try rfl
  refine wkI (.bool false) (fun u X' hX hd=>?_) ?_
 ·obtain ⟨p0,p1,p2,p3,pl,-⟩:=(K2.out.below hX).crew
  rw [HA.out] at p2
  obtain qw:=(HAT.out X' (bnext B2.out hX)).wk
  try simp at hd
  go_simp
  try rfl
 refine wkI ?_ (fun u X' hX hd=>?_) ?_
 rotate_left
 ·obtain ⟨p0,p1,p2,p3,pl,-⟩:=(K2.out.below hX).crew
  rw [HA.out] at p2
  obtain qw:=(HAT.out X' (bnext B2.out hX)).wk
  try simp at hd
  go_simp
  try rfl
 refine wkI (.slice (some ⟨b,off,none⟩) z.tn z.tc) (fun u X' hX hd=>?_) ?_
 ·obtain ⟨p0,p1,p2,p3,pl,-⟩:=(K2.out.below hX).crew
  rw [HA.out] at p2
  obtain qw:=(HAT.out X' (bnext B2.out hX)).wk
  try simp at hd
  go_simp
  try rfl
 refine wkI (.int .i64 (i:Int)) (fun u X' hX hd=>?_) ?_
 ·obtain ⟨p0,p1,p2,p3,pl,-⟩:=(K2.out.below hX).crew
  rw [HA.out] at p2
  obtain qw:=(HAT.out X' (bnext B2.out hX)).wk
  try simp at hd
  go_simp
  try rfl
 refine wkI (.pointer (some ⟨b,off + i * 18,none⟩)) (fun u X' hX hd=>?_) ?_
 ·obtain ⟨p0,p1,p2,p3,pl,-⟩:=(K2.out.below hX).crew
  rw [HA.out] at p2
  obtain qw:=(HAT.out X' (bnext B2.out hX)).wk
  try simp at hd
  go_simp
  try rfl
 refine wkI ?_ (fun u X' hX hd=>?_) ?_
 rotate_left
 ·obtain ⟨p0,p1,p2,p3,pl,-⟩:=(K2.out.below hX).crew
  rw [HA.out] at p2
  obtain qw:=(HAT.out X' (bnext B2.out hX)).wk
  try simp at hd
  go_simp
  try rfl
 refine wkI (.int .i64 t.wk) (fun u X' hX hd=>?_) ?_
 iterate 3
  ·obtain ⟨p0,p1,p2,p3,pl,-⟩:=(K2.out.below hX).crew
   rw [HA.out] at p2
   obtain qw:=(HAT.out X' (bnext B2.out hX)).wk
   try simp at hd
   go_simp
   try rfl
  refine wkI (.bool false) (fun u X' hX hd=>?_) ?_
 ·obtain ⟨p0,p1,p2,p3,pl,-⟩:=(K2.out.below hX).crew
  rw [HA.out] at p2
  obtain qw:=(HAT.out X' (bnext B2.out hX)).wk
  try simp at hd
  go_simp
  try rfl
 refine wkI ?_ (fun u X' hX hd=>?_) ?_
 rotate_left
 ·obtain ⟨p0,p1,p2,p3,pl,-⟩:=(K2.out.below hX).crew
  rw [HA.out] at p2
  obtain qw:=(HAT.out X' (bnext B2.out hX)).wk
  try simp at hd
  go_simp
  try rfl
 refine wkI (.slice z.wA n z.wc) (fun u X' hX hd=>?_) ?_
 ·obtain ⟨p0,p1,p2,p3,pl,-⟩:=(K2.out.below hX).crew
  rw [HA.out] at p2
  obtain qw:=(HAT.out X' (bnext B2.out hX)).wk
  try simp at hd
  go_simp
  try rfl
 refine wkI ?_ (fun u X' hX hd=>?_) ?_
 rotate_left
 ·obtain ⟨p0,p1,p2,p3,pl,-⟩:=(K2.out.below hX).crew
  rw [HA.out] at p2
  obtain qw:=(HAT.out X' (bnext B2.out hX)).wk
  try simp at hd
  go_simp
  try rfl
 refine wkI (.slice (some ⟨b,off,none⟩) z.tn z.tc) (fun u X' hX hd=>?_) ?_
 ·obtain ⟨p0,p1,p2,p3,pl,-⟩:=(K2.out.below hX).crew
  rw [HA.out] at p2
  obtain qw:=(HAT.out X' (bnext B2.out hX)).wk
  try simp at hd
  go_simp
  try rfl
 refine wkI (.int .i64 (i:Int)) (fun u X' hX hd=>?_) ?_
 ·obtain ⟨p0,p1,p2,p3,pl,-⟩:=(K2.out.below hX).crew
  rw [HA.out] at p2
  obtain qw:=(HAT.out X' (bnext B2.out hX)).wk
  try simp at hd
  go_simp
  try rfl
 refine wkI (.pointer (some ⟨b,off + i * 18,none⟩)) (fun u X' hX hd=>?_) ?_
 ·obtain ⟨p0,p1,p2,p3,pl,-⟩:=(K2.out.below hX).crew
  rw [HA.out] at p2
  obtain qw:=(HAT.out X' (bnext B2.out hX)).wk
  try simp at hd
  go_simp
  try rfl
 refine wkI ?_ (fun u X' hX hd=>?_) ?_
 rotate_left
 ·obtain ⟨p0,p1,p2,p3,pl,-⟩:=(K2.out.below hX).crew
  rw [HA.out] at p2
  obtain qw:=(HAT.out X' (bnext B2.out hX)).wk
  try simp at hd
  go_simp
  try rfl
 refine wkI (.agg (#[.slice t.x.ra t.x.nr t.x.rc,.slice t.x.wa t.x.nw t.x.wc,.slice t.x.aa t.x.na t.x.ac,.int .i64 t.x.c.fuel,.slice t.x.ca t.x.nc t.x.cc])) (fun u X' hX hd=>?_) ?_
 ·have hl:=(show (loadVar 56 ⟨b,off + i * 18 + 1,none⟩).run Tryz.prog X'=.ok (.agg #[.slice t.x.ra t.x.nr t.x.rc,.slice t.x.wa t.x.nw t.x.wc,.slice t.x.aa t.x.na t.x.ac,.int .i64 t.x.c.fuel,.slice t.x.ca t.x.nc t.x.cc]) X' from run_loadVar_mid X' b (off + i * 18 + 1) 56 (cmlC t.x) _ (tk_cmd (HAT.out X' (bnext B2.out hX))) Tryz.underlying56 rfl infoCm5)
  try simp at hd
  refine op_load_at 56 (b) (off + i * 18 + 1) hl _ rfl ?_
  go_simp
 refine walkK_is (.int .i64 seq) (by first | exact gs0 rfl | exact gs1 rfl rfl rfl) (fun _=>Below.refl _ _) (fun u X' hX hd=>?_) ?_
 ·obtain ⟨p0,p1,p2,p3,pl,-⟩:=(K2.out.below hX).crew
  rw [HA.out] at p2
  obtain qw:=(HAT.out X' (bnext B2.out hX)).wk
  try simp at hd
  go_simp
  try rfl
 refine walkK_last ?_
 intro u X' hX hsay
 have v1:=sayAll_put hsay 1 (.bool false) rfl
 have v2:=sayAll_put hsay 2 (.bool false) rfl
 have v10:=sayAll_put hsay 10 (.bool false) rfl
 have v11:=sayAll_put hsay 11 (.bool false) rfl
 have v13:=sayAll_put hsay 13 (.slice z.wA n z.wc) rfl
 have v19:=sayAll_put hsay 19 (.agg (#[.slice t.x.ra t.x.nr t.x.rc,.slice t.x.wa t.x.nw t.x.wc,.slice t.x.aa t.x.na t.x.ac,.int .i64 t.x.c.fuel,.slice t.x.ca t.x.nc t.x.cc])) rfl
 have v20:=sayAll_put hsay 20 (.int .i64 seq) rfl
 clear hsay
 simp only [putAll,Act.put,v1,v2,v10,v11,v13,v19,v20,List.setIfInBounds_toArray,List.set_cons_succ,List.set_cons_zero,Nat.zero_add,Nat.reduceAdd]
 have K4:=hid (K2.out.below hX)
 have R4:=hid (R2.out.below hX)
 have B4:=hid (bnext B2.out hX)
 clear hX v1 v2 v10 v11 v13 v19 v20
 go_wp2_with (first
  | (go_at_call 41;go_must ((with_reducible refine (hrd.out _ B4.out).mono ?_);rintro e w5 ⟨rfl,hb5⟩;have B5:=hid (bnext B4.out hb5);have K5:=hid (K4.out.below hb5);have R5:=hid (R4.out.below hb5);clear hb5;obtain ⟨-,-,p2,-,pl,-⟩:=K5.out.crew;rw [HA.out] at p2;have hbl:=(HAT.out w5 B5.out).lt;have HR5:=hid (HAT.out w5 B5.out).all;have KZ:=hid (Bk.new w5 67 tkZ);obtain ⟨w6,hw6⟩:∃ w6,w6=(w5.alloc (.cells tkZ 67)).setRow w5.heap.size (tkA t):=⟨_,rfl⟩;have HW6:=hid hw6.symm;have b56:Below w5.heap.size w5 w6:=(by rw [hw6];exact below_row (below_alloc1 _ _) (Nat.le_refl _) _);have hs6:w5.heap.size < w6.heap.size:=(by rw [hw6];simp);have K6:Hid (Bk w6 w5.heap.size 67 (tkA t)):=hid (by rw [hw6];exact KZ.out.setRow _);have C6:=hid (K5.out.below b56);have R6:=hid (R5.out.below b56);have B6:=hid (bnext B5.out b56);have hs5:w.heap.size + 2≤w5.heap.size:=(by have:=R5.out.lt;omega);obtain ⟨q0,-,q2,-,ql,-⟩:=C6.out.crew;rw [HA.out] at q2;clear hw6 b56))
  | (with_reducible refine ld_tskm b (off + i * 18) HR5.out _ rfl rfl rfl ?_)
  | (with_reducible refine st_tsk w5.heap.size KZ.out rfl t _ _ rfl rfl rfl rfl ?_;rw [HW6.out])
  | (with_reducible refine ld_tcmd w5.heap.size K6.out _ rfl rfl rfl ?_)
  | (go_at_call 42;go_must ((with_reducible refine (hlo.out _ B6.out).mono ?_);rintro e w7 ⟨bA,bc,rfl,hin7,hb7,hov⟩;have I7:=hid hin7;have OV:=hid hov;have B7:=hid (bnext B6.out hb7);have K7:=hid (K6.out.below hb7);have C7:=hid (C6.out.below hb7);have R7:=hid (R6.out.below hb7);have hs7:w6.heap.size≤w7.heap.size:=hb7.size;clear hin7 hb7 hov q0 q2 ql p2 pl;obtain ⟨-,-,-,-,k16,k17,kl,kf⟩:=K7.out.tskv;obtain ⟨-,-,r2,-,rl,rf⟩:=C7.out.crew;have hne1:w5.heap.size≠w.heap.size:=(by omega);have hne2:w.heap.size≠w5.heap.size:=(by omega);obtain ⟨t8,ht8⟩:∃ u,u=({ t with wk:=worker,own:=loadT X.blocks t.x.c,bA:=bA,bn:=t.x.nr + t.x.nw,bc:=bc }:TkL):=⟨_,rfl⟩;have HT8:=hid ht8;have k8:Bk ((w7.setCell ⟨w5.heap.size,17,none⟩ (.int .i64 worker)).setCell ⟨w5.heap.size,16,none⟩ (.slice bA (t.x.nr + t.x.nw) bc)) w5.heap.size 67 (tkA t8):=(by rw [ht8];exact (K7.out.tK worker).tO (loadT X.blocks t.x.c) bA (t.x.nr + t.x.nw) bc);have c8:Bk ((w7.setCell ⟨w5.heap.size,17,none⟩ (.int .i64 worker)).setCell ⟨w5.heap.size,16,none⟩ (.slice bA (t.x.nr + t.x.nw) bc)) w.heap.size 34 (cwA n no H z):=((C7.out.far hne2 _).far hne2 _);have b8:Below w.heap.size w ((w7.setCell ⟨w5.heap.size,17,none⟩ (.int .i64 worker)).setCell ⟨w5.heap.size,16,none⟩ (.slice bA (t.x.nr + t.x.nw) bc)):=((B7.out.setCell (p:=⟨w5.heap.size,17,none⟩) (by show w.heap.size≤w5.heap.size;omega) _).setCell (p:=⟨w5.heap.size,16,none⟩) (by show w.heap.size≤w5.heap.size;omega) _);have toff:∀ G,w.heap.size≤G→G < w6.heap.size→t8.Off G:=(fun G h1 h2=>by rw [ht8];exact ⟨(HIN.out.off_ge h1).x,(HIN.out.off_ge h1).m.1,(HIN.out.off_ge h1).m.2.1,OV.out.off h2⟩);have ti:t8.In w7:=(by rw [ht8];exact ⟨I7.out.cmd,I7.out.mac,I7.out.four,I7.out.own,I7.out.eight⟩);have hq8:t8.tsk={ tskAt X.tasks i with worker:=worker,own:=loadT X.blocks (tskAt X.tasks i).cmd }:=(by rw [ht8,← HS.out];rfl);have hto:=toff w5.heap.size (by omega) hs6;have hwi8:=hwi.out _ t8 b8 ((ti.setCell hto 17 (.int .i64 worker)).setCell hto 16 (.slice bA (t.x.nr + t.x.nw) bc)) hq8;rw [HA.out] at hwi8;have TO:=hid toff;have HQ:=hid hq8;have HWI:=hid hwi8;have R8:=hid ((R7.out.far (p:=⟨w5.heap.size,17,none⟩) (by show w.heap.size + 1≠w5.heap.size;omega) (.int .i64 worker)).far (p:=⟨w5.heap.size,16,none⟩) (by show w.heap.size + 1≠w5.heap.size;omega) (.slice bA (t.x.nr + t.x.nw) bc));have B8:=hid b8;have hs8:w6.heap.size≤((w7.setCell ⟨w5.heap.size,17,none⟩ (.int .i64 worker)).setCell ⟨w5.heap.size,16,none⟩ (.slice bA (t.x.nr + t.x.nw) bc)).heap.size:=(by simp [World.setCell];omega);have HS8:=hid hs8;have K8:=hid k8;have C8:=hid c8;obtain ⟨-,-,s2,-,sl,-⟩:=c8.crew;rw [HA.out] at s2;clear k8 c8 ht8 b8 toff ti hq8 hto hwi8 hs8))
  | (with_reducible refine ld_tsk w5.heap.size K8.out _ rfl rfl rfl ?_)
  | (go_at_call 43;go_must ((with_reducible refine HWI.out.mono ?_);rintro e w9 ⟨A9,c9,l9,rfl,hT9,hb9,ho9⟩;have T9:=hid hT9;have O9:=hid ho9;have HS9:=hid hb9.size;have B9:=hid (bnext B8.out hb9);have C9:=hid (C8.out.below hb9);have R9:=hid (R8.out.below hb9);obtain ⟨-,-,u2,-,ul,uf⟩:=C9.out.crew;clear hT9 hb9 ho9 s2 sl r2 rl rf k16 k17 kl kf;have C10:=hid (C9.out.cT A9 z.tn c9 l9);have R10:=hid (R9.out.far (p:=⟨w.heap.size,2,none⟩) (by show w.heap.size + 1≠w.heap.size;omega) (.slice A9 z.tn c9))))
  | (with_reducible refine ld_cw w.heap.size C10.out _ rfl rfl rfl ?_)
  | (with_reducible refine st_cw (w.heap.size + 1) R10.out rfl n no H { z with tA:=A9,tn:=z.tn,tc:=c9,tl:=l9 } _ _ rfl rfl rfl rfl ?_))
 have BF:Below w.heap.size w ((w9.setCell ⟨w.heap.size,2,none⟩ (.slice A9 z.tn c9)).setRow (w.heap.size + 1) (cwA n no H { z with tA:=A9,tn:=z.tn,tc:=c9,tl:=l9 })):=below_row (B9.out.setCell (p:=⟨w.heap.size,2,none⟩) (Nat.le_refl _) _) (by omega) _
 have hP:∀ G,w.heap.size≤G→G < w5.heap.size→TkOffs G A9 z.tn l9:=fun G h1 h2=>O9.out G (by have:=HS8.out;omega) ⟨by rw [← HA.out];exact H0.out.tk.off_ge h1,TO.out G h1 (by omega)⟩
 have TF:=(T9.out.keep (hP w.heap.size (Nat.le_refl _) (by omega)) (OneOff.setCell w9 w.heap.size 2 (.slice A9 z.tn c9))).keep (hP (w.heap.size + 1) (by omega) (by omega)) (OneOff.setRow _ (w.heap.size + 1) (cwA n no H { z with tA:=A9,tn:=z.tn,tc:=c9,tl:=l9 }))
 rw [HQ.out] at TF
 have IS:=H0.out.withT BF TF HWH.out
 have hsz:w.heap.size≤w6.heap.size:=by omega
 have hsF:w.heap.size≤((w7.setCell ⟨w5.heap.size,17,none⟩ (.int .i64 worker)).setCell ⟨w5.heap.size,16,none⟩ (.slice bA (t.x.nr + t.x.nw) bc)).heap.size:=Nat.le_trans hsz HS8.out
 exact bodyPost_ret (v:=.tuple #[.agg (cwA n no H { z with tA:=A9,tn:=z.tn,tc:=c9,tl:=l9 }),.int .i64 0]) (res2_cw rfl _ _ (w.heap.size + 1) _ rfl rfl (Bk.setRow R10.out _)) rfl ⟨_,rfl,IS,BF,fun G hG q=>⟨q.b,O9.out G (Nat.lt_of_lt_of_le hG hsF) ⟨by rw [← HA.out];exact q.t,by rw [HT8.out];exact ⟨(q.t.2 t HTM.out).x,(q.t.2 t HTM.out).m.1,(q.t.2 t HTM.out).m.2.1,OV.out.off (Nat.lt_of_lt_of_le hG hsz)⟩⟩,q.r,q.o,q.k⟩⟩
end
end
section
open Go Go.RowKit
attribute [local go_sem] look findAt
attribute [local simp] depsOf isV Region.binds
section
variable (n no:Nat) (H:Hd) (X:Crw) (z:CwL) (l:List CmL) (A:Option Addr) (ln c:Nat) (first:Int) (w:World)
theorem radd17_any (h:CwIs n no X w z) (hl:Cmds w A c l) (hN:l.length=ln) (hr:∀ x∈l,MayBe x.c∧fitsT x.c n) (hfew:X.tasks.length + ln≤900) (hn:n≤1000) (hf:0≤first∧first≤1000000000000000) :
  Calls Tryz.prog 10 #[.agg (cwA n no H z),.slice A ln c,.int .i64 first] w (AddPost n no H (addX X (fun j:Nat=>first + (j:Int)) l ln) w):=by
 obtain ⟨W0,hW0⟩:∃ W,W=(w.alloc (.cells (cwA n no H z) 34)).alloc (.cells cwZ 34):=⟨_,rfl⟩
 obtain ⟨b0,kb,kr⟩:=cwW_is n no H z w
 rw [← hW0] at b0 kb kr
 have hs0:w.heap.size + 2≤W0.heap.size:=by rw [hW0,World.size_alloc,World.size_alloc];omega
 obtain ⟨F,hF⟩:∃ F:Nat→Int,F=fun j:Nat=>first + (j:Int):=⟨_,rfl⟩
 rw [← hF]
 have HF:=hid hF
 have hFi:Hid (∀ j,F j=first + (j:Int)):=hid (fun j=>by rw [hF])
 have i0:Hid (CwIs n no (addX X F l 0) W0 z):=hid (by rw [addX_zero];exact h.below b0)
 have HW:=hid hW0
 have B0:=hid b0
 have K0:=hid kb
 have R0:=hid kr
 have O0:=hid (And.intro (h.off_ge (G:=w.heap.size) (Nat.le_refl _)) (h.off_ge (G:=w.heap.size + 1) (by omega)))
 have HL:=hid hl
 have HN:=hid hN
 have HRT:=hid hr
 have hcap:=hl.cap
 rw [hN] at hcap
 clear h hl hN hr hW0 b0 kb kr hF
 go_enter Tryz.func10,Tryz.ntmps10
 go_wp2
 rw [← HW.out]
 go_loopw [7] (fun cc wr=>∃ (i:Nat) (y:CwL),i≤ln∧cc=.int .i64 i∧Hid (CwIs n no (addX X F l i) wr y)∧Hid (Bk wr w.heap.size 34 (cwA n no H y))∧Hid (Bk wr (w.heap.size + 1) 34 cwZ)∧Hid (Below w.heap.size w wr)∧Hid (CwOff w.heap.size n no y∧CwOff (w.heap.size + 1) n no y)) (fun cc _=>ln - (intOf cc).toNat)
 case atStart=>exact ⟨0,z,Nat.zero_le _,rfl,i0,K0,R0,B0,O0⟩
 case round=>
  obtain ⟨i,y,hi,rfl,HI,HK,HR,HB,HO⟩:=hrel
  by_cases hlt:i < ln
  ·have d1:(i:Int) < (ln:Int):=by omega
   have d2:(i:Int) < (c:Int):=by omega
   have dw:IntKind.i64.wrap (first + (i:Int))=first + (i:Int):=by rw [IntKind.wrap_i64];omega
   obtain ⟨x,hx⟩:=cml_at (l:=l) (i:=i) (by rw [HN.out];exact hlt)
   have hmem:=List.mem_of_getElem? hx
   have hmf:=HRT.out x hmem
   have hin:=HL.out.2 x hmem
   obtain ⟨bb,off,hAA,hA⟩:=(HL.out.below HB.out).lies hx
   have HAT:=hid hA
   have hyn:y.tn=X.tasks.length + i:=by
    have:=HI.out.tk.lenL
    rw [← this]
    show (X.tasks ++ newG F l i).length=_
    rw [List.length_append,newG_length]
   have hyn2:y.tn≤899:=by omega
   have hne:w.heap.size < wr.heap.size:=HK.out.lt
   have hadd:=hid (fun W (hW:Below wr.heap.size wr W)=>radd_off _ y.tl y.tA y.tn y.tc W x (first + (i:Int)) (HI.out.tk.below hW) (by omega) (hin.below (bnext HB.out hW)) (hin.few hmf.1))
   have hask:=hid (fun W (hW:Below w.heap.size w W) (hl:LkOwn 0 W y.wA n y.wc (lksW (whoP (addX X F l i).tasks) n))=>raskO_who x.c x.ra x.nr x.rc x.wa x.nw x.wc x.aa x.na x.ac x.c.fuel x.ca x.nc x.cc y.wA n y.wc (first + (i:Int)) (whoP (addX X F l i).tasks) W hl hn (by rw [whoP_len];have:=HI.out.tk.lenL;omega) hmf.1.sets ((CmL.lk hin hmf.1 hmf.2).below hW))
   have HX:=hid hx
   have HXO:=hid (fun G (hG:w.heap.size≤G)=>CmL.In.off_ge hin hG)
   clear hx hmem hmf hin hA hyn
   go_wp2
   try simp only [List.append_eq,List.cons_append,List.nil_append]
   refine wp_region_saysK 9 (fun x y=>Below x.heap.size x y) (fun _ _ _ h k=>bnext h k) wr (below_drew1 wr) (by kernel_rfl) (by kernel_rfl) (by kernel_rfl) (by kernel_rfl) (by rfl) ?_
   simp only [List.take_succ_cons,List.take_zero,List.drop_succ_cons,List.drop_zero]
   refine wkI ?_ (fun u X' hX hd=>?_) ?_
   rotate_left
   ·obtain ⟨-,-,p2,-,pl,-⟩:=(HK.out.below hX).crew
    obtain ⟨c0,c1,c2,c3,c4,cl⟩:=HAT.out X' hX
    try simp at hd
    go_simp
    try rfl
   refine wkI (.slice y.tA y.tn y.tc) (fun u X' hX hd=>?_) ?_
   ·obtain ⟨-,-,p2,-,pl,-⟩:=(HK.out.below hX).crew
    obtain ⟨c0,c1,c2,c3,c4,cl⟩:=HAT.out X' hX
    try simp at hd
    go_simp
    try rfl
   refine wkI (.slice (some ⟨bb,off,none⟩) ln c) (fun u X' hX hd=>?_) ?_
   ·obtain ⟨-,-,p2,-,pl,-⟩:=(HK.out.below hX).crew
    obtain ⟨c0,c1,c2,c3,c4,cl⟩:=HAT.out X' hX
    try simp at hd
    go_simp
    try rfl
   refine wkI (.int .i64 (i:Int)) (fun u X' hX hd=>?_) ?_
   ·obtain ⟨-,-,p2,-,pl,-⟩:=(HK.out.below hX).crew
    obtain ⟨c0,c1,c2,c3,c4,cl⟩:=HAT.out X' hX
    try simp at hd
    go_simp
    try rfl
   refine wkI (.pointer (some ⟨bb,off + i * 5,none⟩)) (fun u X' hX hd=>?_) ?_
   ·obtain ⟨-,-,p2,-,pl,-⟩:=(HK.out.below hX).crew
    obtain ⟨c0,c1,c2,c3,c4,cl⟩:=HAT.out X' hX
    try simp at hd
    go_simp
    try rfl
   refine wkI (cmV x.ra x.nr x.rc x.wa x.nw x.wc x.aa x.na x.ac x.c.fuel x.ca x.nc x.cc) (fun u X' hX hd=>?_) ?_
   ·obtain ⟨-,-,p2,-,pl,-⟩:=(HK.out.below hX).crew
    obtain ⟨c0,c1,c2,c3,c4,cl⟩:=HAT.out X' hX
    try simp at hd
    go_simp
    try rfl
   refine wkI (.int .i64 first) (fun u X' hX hd=>?_) ?_
   ·obtain ⟨-,-,p2,-,pl,-⟩:=(HK.out.below hX).crew
    obtain ⟨c0,c1,c2,c3,c4,cl⟩:=HAT.out X' hX
    try simp at hd
    go_simp
    try rfl
   refine wkI (.int .i64 (i:Int)) (fun u X' hX hd=>?_) ?_
   ·obtain ⟨-,-,p2,-,pl,-⟩:=(HK.out.below hX).crew
    obtain ⟨c0,c1,c2,c3,c4,cl⟩:=HAT.out X' hX
    try simp at hd
    go_simp
    try rfl
   refine walkK_is (.int .i64 (first + (i:Int))) (by first | exact gs0 rfl | exact gs1 rfl rfl rfl) (fun _=>Below.refl _ _) (fun u X' hX hd=>?_) ?_
   ·obtain ⟨-,-,p2,-,pl,-⟩:=(HK.out.below hX).crew
    obtain ⟨c0,c1,c2,c3,c4,cl⟩:=HAT.out X' hX
    try simp at hd
    go_simp
    try rfl
   refine walkK_last ?_
   intro u X' hX hsay
   have v1:=sayAll_put hsay 1 (.slice y.tA y.tn y.tc) rfl
   have v5:=sayAll_put hsay 5 (cmV x.ra x.nr x.rc x.wa x.nw x.wc x.aa x.na x.ac x.c.fuel x.ca x.nc x.cc) rfl
   have v8:=sayAll_put hsay 8 (.int .i64 (first + (i:Int))) rfl
   clear hsay
   simp only [putAll,Act.put,v1,v5,v8,List.setIfInBounds_toArray,List.set_cons_succ,List.set_cons_zero,Nat.zero_add,Nat.reduceAdd]
   have K1:=hid (HK.out.below hX)
   have R1:=hid (HR.out.below hX)
   have I1:=hid (HI.out.below hX)
   have B1:=hid (bnext HB.out hX)
   have HX1:=hid hX
   clear v1 v5 v8
   go_wp2_with (go_at_call 28;go_must ((with_reducible refine (hadd.out _ HX1.out).mono ?_);rintro e w2 ⟨A2,c2,l2,rfl,hT2,hb2,ho2⟩;have T2:=hid hT2;have O2:=hid ho2;have K2:=hid (K1.out.below hb2);have R2:=hid (R1.out.below hb2);have I2:=hid (I1.out.below hb2);have B2:=hid (bnext B1.out hb2);clear hT2 ho2 hb2;obtain ⟨-,-,p2,-,pl,pf⟩:=K2.out.crew;have OT:Hid (∀ G,w.heap.size≤G→G < w.heap.size + 2→TkOffs G A2 (y.tn + 1) l2):=hid (fun G h1 h2=>O2.out G (by have:=R1.out.lt;omega) ⟨(by rcases (show G=w.heap.size∨G=w.heap.size + 1 by omega) with e | e;rw [e];exact HO.out.1.t;rw [e];exact HO.out.2.t),HXO.out G h1⟩)))
   obtain ⟨W3,hW3⟩:∃ W,W=w2.setCell ⟨w.heap.size,2,none⟩ (.slice A2 (y.tn + 1) c2):=⟨_,rfl⟩
   rw [← hW3]
   have g3:=OneOff.setCell w2 w.heap.size 2 (.slice A2 (y.tn + 1) c2)
   rw [← hW3] at g3
   have K3:Hid (Bk W3 w.heap.size 34 (cwA n no H { y with tA:=A2,tn:=y.tn + 1,tc:=c2,tl:=l2 })):=hid (by rw [hW3];exact K2.out.cT A2 (y.tn + 1) c2 l2)
   have R3:Hid (Bk W3 (w.heap.size + 1) 34 cwZ):=hid (by rw [hW3];exact R2.out.far (p:=⟨w.heap.size,2,none⟩) (by show w.heap.size + 1≠w.heap.size;omega) _)
   have B3:Hid (Below w.heap.size w W3):=hid (by rw [hW3];exact B2.out.setCell (p:=⟨w.heap.size,2,none⟩) (Nat.le_refl _) _)
   have I3:=hid (I2.out.keep HO.out.1 g3 K2.out (by decide) (by decide))
   have T3:=hid (T2.out.keep (OT.out _ (Nat.le_refl _) (by omega)) g3)
   have HA3:=hid ((HL.out.below B3.out).lies HX.out)
   obtain ⟨b3,off3,hA3,hat3⟩:=HA3.out
   rw [hAA] at hA3
   injection hA3 with hA3
   injection hA3 with e3a e3b
   subst e3a
   subst e3b
   have HAT3:=hid hat3
   clear hW3 g3 hat3 HA3
   iterate 2
    try simp only [List.append_eq,List.cons_append,List.nil_append]
   refine wp_region_saysK 9 (fun x y=>Below x.heap.size x y) (fun _ _ _ h k=>bnext h k) W3 (below_drew1 W3) (by kernel_rfl) (by kernel_rfl) (by kernel_rfl) (by kernel_rfl) (by rfl) ?_
   simp only [List.take_succ_cons,List.take_zero,List.drop_succ_cons,List.drop_zero]
   refine wkI ?_ (fun u X4 hX hd=>?_) ?_
   rotate_left
   ·obtain ⟨-,s1,-,-,sl,-⟩:=(K3.out.below hX).crew
    obtain ⟨c0,c1,c2',c3,c4,cl⟩:=HAT3.out X4 hX
    try simp at hd
    go_simp
    try rfl
   refine wkI (.slice y.wA n y.wc) (fun u X4 hX hd=>?_) ?_
   ·obtain ⟨-,s1,-,-,sl,-⟩:=(K3.out.below hX).crew
    obtain ⟨c0,c1,c2',c3,c4,cl⟩:=HAT3.out X4 hX
    try simp at hd
    go_simp
    try rfl
   refine wkI (.slice (some ⟨bb,off,none⟩) ln c) (fun u X4 hX hd=>?_) ?_
   ·obtain ⟨-,s1,-,-,sl,-⟩:=(K3.out.below hX).crew
    obtain ⟨c0,c1,c2',c3,c4,cl⟩:=HAT3.out X4 hX
    try simp at hd
    go_simp
    try rfl
   refine wkI (.int .i64 (i:Int)) (fun u X4 hX hd=>?_) ?_
   ·obtain ⟨-,s1,-,-,sl,-⟩:=(K3.out.below hX).crew
    obtain ⟨c0,c1,c2',c3,c4,cl⟩:=HAT3.out X4 hX
    try simp at hd
    go_simp
    try rfl
   refine wkI (.pointer (some ⟨bb,off + i * 5,none⟩)) (fun u X4 hX hd=>?_) ?_
   ·obtain ⟨-,s1,-,-,sl,-⟩:=(K3.out.below hX).crew
    obtain ⟨c0,c1,c2',c3,c4,cl⟩:=HAT3.out X4 hX
    try simp at hd
    go_simp
    try rfl
   refine wkI (cmV x.ra x.nr x.rc x.wa x.nw x.wc x.aa x.na x.ac x.c.fuel x.ca x.nc x.cc) (fun u X4 hX hd=>?_) ?_
   ·obtain ⟨-,s1,-,-,sl,-⟩:=(K3.out.below hX).crew
    obtain ⟨c0,c1,c2',c3,c4,cl⟩:=HAT3.out X4 hX
    try simp at hd
    go_simp
    try rfl
   refine wkI (.int .i64 first) (fun u X4 hX hd=>?_) ?_
   ·obtain ⟨-,s1,-,-,sl,-⟩:=(K3.out.below hX).crew
    obtain ⟨c0,c1,c2',c3,c4,cl⟩:=HAT3.out X4 hX
    try simp at hd
    go_simp
    try rfl
   refine wkI (.int .i64 (i:Int)) (fun u X4 hX hd=>?_) ?_
   ·obtain ⟨-,s1,-,-,sl,-⟩:=(K3.out.below hX).crew
    obtain ⟨c0,c1,c2',c3,c4,cl⟩:=HAT3.out X4 hX
    try simp at hd
    go_simp
    try rfl
   refine walkK_is (.int .i64 (first + (i:Int))) (by first | exact gs0 rfl | exact gs1 rfl rfl rfl) (fun _=>Below.refl _ _) (fun u X4 hX hd=>?_) ?_
   ·obtain ⟨-,s1,-,-,sl,-⟩:=(K3.out.below hX).crew
    obtain ⟨c0,c1,c2',c3,c4,cl⟩:=HAT3.out X4 hX
    try simp at hd
    go_simp
    try rfl
   refine walkK_last ?_
   intro u X4 hX hsay
   have v1:=sayAll_put hsay 1 (.slice y.wA n y.wc) rfl
   have v5:=sayAll_put hsay 5 (cmV x.ra x.nr x.rc x.wa x.nw x.wc x.aa x.na x.ac x.c.fuel x.ca x.nc x.cc) rfl
   have v8:=sayAll_put hsay 8 (.int .i64 (first + (i:Int))) rfl
   clear hsay
   simp only [putAll,Act.put,v1,v5,v8,List.setIfInBounds_toArray,List.set_cons_succ,List.set_cons_zero,Nat.zero_add,Nat.reduceAdd]
   have K4':=hid (K3.out.below hX)
   have R4':=hid (R3.out.below hX)
   have I4':=hid (I3.out.below hX)
   have T4':=hid (T3.out.below hX)
   have B4':=hid (bnext B3.out hX)
   have HASK:=hid (hask.out _ B4'.out I4'.out.wt)
   clear hX v1 v5 v8
   go_wp2_with (go_at_call 29;go_must ((with_reducible refine HASK.out.mono ?_);rintro e w4 ⟨A4,c4',rfl,hL4,hb4⟩;have L4:=hid hL4;have K4:=hid (K4'.out.below hb4);have R4:=hid (R4'.out.below hb4);have I4:=hid (I4'.out.below hb4);have T4:=hid (T4'.out.below hb4);have B4:=hid (bnext B4'.out hb4);clear hL4 hb4 p2 pl pf;obtain ⟨-,t1,-,-,tl,tf⟩:=K4.out.crew))
   obtain ⟨W5,hW5⟩:∃ W,W=w4.setCell ⟨w.heap.size,1,none⟩ (.slice A4 n c4'):=⟨_,rfl⟩
   rw [← hW5]
   have g5:=OneOff.setCell w4 w.heap.size 1 (.slice A4 n c4')
   rw [← hW5] at g5
   have L5:=L4.out.turns g5.grown K4.out (by decide) (by decide)
   have T5:=T4.out.keep (OT.out _ (Nat.le_refl _) (by omega)) g5
   have I5:=I4.out.keep HO.out.1 g5 K4.out (by decide) (by decide)
   have K5:Hid (Bk W5 w.heap.size 34 (cwA n no H { y with tA:=A2,tn:=y.tn + 1,tc:=c2,tl:=l2,wA:=A4,wc:=c4' })):=hid (by rw [hW5];exact K4.out.cW A4 c4')
   have R5:Hid (Bk W5 (w.heap.size + 1) 34 cwZ):=hid (by rw [hW5];exact R4.out.far (by show w.heap.size + 1≠w.heap.size;omega) _)
   have B5:Hid (Below w.heap.size w W5):=hid (by rw [hW5];exact B4.out.setCell (p:=⟨w.heap.size,1,none⟩) (Nat.le_refl _) _)
   rw [← hFi.out i] at L5 T5
   have I6:=hid (I5.more HX.out I5 T5 L5)
   have O6:Hid (CwOff w.heap.size n no { y with tA:=A2,tn:=y.tn + 1,tc:=c2,tl:=l2,wA:=A4,wc:=c4' }∧CwOff (w.heap.size + 1) n no { y with tA:=A2,tn:=y.tn + 1,tc:=c2,tl:=l2,wA:=A4,wc:=c4' }):=hid ⟨⟨HO.out.1.b,OT.out _ (Nat.le_refl _) (by omega),HO.out.1.r,HO.out.1.o,HO.out.1.k⟩,⟨HO.out.2.b,OT.out _ (by omega) (by omega),HO.out.2.r,HO.out.2.o,HO.out.2.k⟩⟩
   clear hW5 g5 L5 T5 I5
   rw [← hAA]
   clear hAA
   go_roundw
   case rel=>exact ⟨i + 1,_,by omega,by go_num,I6,K5,R5,B5,O6⟩
   case measure=>simp [intOf];omega
  ·obtain rfl:ln=i:=by omega
   clear hlt
   go_wp2_with (first
    | (with_reducible refine ld_cw w.heap.size HK.out _ rfl rfl rfl ?_)
    | (with_reducible refine st_cw (w.heap.size + 1) HR.out rfl n no H y _ _ rfl rfl rfl rfl ?_))
   have BF:Below w.heap.size w (wr.setRow (w.heap.size + 1) (cwA n no H y)):=below_row HB.out (by omega) _
   exact bodyPost_ret (v:=.agg (cwA n no H y)) (res_cw rfl _ _ (w.heap.size + 1) rfl (Bk.setRow HR.out _)) rfl ⟨_,rfl,HI.out.keep HO.out.2 (OneOff.setRow wr (w.heap.size + 1) (cwA n no H y)) HR.out (by decide) (by decide),BF⟩
end
end
section
open Go Go.RowKit
attribute [local go_sem] look findAt
attribute [local simp] depsOf isV Region.binds
section
variable (A B:Option Addr) (n c d:Nat) (l m:List RsL) (w:World)
theorem sameRs_yes (R:List Rst) (h:RsIs R w A n c l) (k:RsIs R w B n d m) (hn:n≤1000000) (hf:fewR R) :
  Calls Tryz.prog 31 #[.slice A n c,.slice B n d] w fun e w'=>e=.returned (.bool true)∧Below w.heap.size w w':=by
 have hc:n≤c:=by have:=h.sl.cap;rw [h.len] at this;exact this
 have hd:n≤d:=by have:=k.sl.cap;rw [k.len] at this;exact this
 have HA:=hid h
 have HB:=hid k
 have HF:=hid hf
 clear h k hf
 go_enter Tryz.func31,Tryz.ntmps31
 go_wp2
 go_loopw [4,5] (fun _ cc wr=>∃ i:Nat,i≤n∧cc=.int .i64 i∧Hid (Below w.heap.size w wr)) (fun _ cc _=>n - (intOf cc).toNat)
 case atStart=>exact ⟨0,Nat.zero_le _,rfl,hid (Below.refl _ _)⟩
 case round=>
  obtain ⟨i,hi,rfl,HW⟩:=hrel
  by_cases hlt:i < n
  ·have d1:(i:Int) < (n:Int):=by omega
   have d2:(i:Int) < (c:Int):=by omega
   have d3:(i:Int) < (d:Int):=by omega
   obtain ⟨x,hx⟩:=rsl_at (l:=l) (i:=i) (by rw [HA.out.len];exact hlt)
   obtain ⟨y,hy⟩:=rsl_at (l:=m) (i:=i) (by rw [HB.out.len];exact hlt)
   obtain ⟨b1,o1,e1,hat1⟩:=(HA.out.below HW.out).sl.lies hx
   obtain ⟨b2,o2,e2,hat2⟩:=(HB.out.below HW.out).sl.lies hy
   have hxy:x.r=y.r:=by
    have h1:=HA.out.at hx
    have h2:=HB.out.at hy
    rw [h1] at h2
    injection h2
   have hxn:x.n≤1000:=by
    have h1:=HF.out x.r (List.mem_of_getElem? (HA.out.at hx))
    have h2:=(HA.out.sl.2 x (List.mem_of_getElem? hx)).1
    simp at h2
    omega
   have hs:=hid (fun W (hW:Below wr.heap.size wr W)=>rsame_res x y W ((HA.out.sl.2 x (List.mem_of_getElem? hx)).below (HW.out.trans (hW.mono HW.out.size))) ((HB.out.sl.2 y (List.mem_of_getElem? hy)).below (HW.out.trans (hW.mono HW.out.size))) hxy (by omega))
   have HT1:=hid hat1
   have HT2:=hid hat2
   subst e1
   subst e2
   clear hx hy hat1 hat2 hxy
   go_wp2
   try simp only [List.append_eq,List.cons_append,List.nil_append]
   refine wp_region_saysK 8 (fun x y=>Below x.heap.size x y) (fun _ _ _ h k=>bnext h k) wr (below_drew1 wr) (by kernel_rfl) (by kernel_rfl) (by kernel_rfl) (by kernel_rfl) (by rfl) ?_
   simp only [List.take_succ_cons,List.take_zero,List.drop_succ_cons,List.drop_zero]
   refine wkI (.slice (some ⟨b1,o1,none⟩) n c) (fun u X' hX hd=>?_) ?_
   ·obtain ⟨a0,a1,a2,-,al⟩:=HT1.out X' hX
    obtain ⟨f0,f1,f2,-,fl⟩:=HT2.out X' hX
    try simp at hd
    go_simp
    try rfl
   refine wkI (.int .i64 (i:Int)) (fun u X' hX hd=>?_) ?_
   ·obtain ⟨a0,a1,a2,-,al⟩:=HT1.out X' hX
    obtain ⟨f0,f1,f2,-,fl⟩:=HT2.out X' hX
    try simp at hd
    go_simp
    try rfl
   refine wkI (.pointer (some ⟨b1,o1 + i * 3,none⟩)) (fun u X' hX hd=>?_) ?_
   ·obtain ⟨a0,a1,a2,-,al⟩:=HT1.out X' hX
    obtain ⟨f0,f1,f2,-,fl⟩:=HT2.out X' hX
    try simp at hd
    go_simp
    try rfl
   refine wkI (.agg (rslA x)) (fun u X' hX hd=>?_) ?_
   ·obtain ⟨a0,a1,a2,-,al⟩:=HT1.out X' hX
    obtain ⟨f0,f1,f2,-,fl⟩:=HT2.out X' hX
    try simp at hd
    go_simp
    try rfl
   refine wkI (.slice (some ⟨b2,o2,none⟩) n d) (fun u X' hX hd=>?_) ?_
   ·obtain ⟨a0,a1,a2,-,al⟩:=HT1.out X' hX
    obtain ⟨f0,f1,f2,-,fl⟩:=HT2.out X' hX
    try simp at hd
    go_simp
    try rfl
   refine wkI (.int .i64 (i:Int)) (fun u X' hX hd=>?_) ?_
   ·obtain ⟨a0,a1,a2,-,al⟩:=HT1.out X' hX
    obtain ⟨f0,f1,f2,-,fl⟩:=HT2.out X' hX
    try simp at hd
    go_simp
    try rfl
   refine wkI (.pointer (some ⟨b2,o2 + i * 3,none⟩)) (fun u X' hX hd=>?_) ?_
   ·obtain ⟨a0,a1,a2,-,al⟩:=HT1.out X' hX
    obtain ⟨f0,f1,f2,-,fl⟩:=HT2.out X' hX
    try simp at hd
    go_simp
    try rfl
   refine walkK_is (.agg (rslA y)) (by first | exact gs0 rfl | exact gs1 rfl rfl rfl) (fun _=>Below.refl _ _) (fun u X' hX hd=>?_) ?_
   ·obtain ⟨a0,a1,a2,-,al⟩:=HT1.out X' hX
    obtain ⟨f0,f1,f2,-,fl⟩:=HT2.out X' hX
    try simp at hd
    go_simp
    try rfl
   refine walkK_last ?_
   intro u X' hX hsay
   have v3:=sayAll_put hsay 3 (.agg (rslA x)) rfl
   have v7:=sayAll_put hsay 7 (.agg (rslA y)) rfl
   clear hsay
   simp only [putAll,Act.put,v3,v7,List.setIfInBounds_toArray,List.set_cons_succ,List.set_cons_zero,Nat.zero_add,Nat.reduceAdd]
   have HX1:=hid hX
   clear hX v3 v7
   go_wp2_with (go_at_call 19;go_must ((with_reducible refine (hs.out _ HX1.out).mono ?_);rintro e w2 ⟨rfl,hb2⟩;have B2:=hid (HW.out.trans ((bnext HX1.out hb2).mono HW.out.size));clear hb2))
   go_roundw
   case rel=>exact ⟨i + 1,by omega,by go_num,B2⟩
   case measure=>simp [intOf];omega
  ·obtain rfl:n=i:=by omega
   clear hlt
   go_wp2
   go_ret
   exact ⟨rfl,HW.out⟩
end
section
variable (n no:Nat) (H:Hd) (X:Crw) (z y:CwL) (w:World)
theorem sameCw_yes (h:CwIs n no X w z) (k:CwIs n no X w y) (hn:n≤1000) (hno:no≤1000) (ht:X.tasks.length≤1000) (hr:X.results.length≤1000000) (hf:fewR X.results) :
  Calls Tryz.prog 11 #[.agg (cwA n no H z),.agg (cwA n no H y)] w fun e w'=>e=.returned (.bool true)∧Below w.heap.size w w':=by
 have e1:y.on=z.on:=by rw [← k.on,← h.on]
 have e2:y.tn=z.tn:=by rw [← k.tk.lenL,← h.tk.lenL]
 have e3:y.rn=z.rn:=by rw [← k.rs.lenR,← h.rs.lenR]
 have hk2:=k.tk
 have hk3:=k.rs
 rw [e2] at hk2
 rw [e3] at hk3
 have htn:z.tn≤1000:=by rw [← h.tk.lenL];exact ht
 have hrn:z.rn≤1000000:=by rw [← h.rs.lenR];exact hr
 have c1:=hid (fun W (hW:Below w.heap.size w W)=>rsameE_yes X.blocks h.e8 z.bA y.bA n z.bc y.bc W (h.bl.below hW) (k.bl.below hW) h.len (by omega))
 have c2:=hid (fun W (hW:Below w.heap.size w W)=>rsame_who (whoP X.tasks) z.wA n z.wc W y.wA y.wc (h.wt.below hW).sl (k.wt.below hW).sl hn (by simp [whoP];omega))
 have c3:=hid (fun W (hW:Below w.heap.size w W)=>rsame_is X.tasks z.tl z.tA z.tn z.tc W y.tl y.tA y.tc (h.tk.below hW) (hk2.below hW) htn)
 have c4:=hid (fun W (hW:Below w.heap.size w W)=>sameRs_yes z.rA y.rA z.rn z.rc y.rc z.rl y.rl W X.results (h.rs.below hW) (hk3.below hW) hrn hf)
 have c5:=hid (fun W (hW:Below w.heap.size w W)=>rsameM_yes z.on H.a1 H.a2 H.a3 H.a4 H.a5 H.a6 z.oA no z.oc z.kA z.kc y.oA y.oc y.kA y.kc X.mark.old X.mark.kept W (h.mark.below hW) (k.mark.below hW) hno)
 obtain ⟨W0,hW0⟩:∃ W,W=(w.alloc (.cells (cwA n no H z) 34)).alloc (.cells (cwA n no H y) 34):=⟨_,rfl⟩
 have b0:Below w.heap.size w W0:=by rw [hW0];exact bnext (below_alloc1 _ _) (below_alloc1 _ _)
 have k1:Bk W0 w.heap.size 34 (cwA n no H z):=by rw [hW0];exact (Bk.new w _ _).alloc _
 have k2:Bk W0 (w.heap.size + 1) 34 (cwA n no H y):=by
  rw [hW0]
  have:=Bk.new (w.alloc (.cells (cwA n no H z) 34)) 34 (cwA n no H y)
  rwa [World.size_alloc] at this
 have HW:=hid hW0
 have B0:=hid b0
 have K1:=hid k1
 have K2:=hid k2
 clear h k hk2 hk3 hW0 b0 k1 k2 ht hr hf
 go_enter Tryz.func11,Tryz.ntmps11
 go_wp2_with (first
  | (go_at_call 20;rw [← HW.out];go_must ((with_reducible refine (c1.out _ B0.out).mono ?_);rintro e w1 ⟨rfl,hb1⟩;have B1:=hid (bnext B0.out hb1);have K3:=hid (K1.out.below hb1);have K4:=hid (K2.out.below hb1);clear hb1;obtain ⟨-,p1,-,-,pl,-⟩:=K3.out.crew;obtain ⟨-,q1,-,-,ql,-⟩:=K4.out.crew))
  | (go_at_call 21;go_must ((with_reducible refine (c2.out _ B1.out).mono ?_);rintro e w2 ⟨rfl,hb2⟩;have B2:=hid (bnext B1.out hb2);have K5:=hid (K3.out.below hb2);have K6:=hid (K4.out.below hb2);clear hb2 p1 pl q1 ql;obtain ⟨-,-,p1,-,pl,-⟩:=K5.out.crew;obtain ⟨-,-,q1,-,ql,-⟩:=K6.out.crew;rw [e2] at q1))
  | (go_at_call 30;go_must ((with_reducible refine (c3.out _ B2.out).mono ?_);rintro e w3 ⟨rfl,hb3⟩;have B3:=hid (bnext B2.out hb3);have K7:=hid (K5.out.below hb3);have K8:=hid (K6.out.below hb3);clear hb3 p1 pl q1 ql;obtain ⟨-,-,-,p1,pl,-⟩:=K7.out.crew;obtain ⟨-,-,-,q1,ql,-⟩:=K8.out.crew;rw [e3] at q1))
  | (go_at_call 31;go_must ((with_reducible refine (c4.out _ B3.out).mono ?_);rintro e w4 ⟨rfl,hb4⟩;have B4:=hid (bnext B3.out hb4);have K9:=hid (K7.out.below hb4);have KA:=hid (K8.out.below hb4);clear hb4 p1 pl q1 ql;have zl:=K9.out.lt;have yl:=KA.out.lt;have zc0:w4.cell? ⟨w.heap.size,4,none⟩=some (.bool z.on):=K9.out.cell 4;have zc1:w4.cell? ⟨w.heap.size,5,none⟩=some (.int .i64 H.a1):=K9.out.cell 5;have zc2:w4.cell? ⟨w.heap.size,6,none⟩=some (.int .i64 H.a2):=K9.out.cell 6;have zc3:w4.cell? ⟨w.heap.size,7,none⟩=some (.int .i64 H.a3):=K9.out.cell 7;have zc4:w4.cell? ⟨w.heap.size,8,none⟩=some (.int .i64 H.a4):=K9.out.cell 8;have zc5:w4.cell? ⟨w.heap.size,9,none⟩=some (.int .i64 H.a5):=K9.out.cell 9;have zc6:w4.cell? ⟨w.heap.size,10,none⟩=some (.int .i64 H.a6):=K9.out.cell 10;have zc7:w4.cell? ⟨w.heap.size,11,none⟩=some (.slice z.oA no z.oc):=K9.out.cell 11;have zc8:w4.cell? ⟨w.heap.size,12,none⟩=some (.slice z.kA no z.kc):=K9.out.cell 12;have yc0:w4.cell? ⟨w.heap.size + 1,4,none⟩=some (.bool z.on):=(by rw [← e1];exact KA.out.cell 4);have yc1:w4.cell? ⟨w.heap.size + 1,5,none⟩=some (.int .i64 H.a1):=KA.out.cell 5;have yc2:w4.cell? ⟨w.heap.size + 1,6,none⟩=some (.int .i64 H.a2):=KA.out.cell 6;have yc3:w4.cell? ⟨w.heap.size + 1,7,none⟩=some (.int .i64 H.a3):=KA.out.cell 7;have yc4:w4.cell? ⟨w.heap.size + 1,8,none⟩=some (.int .i64 H.a4):=KA.out.cell 8;have yc5:w4.cell? ⟨w.heap.size + 1,9,none⟩=some (.int .i64 H.a5):=KA.out.cell 9;have yc6:w4.cell? ⟨w.heap.size + 1,10,none⟩=some (.int .i64 H.a6):=KA.out.cell 10;have yc7:w4.cell? ⟨w.heap.size + 1,11,none⟩=some (.slice y.oA no y.oc):=KA.out.cell 11;have yc8:w4.cell? ⟨w.heap.size + 1,12,none⟩=some (.slice y.kA no y.kc):=KA.out.cell 12))
  | (go_at_call 32;go_must ((with_reducible refine (c5.out _ B4.out).mono ?_);rintro e w5 ⟨rfl,hb5⟩;have B5:=hid (bnext B4.out hb5);clear hb5)))
 go_ret
 exact ⟨rfl,B5.out⟩
end
end
end Go.Proofs.YtpaocjpjlogkgaaGreat
