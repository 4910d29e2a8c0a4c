/-
  What slices.Delete of one task and pool.Without answer, in whatever memory. No conditions but those that stand there.
-/
import Derived.Test.YtpaocjpjlogkgaaGreatQPooWt
import Derived.Test.YtpaocjpjlogkgaaGreatQPooA
import Derived.Deep.DeepAppendRoom
import Derived.Lib.SliceRun
namespace Go.Proofs.YtpaocjpjlogkgaaGreat
open Go Go.RowKit
set_option maxRecDepth 100000
attribute [local go_sem] look findAt
attribute [local simp] depsOf isV Region.binds
theorem run_clear_recsT {P:Program} (w:World) (t e ty:TypeId) (z:Value) (ht:P.underlying t=some (.slice e)) (hv:∀ w,(zeroValue e).run P w=.ok z w) (b o n c:Nat) (h1:∀ u∈(Builtin.zeroCells z.cells n).toList,u.oneCell'=true)
  (hc:∀ j,j < (Builtin.zeroCells z.cells n).size→(w.cell? ⟨b,o + j,none⟩).isSome=true) (hf:∀ j,j < (Builtin.zeroCells z.cells n).size→w.frozen? ⟨b,o + j,none⟩=false) (hn:n≠0) :
  (Builtin.clear_ #[t] ty #[.slice (some ⟨b,o,none⟩) n c]).run P w=.ok (.tuple #[]) (w.setCells b o (Builtin.zeroCells z.cells n).toList):=by
 have hst:=run_storeCells_cells (P:=P) b o (Builtin.zeroCells z.cells n).toList 0 w (by simpa using hc) (by simpa using hf) h1
 simp only [Nat.add_zero] at hst
 obtain ⟨m,rfl⟩:∃ m,n=m + 1:=⟨n - 1,by omega⟩
 simp [Builtin.clear_,run_underlying ht,hv,hst]
theorem zeroTsk (w:World):(zeroValue 67).run Tryz.prog w=.ok (.agg tkZ) w:=by
 obtain ⟨i0,hi,hz0,-,-⟩:=infoTsk
 simp [zeroValue,typeInfo,hi,hz0]
theorem grown_of_below {w X w1:World} {row:Option Nat} (h:Below w.heap.size w X) (hg:X.grownBy w1 row):w.grownBy w1 row:=⟨hg.os.trans h.os,hg.tape.trans h.tape,hg.output.trans h.output,Nat.le_trans h.size hg.size,fun k hk hne=>(hg.block k (Nat.lt_of_lt_of_le hk h.size) hne).trans (h.block k hk)⟩
theorem zeroOne:(Builtin.zeroCells (Value.agg tkZ).cells 1).toList=tkZ.toList:=by kernel_rfl
theorem tkZ_one:∀ u∈tkZ.toList,u.oneCell'=true:=fun u hu=>by
 simp only [List.mem_cons,List.not_mem_nil,or_false] at hu
 rcases hu with rfl | rfl | rfl | rfl | rfl | rfl | rfl | rfl | rfl | rfl | rfl | rfl | rfl | rfl | rfl | rfl | rfl | rfl <;> rfl
theorem clear_one (w:World) (g q c:Nat) (cur:Array Value) (hk:Bk w g 67 cur) (hs:q * 18 + 18≤cur.size) (ty:TypeId) :
  (Builtin.clear_ #[28] ty #[.slice (some ⟨g,q * 18,none⟩) 1 c]).run Tryz.prog w=.ok (.tuple #[]) (w.setCells g (q * 18) tkZ.toList):=by
 have hz:(Builtin.zeroCells (Value.agg tkZ).cells 1).size=18:=by kernel_rfl
 have:=run_clear_recsT (P:=Tryz.prog) w 28 67 ty _ Tryz.underlying28 zeroTsk g (q * 18) 1 c (by rw [zeroOne];exact tkZ_one) (fun t ht=>by rw [hk.cell,Array.getElem?_eq_getElem (by rw [hz] at ht;omega)];rfl) (fun t _=>hk.frozen _) (by decide)
 rwa [zeroOne] at this
theorem setL_beyond:∀ (vs xs:List Value) (o:Nat),xs.length≤o→setL xs o vs=xs
 | [],_,_,_=>rfl
 | v :: r,xs,o,h=>by rw [setL,List.set_eq_of_length_le h];exact setL_beyond r xs (o + 1) (by omega)
theorem own_bkS {B g n c size:Nat} {e:TypeId} {w:World} {xs:List Value} (h:w.ownsRow B e size (.slice (some ⟨g,0,none⟩) n c) n xs):∃ cur,B≤g∧Bk w g e cur∧n≤c∧c≤maxLen∧cur.size=c * size∧cur.toList.take (n * size)=xs:=by
 rcases h.2 with ⟨q,-⟩ | ⟨g',cap,cur,q,hb,hg,hnc,hcm,hcs,ht⟩
 ·injection q with q
  cases q
 ·injection q with q q2 q3
  injection q with q
  injection q with q
  subst q
  subst q3
  exact ⟨cur,hb,hg,hnc,hcm,hcs,ht⟩
theorem grown_setCells {w w':World} {g:Nat} (h:w.grownBy w' (some g)) (o:Nat) (vs:List Value):w.grownBy (w'.setCells g o vs) (some g):=by
 obtain ⟨m1,m2,m3⟩:=misc_setCells (g:=g) vs o w'
 exact ⟨m1.trans h.os,m2.trans h.tape,m3.trans h.output,by rw [size_setCells];exact h.size,fun k hk hne=>(heap_setCells vs o w' k (by simpa using hne)).trans (h.block k hk hne)⟩
theorem restK_some (b off q k size:Nat):∃ a,restK b off q k size=some a:=by
 unfold restK
 split <;> exact ⟨_,rfl⟩
set_option maxHeartbeats 4000000 in
set_option maxRecDepth 100000 in
theorem tdelete_any (l:List TkL) (g n c i j B:Nat) (w:World) (h:TkOwn B w (some ⟨g,0,none⟩) n c l) (hi:i < n) (hj:j=i + 1) (hn:n≤1000) :
  Calls Tryz.prog 118 #[.slice (some ⟨g,0,none⟩) n c,.int .i64 (i:Int),.int .i64 (j:Int)] w fun e w'=>e=.returned (.slice (some ⟨g,0,none⟩) (n - 1) c)∧w'.ownsRow B 67 18 (.slice (some ⟨g,0,none⟩) (n - 1) c) (n - 1) (tksW (lessT l i))∧w.grownBy w' (some g):=by
 obtain ⟨i0,hi0,hz0,hz1,hz2⟩:=infoTsk
 have hN:=h.1
 have HL:=h.sl.1
 rw [hN] at HL
 have hnc:n≤c:=h.cap
 have S2:=Sl.restK HL (k:=j) (by omega)
 rw [tksW_drop] at S2
 have O1:=own_take h.2.1 (k:=i) (by omega)
 rw [tksW_take] at O1
 obtain ⟨ad,had⟩:=restK_some g 0 c j 18
 rw [had] at S2
 have HAD:=Lib.hid had
 have HS2:=Lib.hid S2
 have HO1:=Lib.hid O1
 have hlen2:(tksW (l.drop j)).length=(n - j) * 18:=by rw [tksW_length,List.length_drop,hN]
 have HLEN2:=Lib.hid hlen2
 obtain ⟨q,hq⟩:∃ q,q=i + (n - j):=⟨_,rfl⟩
 have hqn:q + 1=n:=by omega
 have HQ:=Lib.hid hq.symm
 have HX:Hid (tksW (l.take i) ++ tksW (l.drop j)=tksW (lessT l i)):=Lib.hid (by unfold lessT;rw [tksW_append,hj])
 have d1:(i:Int)≤(j:Int):=by omega
 have d2:(j:Int)≤(n:Int):=by omega
 have d3:(n:Int)≤(c:Int):=by omega
 have d4:(0:Int)≤(i:Int):=by omega
 have d5:(0:Int)≤(j:Int):=by omega
 have d6:(i:Int)≤(c:Int):=by omega
 have d7:(0:Int)≤(q:Int):=by omega
 have d8:(q:Int)≤(n:Int):=by omega
 have d9:(j:Int)≤(c:Int):=by omega
 have d10:i≤c:=by omega
 have d11:j≤n:=by omega
 have d12:i≤j:=by omega
 have d13:q≤n:=by omega
 have d14:¬ c=q:=by omega
 have d15:n - q=1:=by omega
 have d16:((i:Int) == (j:Int))=false:=beq_eq_false_iff_ne.2 (by omega)
 have HR:Hid (n - 1=q):=Lib.hid (by omega)
 rw [HR.out]
 clear h hN HL S2 O1 hlen2 had hq hj
 have HQN:=Lib.hid hqn
 clear hqn
 go_enter Tryz.func118,Tryz.ntmps118
 go_wp2
 try simp only [List.append_eq,List.cons_append,List.nil_append]
 refine wp_region_saysK 6 (fun x y=>Below x.heap.size x y) (fun _ _ _ h k=>bnext h k) w (below_drew1 w) (by kernel_rfl) (by kernel_rfl) (by kernel_rfl) (by kernel_rfl) (by rfl) ?_
 simp only [List.take_succ_cons,List.take_zero,List.drop_succ_cons,List.drop_zero]
 iterate 2
  refine wkI ?_ (fun u X hX hd=>?_) ?_
  rotate_left
  ·skip
   try simp at hd
   go_simp
   try rfl
 refine wkI (.slice (some ⟨g,0,none⟩) i c) (fun u X hX hd=>?_) ?_
 ·skip
  try simp at hd
  go_simp
  try rfl
 refine wkI ?_ (fun u X hX hd=>?_) ?_
 rotate_left
 ·skip
  try simp at hd
  go_simp
  try rfl
 refine wkI (.int .i64 (j:Int)) (fun u X hX hd=>?_) ?_
 ·skip
  try simp at hd
  go_simp
  try rfl
 refine wkI (.slice (some ad) (n - j) (c - j)) (fun u X hX hd=>?_) ?_
 ·rw [← HAD.out]
  try simp at hd
  go_simp
  try simp [restK]
 intro u X hX hsay
 simp only [sayAll,isV] at hsay
 obtain ⟨-,-,v2,-,-,v5,-⟩:=hsay
 simp only [putAll,Act.put,v2,v5,List.setIfInBounds_toArray,List.set_cons_succ,List.set_cons_zero,Nat.zero_add,Nat.reduceAdd]
 have BX:=Lib.hid hX
 clear v2 v5 hX
 go_wp2_with (at_builtin;go_must (refine wpList_append_own_spare _ rfl (.tmp 22) (.tmp 25) _ rfl B 67 i0 18 Tryz.underlying28 hi0 hz1 g i c (tksW (l.take i)) rfl (own_below HO1.out BX.out) ad (n - j) (c - j) (tksW (l.drop j)) rfl HLEN2.out ((Sl.below HS2.out BX.out).olds ad rfl) (tksW_one _) (by omega) ?_;intro w1 hown hgr;rw [HX.out] at hown;rw [HQ.out] at hown ⊢;have OW:=Lib.hid hown;have GR:=Lib.hid (grown_of_below BX.out hgr);obtain ⟨cur,-,hk,-,-,hcs,-⟩:=own_bkS hown;have hq18:q * 18 + 18≤cur.size:=(by have:=HQN.out;rw [hcs];omega);have hcl:=clear_one w1 g q (c - q) cur hk hq18;clear hq18;clear hown hgr hk hcs))
 go_ret
 refine ⟨rfl,?_,grown_setCells GR.out (q * 18) tkZ.toList⟩
 have:=own_setCells tkZ.toList (q * 18) OW.out
 rwa [setL_beyond _ _ _ (by rw [OW.out.1];exact Nat.le_refl _)] at this
theorem TkNew.less {L:List Tsk} {B:Nat} {w w':World} {g n c i:Nat} {l:List TkL} (h:TkNew L B w (some ⟨g,0,none⟩) n c l) (hi:i < n) (hw:w'.ownsRow B 67 18 (.slice (some ⟨g,0,none⟩) (n - 1) c) (n - 1) (tksW (lessT l i))) (hgr:w.grownBy w' (some g)) :
  TkNew (L.take i ++ L.drop (i + 1)) B w' (some ⟨g,0,none⟩) (n - 1) c (lessT l i):=by
 have hm:∀ t∈lessT l i,t∈l:=fun t ht=>by
  rcases List.mem_append.1 ht with q | q
  ·exact List.mem_of_mem_take q
  ·exact List.mem_of_mem_drop q
 refine ⟨⟨by rw [lessT_length (by rw [h.own.1];exact hi),h.own.1],hw,fun t ht=>(h.own.2.2 t (hm t ht)).grown hgr (fun k hk=>by injection hk with hk;exact h.off _ _ rfl t (hm t ht) |> (hk ▸ ·))⟩,?_,fun t ht=>h.few t (hm t ht),fun t ht=>h.over t (hm t ht),fun g' off e t ht=>h.off g' off e t (hm t ht)⟩
 unfold saysT lessT
 rw [List.map_append,List.map_take,List.map_drop,h.says]
set_option maxHeartbeats 4000000 in
set_option maxRecDepth 100000 in
theorem pwithout_any (l:List TkL) (A:Option Addr) (n c i:Nat) (w:World) (h:Tks w A c l) (hN:l.length=n) (hi:i < n) (hn:n≤1000) (hf:∀ t∈l,fewT t) :
  Calls Tryz.prog 86 #[.slice A n c,.int .i64 (i:Int)] w (TpN ((l.map TkL.tsk).take i ++ (l.map TkL.tsk).drop (i + 1)) (n - 1) w):=by
 have hco:=Lib.hid (pcopied_n l A n c w h hN hn hf)
 have hha:=Lib.hid (fun (A:Option Addr) (c:Nat) (W:World)=>phas_yes A n c i W hi)
 obtain ⟨j,hj⟩:∃ j,j=i + 1:=⟨_,rfl⟩
 have hde:=Lib.hid (fun (l:List TkL) (g c:Nat) (W:World) (h:TkOwn w.heap.size W (some ⟨g,0,none⟩) n c l)=>tdelete_any l g n c i j w.heap.size W h hi hj hn)
 have dw:IntKind.i64.wrap ((i:Int) + 1)=(j:Int):=by rw [IntKind.wrap_i64];omega
 have HI:=Lib.hid hi
 clear h hN hf hj
 go_enter Tryz.func86,Tryz.ntmps86
 go_wp2_with (first
  | (go_at_call 58;go_must ((with_reducible refine hco.out.mono ?_);rintro e w1 ⟨A1,c1,l1,rfl,hO,hb1⟩;obtain ⟨g,_,rfl,hg,hk,-⟩:=hO.pos (by omega);have B1:=Lib.hid hb1;have O1:=Lib.hid hO;clear hO hb1 hk))
  | (go_at_call 75;go_must ((with_reducible refine (hha.out _ _ _).mono ?_);rintro e w2 ⟨rfl,rfl⟩))
  | (go_at_call 118;go_must ((with_reducible refine (hde.out l1 g c1 w1 O1.out.own).mono ?_);rintro e w3 ⟨rfl,hw3,hgr⟩;have W3:=Lib.hid hw3;have GR:=Lib.hid hgr;clear hw3 hgr)))
 go_ret
 exact ⟨_,_,_,rfl,O1.out.less HI.out W3.out GR.out,B1.out.grown GR.out B1.out.size fun k hk=>by injection hk with hk;omega⟩
end Go.Proofs.YtpaocjpjlogkgaaGreat
