/-
  awake of layer 17's laws: true, in whatever memory. No conditions.
-/
import Derived.Test.YtpaocjpjlogkgaaGreatQPooV
import Derived.Test.YtpaocjpjlogkgaaGreatQCrwDn
import Derived.Test.YtpaocjpjlogkgaaGreatQCrwF
import Derived.Test.YtpaocjpjlogkgaaGreatQRely
import Derived.Test.YtpaocjpjlogkgaaGreatQWords
namespace Go.Proofs.YtpaocjpjlogkgaaGreat
open Go Go.RowKit
set_option maxRecDepth 100000
attribute [local go_sem] look findAt
attribute [local simp] depsOf isV Region.binds
theorem intsNilA (w:World):Ints w none 0 []:=⟨rfl,Nat.le_refl _,fun _=>⟨rfl,rfl⟩,fun h=>absurd h (by simp)⟩
theorem exec_twoA (ρ:Operand→Value) (w:World) (o:Oper) (x y:Operand) (B:Nat) (ho:o.op=.buildSlice 22 2 #[(0,x),(1,y)]) (hx:ρ x=.agg #[.slice none 0 0,.slice (some ⟨B,0,none⟩) 1 1,.slice none 0 0,.int .i64 7,.slice (some ⟨B + 1,0,none⟩) 3 3]) (hy:ρ y=.agg #[.slice none 0 0,.slice (some ⟨B,0,none⟩) 1 1,.slice none 0 0,.int .i64 7,.slice (some ⟨B + 1,0,none⟩) 3 3]) :
  (execOp ρ o).run Tryz.prog w=.ok (.value (.slice (some ⟨w.heap.size,0,none⟩) 2 2)) (w.alloc (.cells #[.slice none 0 0,.slice (some ⟨B,0,none⟩) 1 1,.slice none 0 0,.int .i64 7,.slice (some ⟨B + 1,0,none⟩) 3 3,.slice none 0 0,.slice (some ⟨B,0,none⟩) 1 1,.slice none 0 0,.int .i64 7,.slice (some ⟨B + 1,0,none⟩) 3 3] 56)):=by
 unfold execOp
 simp only [ho]
 go_simp
 try rw [hx,hy]
 try go_simp
theorem cmds_two (w:World) (B:Nat) (x:CmL) (hx:cmlC x=[.slice none 0 0,.slice (some ⟨B,0,none⟩) 1 1,.slice none 0 0,.int .i64 7,.slice (some ⟨B + 1,0,none⟩) 3 3]) (h:x.In w):Cmds (w.alloc (.cells #[.slice none 0 0,.slice (some ⟨B,0,none⟩) 1 1,.slice none 0 0,.int .i64 7,.slice (some ⟨B + 1,0,none⟩) 3 3,.slice none 0 0,.slice (some ⟨B,0,none⟩) 1 1,.slice none 0 0,.int .i64 7,.slice (some ⟨B + 1,0,none⟩) 3 3] 56)) (some ⟨w.heap.size,0,none⟩) 2 [x,x]:=by
 have hk:=Bk.new w 56 #[.slice none 0 0,.slice (some ⟨B,0,none⟩) 1 1,.slice none 0 0,.int .i64 7,.slice (some ⟨B + 1,0,none⟩) 3 3,.slice none 0 0,.slice (some ⟨B,0,none⟩) 1 1,.slice none 0 0,.int .i64 7,.slice (some ⟨B + 1,0,none⟩) 3 3]
 refine ⟨⟨by rw [cmlsW_length],Nat.le_refl _,fun h=>(by cases h),fun _=>⟨_,0,rfl,hk.lt,fun j hj=>?_⟩⟩,fun y hy=>?_⟩
 ·rw [Nat.zero_add,hk.cell j]
  show _=(cmlsW [x,x])[j]?
  have:cmlsW [x,x]=[.slice none 0 0,.slice (some ⟨B,0,none⟩) 1 1,.slice none 0 0,.int .i64 7,.slice (some ⟨B + 1,0,none⟩) 3 3,.slice none 0 0,.slice (some ⟨B,0,none⟩) 1 1,.slice none 0 0,.int .i64 7,.slice (some ⟨B + 1,0,none⟩) 3 3]:=by
   show cmlC x ++ (cmlC x ++ [])=_
   rw [hx]
   rfl
  rw [this]
  simp
 ·simp only [List.mem_cons,List.not_mem_nil,or_false] at hy
  rcases hy with rfl | rfl <;> exact h.below (below_alloc1 w _)
structure AwE where
 z0:CwL
 A:Option Addr
 c:Nat
 z:CwL
 g:Nat
def awV (cv:Value) (x:AwE):Nat→Value
 | 0=>.agg (cwA 1 0 hd0 x.z0)
 | 1=>cv
 | 2=>cv
 | 3=>.slice x.A 2 x.c
 | 4=>.agg (cwA 1 0 hd0 x.z)
 | 5=>.pointer (some ⟨x.g,0,none⟩)
 | _=>undef
structure AwH (W:World) (x:CmL) (d:Nat→Bool) (e:AwE) (X:World):Prop where
 b:Below W.heap.size W X
 r:d 0=true→CwIs 1 0 (restX 1) X e.z0
 l:d 3=true→Cmds X e.A e.c [x,x]
 k:d 4=true→CwIs 1 0 awP X e.z
 g:d 5=true→Bk X e.g 34 cwZ∧W.heap.size≤e.g
 o0:d 0=true→d 5=true→CwOff e.g 1 0 e.z0
 o4:d 4=true→d 5=true→CwOff e.g 1 0 e.z
section
variable {W X X':World} {x:CmL} {d:Nat→Bool} {e:AwE}
theorem AwH.to (h:AwH W x d e X) (hb:Below X.heap.size X X'):AwH W x d e X':=
 ⟨bnext h.b hb,fun q=>(h.r q).below hb,fun q=>(h.l q).below hb,fun q=>(h.k q).below hb,fun q=>⟨(h.g q).1.below hb,(h.g q).2⟩,h.o0,h.o4⟩
theorem AwH.quiet (h:AwH W x d e X) {i:Nat} (hi:i=1∨i=2):AwH W x (updB d i) e X:=by
 have e0:updB d i 0=d 0:=updB_ne d (by omega)
 have e3:updB d i 3=d 3:=updB_ne d (by omega)
 have e4:updB d i 4=d 4:=updB_ne d (by omega)
 have e5:updB d i 5=d 5:=updB_ne d (by omega)
 exact ⟨h.b,fun q=>h.r (by rwa [e0] at q),fun q=>h.l (by rwa [e3] at q),fun q=>h.k (by rwa [e4] at q),fun q=>h.g (by rwa [e5] at q),fun p q=>h.o0 (by rwa [e0] at p) (by rwa [e5] at q),fun p q=>h.o4 (by rwa [e4] at p) (by rwa [e5] at q)⟩
theorem AwH.step0 (h:AwH W x d e X) (hb:Below X.heap.size X X') {z:CwL} (hI:CwIs 1 0 (restX 1) X' z) (ho:∀ G,G < X.heap.size→CwOff G 1 0 z):AwH W x (updB d 0) { e with z0:=z } X':=by
 have e3:updB d 0 3=d 3:=updB_ne d (by omega)
 have e4:updB d 0 4=d 4:=updB_ne d (by omega)
 have e5:updB d 0 5=d 5:=updB_ne d (by omega)
 have t:=h.to hb
 exact ⟨t.b,fun _=>hI,fun q=>t.l (by rwa [e3] at q),fun q=>t.k (by rwa [e4] at q),fun q=>t.g (by rwa [e5] at q),fun _ q=>ho _ (h.g (by rwa [e5] at q)).1.lt,fun p q=>t.o4 (by rwa [e4] at p) (by rwa [e5] at q)⟩
theorem AwH.step3 (h:AwH W x d e X) (hb:Below X.heap.size X X') {A:Option Addr} {c:Nat} (hl:Cmds X' A c [x,x]):AwH W x (updB d 3) { e with A:=A,c:=c } X':=by
 have e0:updB d 3 0=d 0:=updB_ne d (by omega)
 have e4:updB d 3 4=d 4:=updB_ne d (by omega)
 have e5:updB d 3 5=d 5:=updB_ne d (by omega)
 have t:=h.to hb
 exact ⟨t.b,fun q=>t.r (by rwa [e0] at q),fun _=>hl,fun q=>t.k (by rwa [e4] at q),fun q=>t.g (by rwa [e5] at q),fun p q=>t.o0 (by rwa [e0] at p) (by rwa [e5] at q),fun p q=>t.o4 (by rwa [e4] at p) (by rwa [e5] at q)⟩
theorem AwH.step4 (h:AwH W x d e X) (hx:x.In W) (h0:d 0=true) (hb:Below X.heap.size X X') {z:CwL} (hI:CwIs 1 0 awP X' z) (ho:∀ G,G < X.heap.size→CwOff G 1 0 e.z0→(∀ y∈[x,x],y.Off G)→CwOff G 1 0 z):AwH W x (updB d 4) { e with z:=z } X':=by
 have e0:updB d 4 0=d 0:=updB_ne d (by omega)
 have e3:updB d 4 3=d 3:=updB_ne d (by omega)
 have e5:updB d 4 5=d 5:=updB_ne d (by omega)
 have t:=h.to hb
 exact ⟨t.b,fun q=>t.r (by rwa [e0] at q),fun q=>t.l (by rwa [e3] at q),fun _=>hI,fun q=>t.g (by rwa [e5] at q),fun p q=>t.o0 (by rwa [e0] at p) (by rwa [e5] at q),fun _ q=>by
  rw [e5] at q
  obtain ⟨k1,k2⟩:=h.g q
  exact ho _ k1.lt (h.o0 h0 q) (fun y hy=>by
   simp only [List.mem_cons,List.not_mem_nil,or_false] at hy
   rcases hy with rfl | rfl <;> exact CmL.In.off_ge hx k2)⟩
theorem AwH.step5 (h:AwH W x d e X):AwH W x (updB d 5) { e with g:=X.heap.size } (X.alloc (.cells cwZ 34)):=by
 have e0:updB d 5 0=d 0:=updB_ne d (by omega)
 have e3:updB d 5 3=d 3:=updB_ne d (by omega)
 have e4:updB d 5 4=d 4:=updB_ne d (by omega)
 have t:=h.to (below_alloc1 X (.cells cwZ 34))
 exact ⟨t.b,fun q=>t.r (by rwa [e0] at q),fun q=>t.l (by rwa [e3] at q),fun q=>t.k (by rwa [e4] at q),fun _=>⟨Bk.new X _ _,h.b.size⟩,fun p _=>(h.r (by rwa [e0] at p)).off_ge (Nat.le_refl _),fun p _=>(h.k (by rwa [e4] at p)).off_ge (Nat.le_refl _)⟩
end
theorem run_alloc_crw (ρ:Operand→Value) (w:World) (o:Oper) (ho:o.op=.alloc 34):(execOp ρ o).run Tryz.prog w=.ok (.value (.pointer (some ⟨w.heap.size,0,none⟩))) (w.alloc (.cells cwZ 34)):=by
 unfold execOp
 simp only [ho]
 go_simp
theorem aw_cells {W:World} {y:CwL} {g:Nat} (h:CwIs 1 0 (awS 3) W y) (hk:Bk W g 34 (cwA 1 0 hd0 y)):∃ eb eo rb ro tA tc bc rc,W.cell? ⟨g,0,none⟩=some (.slice (some ⟨eb,eo,none⟩) 1 bc)∧W.cell? ⟨g,2,none⟩=some (.slice tA 1 tc)∧W.cell? ⟨g,3,none⟩=some (.slice (some ⟨rb,ro,none⟩) 1 rc)∧g < W.heap.size ∧
  eb < W.heap.size∧W.cell? ⟨eb,eo,none⟩=some (.int .i64 5)∧W.cell? ⟨eb,eo + 8,none⟩=some (.int .i64 1)∧rb < W.heap.size∧W.cell? ⟨rb,ro,none⟩=some (.int .i64 1):=by
 obtain ⟨p0,-,p2,p3,pl,-⟩:=hk.crew
 have ht:y.tn=1:=by rw [← h.tk.lenL];exact aw_t
 have hr:y.rn=1:=by
  rw [← h.rs.lenR]
  have:=congrArg List.length aw_r
  rwa [List.length_map] at this
 obtain ⟨eb,eo,hA,hb,hc⟩:=h.bl.range h.e8 (i:=0) (by rw [h.len];decide)
 obtain ⟨c1,-,c3⟩:=hc W (Below.refl _ _)
 rw [Nat.zero_mul,Nat.add_zero,aw_b] at c1 c3
 have q0:=c1 0 (.int .i64 5) rfl
 obtain ⟨x,hx⟩:=rsl_at (l:=y.rl) (i:=0) (by rw [h.rs.len,hr];decide)
 obtain ⟨rb,ro,hB,hb2,s0,-⟩:=h.rs.sl.at hx
 have hs:x.r.seq=1:=by
  have h1:=h.rs.at hx
  have h2:((awS 3).results.map fun r=>r.seq)[0]? = some x.r.seq:=by rw [List.getElem?_map,h1];rfl
  rw [aw_r] at h2
  injection h2 with h2
  exact h2.symm
 rw [Nat.zero_mul,Nat.add_zero,hs] at s0
 rw [hA] at p0
 rw [ht] at p2
 rw [hB,hr] at p3
 exact ⟨eb,eo,rb,ro,_,_,_,_,p0,p2,p3,pl,hb,q0,c3,hb2,s0⟩
theorem fresh_crew (w:World) (cs:Array Value):Below w.heap.size w ((w.alloc (.cells cwZ 34)).setRow w.heap.size cs):=below_row (below_alloc1 w _) (Nat.le_refl _) _
set_option maxHeartbeats 16000000 in
theorem awake17 (w:World):Calls Tryz.prog 7 #[] w fun e w'=>e=.returned (.bool true)∧Below w.heap.size w w':=by
 have e0:(w.alloc (.cells #[.int .i64 0] 3)).heap.size=w.heap.size + 1:=World.size_alloc ..
 have B1:=below_alloc1 w (.cells #[.int .i64 0] 3)
 have B2:=below_alloc1 (w.alloc (.cells #[.int .i64 0] 3)) (.cells #[.int .i64 1,.int .i64 5,.int .i64 0,.int .i64 5,.int .i64 0,.int .i64 0,.int .i64 17,.int .i64 0,.int .i64 0] 72)
 have B3:=below_alloc1 ((w.alloc (.cells #[.int .i64 0] 3)).alloc (.cells #[.int .i64 1,.int .i64 5,.int .i64 0,.int .i64 5,.int .i64 0,.int .i64 0,.int .i64 17,.int .i64 0,.int .i64 0] 72)) (.cells #[.slice none 0 0,.slice (some ⟨w.heap.size,0,none⟩) 1 1,.slice none 0 0,.int .i64 7,.slice (some ⟨w.heap.size + 1,0,none⟩) 3 3] 56)
 have q0:=((ints_new [0] w).below B2).below B3
 have q1:=(inss_new [⟨1,5,0⟩,⟨5,0,0⟩,⟨17,0,0⟩] (w.alloc (.cells #[.int .i64 0] 3))).below B3
 have k0:=Bk.new ((w.alloc (.cells #[.int .i64 0] 3)).alloc (.cells #[.int .i64 1,.int .i64 5,.int .i64 0,.int .i64 5,.int .i64 0,.int .i64 0,.int .i64 17,.int .i64 0,.int .i64 0] 72)) 56 #[.slice none 0 0,.slice (some ⟨w.heap.size,0,none⟩) 1 1,.slice none 0 0,.int .i64 7,.slice (some ⟨w.heap.size + 1,0,none⟩) 3 3]
 rw [World.size_alloc,World.size_alloc] at k0
 rw [e0] at q1
 have b0:=bnext B1 (bnext B2 B3)
 obtain ⟨W0,hW0⟩:∃ W0,W0=(((w.alloc (.cells #[.int .i64 0] 3)).alloc (.cells #[.int .i64 1,.int .i64 5,.int .i64 0,.int .i64 5,.int .i64 0,.int .i64 0,.int .i64 17,.int .i64 0,.int .i64 0] 72)).alloc (.cells #[.slice none 0 0,.slice (some ⟨w.heap.size,0,none⟩) 1 1,.slice none 0 0,.int .i64 7,.slice (some ⟨w.heap.size + 1,0,none⟩) 3 3] 56)):=⟨_,rfl⟩
 rw [← hW0] at b0 k0
 have q0':Ints W0 (some ⟨w.heap.size,0,none⟩) 1 [0]:=by rw [hW0];exact q0
 have q1':Inss W0 (some ⟨w.heap.size + 1,0,none⟩) 3 [⟨1,5,0⟩,⟨5,0,0⟩,⟨17,0,0⟩]:=by rw [hW0];exact q1
 obtain ⟨x,hx⟩:∃ x:CmL,x=⟨cmdA,none,0,0,some ⟨w.heap.size,0,none⟩,1,1,none,0,0,some ⟨w.heap.size + 1,0,none⟩,3,3⟩:=⟨_,rfl⟩
 have hin:x.In W0:=by rw [hx];exact ⟨rfl,rfl,rfl,rfl,intsNilA _,q0',intsNilA _,q1'⟩
 have hxc:x.c=cmdA:=by rw [hx]
 have hxe:cmlC x=[.slice none 0 0,.slice (some ⟨w.heap.size,0,none⟩) 1 1,.slice none 0 0,.int .i64 7,.slice (some ⟨w.heap.size + 1,0,none⟩) 3 3]:=by rw [hx];rfl
 have CC:Hid (∀ X,Below W0.heap.size W0 X→X.cell? ⟨w.heap.size + 1 + 1,0,none⟩=some (.slice none 0 0)∧X.cell? ⟨w.heap.size + 1 + 1,1,none⟩=some (.slice (some ⟨w.heap.size,0,none⟩) 1 1)∧X.cell? ⟨w.heap.size + 1 + 1,2,none⟩=some (.slice none 0 0)∧X.cell? ⟨w.heap.size + 1 + 1,3,none⟩=some (.int .i64 7)∧X.cell? ⟨w.heap.size + 1 + 1,4,none⟩=some (.slice (some ⟨w.heap.size + 1,0,none⟩) 3 3)∧w.heap.size + 1 + 1 < X.heap.size):=Lib.hid (fun X hX=>by
  have hk:=k0.below hX
  exact ⟨hk.cell 0,hk.cell 1,hk.cell 2,hk.cell 3,hk.cell 4,hk.lt⟩)
 have HRT:Hid (∀ y∈[x,x],MayBe y.c∧fitsT y.c 1):=Lib.hid (fun y hy=>by
  simp only [List.mem_cons,List.not_mem_nil,or_false] at hy
  rcases hy with rfl | rfl <;> (rw [hxc];exact ⟨cmdA_may,cmdA_fits⟩))
 have HST:Hid (addX (restX 1) (fun j:Nat=>1 + (j:Int)) [x,x] 2=awP):=Lib.hid (by
  rw [start_is 1 [x,x] (ln:=2) rfl]
  simp only [List.map_cons,List.map_nil,hxc]
  rfl)
 have HW:=Lib.hid hW0
 have HXE:=Lib.hid hxe
 have HIN:=Lib.hid hin
 have B0:=Lib.hid b0
 have hsz:w.heap.size + 1 + 1 < W0.heap.size:=k0.lt
 clear e0 B1 B2 B3 q0 q1 q0' q1' k0 b0 hin hW0 hxe hxc
 clear hx
 go_enter Tryz.func7,Tryz.ntmps7
 go_wp2
 rw [← HW.out]
 clear HW
 try simp only [List.append_eq,List.cons_append,List.nil_append]
 refine wp_region_saysE 6 (awV (.agg #[.slice none 0 0,.slice (some ⟨w.heap.size,0,none⟩) 1 1,.slice none 0 0,.int .i64 7,.slice (some ⟨w.heap.size + 1,0,none⟩) 3 3])) (AwH W0 x) ⟨⟨none,0,none,0,[],none,0,0,[],none,0,0,false,none,0,none,0⟩,none,0,⟨none,0,none,0,[],none,0,0,[],none,0,0,false,none,0,none,0⟩,0⟩ ⟨below_drew1 W0,fun q=>(by cases q),fun q=>(by cases q),fun q=>(by cases q),fun q=>(by cases q),fun q=>(by cases q),fun q=>(by cases q)⟩ (by kernel_rfl) (by kernel_rfl) (by kernel_rfl) (by kernel_rfl) (by rfl) ?_ ?_
 ·simp only [List.take_succ_cons,List.take_zero]
  -- 0: the crew at rest
  refine walkE_call 9 (fun d e u X h1 hh hd=>⟨#[.int .i64 1],?_,?_⟩) ?_
  ·clear hd
   go_simp
   try rfl
  ·refine (rest_off 1 (by decide) (by decide) X).mono ?_
   rintro _ X' ⟨z,rfl,hI,hb,ho⟩
   exact ⟨{ e with z0:=z },rfl,fun j hj=>(by
    rcases j with _ | _ | _ | _ | _ | _ | j
    ·rw [h1] at hj;cases hj
    all_goals rfl),hh.step0 hb hI ho⟩
  -- 1,2: the command
  refine walkE_is (fun d e u X _ hh _=>hh.quiet (.inl rfl)) (fun d e u X hh hd=>?_) ?_
  ·obtain ⟨a0,a1,a2,a3,a4,a5⟩:=CC.out X hh.b
   clear hd
   go_simp
   try rfl
  refine walkE_is (fun d e u X _ hh _=>hh.quiet (.inr rfl)) (fun d e u X hh hd=>?_) ?_
  ·obtain ⟨a0,a1,a2,a3,a4,a5⟩:=CC.out X hh.b
   clear hd
   go_simp
   try rfl
  -- 3: the commands
  refine walkE_new (fun d e u X h1 hh hd=>?_) ?_
  ·simp [depsE,awV] at hd
   refine ⟨_,{ e with A:=some ⟨X.heap.size,0,none⟩,c:=2 },exec_twoA _ X _ _ _ w.heap.size rfl (by simp [look,findAt,hd]) (by simp [look,findAt,hd]),fun j hj=>(by
    rcases j with _ | _ | _ | _ | _ | _ | j
    ·rfl
    ·rfl
    ·rfl
    ·rw [h1] at hj;cases hj
    all_goals rfl),hh.step3 (below_alloc1 X _) (cmds_two X w.heap.size x HXE.out (HIN.out.below hh.b))⟩
  -- 4: the crew with them
  refine walkE_call 8 (fun d e u X h1 hh hd=>?_) ?_
  ·simp [depsE,awV] at hd
   obtain ⟨⟨d0,u0⟩,⟨d3,u3⟩⟩:(d 0=true∧u 0=.agg (cwA 1 0 hd0 e.z0))∧(d 3=true∧u 3=.slice e.A 2 e.c):=by simp [hd]
   clear hd
   refine ⟨#[.agg (cwA 1 0 hd0 e.z0),.slice e.A 2 e.c,.int .i64 1],?_,?_⟩
   ·go_simp
    try simp [u0,u3]
   ·have hc:=cadd_off 1 0 hd0 (restX 1) e.z0 [x,x] e.A 2 e.c 1 X (hh.r d0) (hh.l d3) rfl HRT.out (by decide) (by decide) (by decide)
    rw [HST.out] at hc
    refine hc.mono ?_
    rintro _ X' ⟨z,rfl,hI,hb,ho⟩
    exact ⟨{ e with z:=z },rfl,fun j hj=>(by
     rcases j with _ | _ | _ | _ | _ | _ | j
     iterate 4
      ·rfl
     ·rw [h1] at hj;cases hj
     all_goals rfl),hh.step4 HIN.out d0 hb hI ho⟩
  -- 5: the variable
  refine walkE_new (fun d e u X h1 hh hd=>⟨_,{ e with g:=X.heap.size },run_alloc_crw _ X _ rfl,fun j hj=>?_,hh.step5⟩) trivial
  rcases j with _ | _ | _ | _ | _ | _ | j
  iterate 5
   ·rfl
  ·rw [h1] at hj;cases hj
  ·rfl
 ·intro d e X hdone hh
  obtain ⟨hb,hk,hg,ho⟩:Below W0.heap.size W0 X∧CwIs 1 0 awP X e.z∧(Bk X e.g 34 cwZ∧W0.heap.size≤e.g)∧CwOff e.g 1 0 e.z:=⟨hh.b,hh.k (hdone 4 (by decide)),hh.g (hdone 5 (by decide)),hh.o4 (hdone 4 (by decide)) (hdone 5 (by decide))⟩
  clear hh hdone
  obtain ⟨z0,A,c,z,g⟩:=e
  dsimp only at hk hg ho
  obtain ⟨hg,hgz⟩:=hg
  have hwg:w.heap.size≤g:=by have:=B0.out.size;omega
  obtain ⟨W1,hW1⟩:∃ W,W=X.setRow g (cwA 1 0 hd0 z):=⟨_,rfl⟩
  have K0:=Lib.hid hg
  have HW1:=Lib.hid hW1.symm
  have I1:Hid (CwIs 1 0 awP W1 z):=Lib.hid (by rw [hW1];exact hk.keep ho (OneOff.setRow X g _) hg (by decide) (by decide))
  have K1:Hid (Bk W1 g 34 (cwA 1 0 hd0 z)):=Lib.hid (by rw [hW1];exact Bk.setRow hg _)
  have G1:Hid (Below w.heap.size w W1):=Lib.hid (by rw [hW1];exact bnext B0.out (below_row hb hgz _))
  have OF:=Lib.hid ho
  have hp1:=Lib.hid (fun W (h:CwIs 1 0 awP W z)=>(show Calls Tryz.prog 12 #[.agg (cwA 1 0 hd0 z),.int .i64 2,.int .i64 0,.int .i64 2] W (CwErr 1 0 hd0 (pickC awP 2 0 2).1 z 16 W) from by have:=pick_all 1 0 hd0 awP z 2 0 2 W h awP_ok awP_inv.idle;rwa [aw_p1] at this))
  have hp2:=Lib.hid (fun W (h:CwIs 1 0 awP W z)=>(show Calls Tryz.prog 12 #[.agg (cwA 1 0 hd0 z),.int .i64 2,.int .i64 2,.int .i64 1] W (CwErr 1 0 hd0 (pickC awP 2 2 1).1 z 1 W) from by have:=pick_all 1 0 hd0 awP z 2 2 1 W h awP_ok awP_inv.idle;rwa [aw_p2] at this))
  have hs1:=Lib.hid (fun W (h:CwIs 1 0 awP W z)=>(show Calls Tryz.prog 14 #[.agg (cwA 1 0 hd0 z),.int .i64 2,.int .i64 0] W (CwErr 1 0 hd0 (stepC awP 2 0).1 z 16 W) from by have:=step_all 1 0 hd0 awP z 2 0 W h awP_ok (by decide) (by decide);rwa [aw_s1] at this))
  have hp3:=Lib.hid (fun W (h:CwIs 1 0 awP W z)=>(show Calls Tryz.prog 12 #[.agg (cwA 1 0 hd0 z),.int .i64 2,.int .i64 0,.int .i64 1] W (CwErr 1 0 hd0 (awS 0) z 0 W) from by have:=pick_all 1 0 hd0 awP z 2 0 1 W h awP_ok awP_inv.idle;rwa [aw_p3] at this))
  have hp4:=Lib.hid (fun W y (h:CwIs 1 0 (awS 0) W y)=>(show Calls Tryz.prog 12 #[.agg (cwA 1 0 hd0 y),.int .i64 2,.int .i64 0,.int .i64 2] W (CwErr 1 0 hd0 (pickC (awS 0) 2 0 2).1 y 15 W) from by have:=pick_all 1 0 hd0 (awS 0) y 2 0 2 W h (awS_ok 0 (by decide)) (awS_inv 0 (by decide)).idle;rwa [aw_p4] at this))
  have m1:True:=trivial
  have m2:True:=trivial
  have m3:True:=trivial
  have m4:True:=trivial
  clear hW1 hg ho hk hb CC HRT HST HXE HIN
  simp only [List.take_succ_cons,List.take_zero,List.drop_succ_cons,List.drop_zero,putAll,Act.put,awV,List.setIfInBounds_toArray,List.set_cons_succ,List.set_cons_zero,Nat.zero_add,Nat.reduceAdd]
  go_wp2_with (first
   | (with_reducible refine st_cw g K0.out rfl 1 0 hd0 z _ _ rfl rfl rfl rfl ?_;rw [HW1.out])
   | (with_reducible refine ld_cw g K1.out _ rfl rfl rfl ?_)
   | (go_at_call 12;clear m1;go_must ((with_reducible refine (hp1.out W1 I1.out).mono ?_);rintro e w3 ⟨z3,rfl,-,hb3,-⟩;have N3:=Lib.hid (Bk.new w3 34 cwZ);obtain ⟨w3',hw3⟩:∃ W,W=(w3.alloc (.cells cwZ 34)).setRow w3.heap.size (cwA 1 0 hd0 z3):=⟨_,rfl⟩;have HW3:=Lib.hid hw3.symm;have f3:Below w3.heap.size w3 w3':=(by rw [hw3];exact fresh_crew w3 _);have I3:=Lib.hid ((I1.out.below hb3).below f3);have K3:=Lib.hid ((K1.out.below hb3).below f3);have G3:=Lib.hid (bnext (bnext G1.out hb3) f3);clear hw3 f3 hb3))
   | (with_reducible refine st_cw w3.heap.size N3.out rfl 1 0 hd0 z3 _ _ rfl rfl rfl rfl ?_;rw [HW3.out])
   | (with_reducible refine ld_cw g K3.out _ rfl rfl rfl ?_)
   | (go_at_call 12;clear m2;go_must ((with_reducible refine (hp2.out w3' I3.out).mono ?_);rintro e w4 ⟨z4,rfl,-,hb4,-⟩;have N4:=Lib.hid (Bk.new w4 34 cwZ);obtain ⟨w4',hw4⟩:∃ W,W=(w4.alloc (.cells cwZ 34)).setRow w4.heap.size (cwA 1 0 hd0 z4):=⟨_,rfl⟩;have HW4:=Lib.hid hw4.symm;have f4:Below w4.heap.size w4 w4':=(by rw [hw4];exact fresh_crew w4 _);have I4:=Lib.hid ((I3.out.below hb4).below f4);have K4:=Lib.hid ((K3.out.below hb4).below f4);have G4:=Lib.hid (bnext (bnext G3.out hb4) f4);clear hw4 f4 hb4))
   | (with_reducible refine st_cw w4.heap.size N4.out rfl 1 0 hd0 z4 _ _ rfl rfl rfl rfl ?_;rw [HW4.out])
   | (with_reducible refine ld_cw g K4.out _ rfl rfl rfl ?_)
   | (go_at_call 14;go_must ((with_reducible refine (hs1.out w4' I4.out).mono ?_);rintro e w5 ⟨z5,rfl,-,hb5,-⟩;have N5:=Lib.hid (Bk.new w5 34 cwZ);obtain ⟨w5',hw5⟩:∃ W,W=(w5.alloc (.cells cwZ 34)).setRow w5.heap.size (cwA 1 0 hd0 z5):=⟨_,rfl⟩;have HW5:=Lib.hid hw5.symm;have f5:Below w5.heap.size w5 w5':=(by rw [hw5];exact fresh_crew w5 _);have I5:=Lib.hid ((I4.out.below hb5).below f5);have K5:=Lib.hid ((K4.out.below hb5).below f5);have G5:=Lib.hid (bnext (bnext G4.out hb5) f5);clear hw5 f5 hb5))
   | (with_reducible refine st_cw w5.heap.size N5.out rfl 1 0 hd0 z5 _ _ rfl rfl rfl rfl ?_;rw [HW5.out])
   | (with_reducible refine ld_cw g K5.out _ rfl rfl rfl ?_)
   | (go_at_call 12;clear m3;go_must ((with_reducible refine (hp3.out w5' I5.out).mono ?_);rintro e w6 ⟨z6,rfl,hI6,hb6,ho6⟩;have O6:=Lib.hid (ho6 g K5.out.lt OF.out);have k6:=K5.out.below hb6;have K6:=Lib.hid k6;obtain ⟨w6',hw6⟩:∃ W,W=w6.setRow g (cwA 1 0 hd0 z6):=⟨_,rfl⟩;have HW6:=Lib.hid hw6.symm;have I6:Hid (CwIs 1 0 (awS 0) w6' z6):=Lib.hid (by rw [hw6];exact hI6.keep O6.out (OneOff.setRow w6 g _) k6 (by decide) (by decide));have Q6:Hid (Bk w6' g 34 (cwA 1 0 hd0 z6)):=Lib.hid (by rw [hw6];exact Bk.setRow k6 _);have G6:Hid (Below w.heap.size w w6'):=Lib.hid (by rw [hw6];exact below_row (bnext G5.out hb6) hwg _);clear hw6 k6 hI6 hb6 ho6))
   | (with_reducible refine st_cw g K6.out rfl 1 0 hd0 z6 _ _ rfl rfl rfl rfl ?_;rw [HW6.out])
   | (with_reducible refine ld_cw g Q6.out _ rfl rfl rfl ?_)
   | (go_at_call 12;clear m4;go_must ((with_reducible refine (hp4.out w6' z6 I6.out).mono ?_);rintro e w7 ⟨z7,rfl,-,hb7,-⟩;have N7:=Lib.hid (Bk.new w7 34 cwZ);obtain ⟨w7',hw7⟩:∃ W,W=(w7.alloc (.cells cwZ 34)).setRow w7.heap.size (cwA 1 0 hd0 z7):=⟨_,rfl⟩;have HW7:=Lib.hid hw7.symm;have f7:Below w7.heap.size w7 w7':=(by rw [hw7];exact fresh_crew w7 _);have I7:=Lib.hid ((I6.out.below hb7).below f7);have K7:=Lib.hid ((Q6.out.below hb7).below f7);have G7:=Lib.hid (bnext (bnext G6.out hb7) f7);clear hw7 f7 hb7))
   | (with_reducible refine st_cw w7.heap.size N7.out rfl 1 0 hd0 z7 _ _ rfl rfl rfl rfl ?_;rw [HW7.out]))
  go_loopw [12] (fun kk wr=>∃ (k:Nat) (y:CwL),k≤3∧kk=.int .i64 k∧Hid (CwIs 1 0 (awS k) wr y)∧Hid (Bk wr g 34 (cwA 1 0 hd0 y))∧Hid (CwOff g 1 0 y)∧Hid (Below w.heap.size w wr)) (fun kk _=>3 - (intOf kk).toNat)
  case atStart=>exact ⟨0,z6,by omega,rfl,I7,K7,O6,G7⟩
  case round=>
   obtain ⟨k,y,hk,rfl,HI,HK,HO,HB⟩:=hrel
   by_cases hlt:k < 3
   ·have f1:(k:Int) < 3:=by omega
    have hst:=Lib.hid (show Calls Tryz.prog 14 #[.agg (cwA 1 0 hd0 y),.int .i64 2,.int .i64 0] wr (CwErr 1 0 hd0 (awS (k + 1)) y 0 wr) from by have:=step_all 1 0 hd0 (awS k) y 2 0 wr HI.out (awS_ok k hk) (by decide) (by decide);rwa [aw_st k hlt] at this)
    go_wp2_with (first
     | (with_reducible refine ld_cw g HK.out _ rfl rfl rfl ?_)
     | (go_at_call 14;go_must ((with_reducible refine hst.out.mono ?_);rintro e w8 ⟨y8,rfl,hI8,hb8,ho8⟩;have O8:=Lib.hid (ho8 g HK.out.lt HO.out);have I8:=Lib.hid hI8;have K8:=Lib.hid (HK.out.below hb8);have B8:=Lib.hid (bnext HB.out hb8);clear hI8 hb8 ho8))
     | (with_reducible refine st_cw g K8.out rfl 1 0 hd0 y8 _ _ rfl rfl rfl rfl ?_))
    go_roundw
    case rel=>exact ⟨k + 1,y8,by omega,by go_num,Lib.hid (I8.out.keep O8.out (OneOff.setRow w8 g _) K8.out (by decide) (by decide)),Lib.hid (Bk.setRow K8.out _),O8,Lib.hid (below_row B8.out hwg _)⟩
    case measure=>simp [intOf];omega
   ·obtain rfl:k=3:=by omega
    have f1:¬ ((3:Nat):Int) < 3:=by decide
    have hp5:=Lib.hid (show Calls Tryz.prog 12 #[.agg (cwA 1 0 hd0 y),.int .i64 2,.int .i64 1,.int .i64 2] wr (CwErr 1 0 hd0 (pickC (awS 3) 2 1 2).1 y 0 wr) from by have:=pick_all 1 0 hd0 (awS 3) y 2 1 2 wr HI.out (awS_ok 3 hk) (awS_inv 3 hk).idle;rwa [aw_p5] at this)
    go_wp2_with (first
     | (with_reducible refine ld_cw g HK.out _ rfl rfl rfl ?_)
     | (go_at_call 12;go_must ((with_reducible refine hp5.out.mono ?_);rintro e w9 ⟨z9,rfl,-,hb9,-⟩;have N9:=Lib.hid (Bk.new w9 34 cwZ);obtain ⟨w9',hw9⟩:∃ W,W=(w9.alloc (.cells cwZ 34)).setRow w9.heap.size (cwA 1 0 hd0 z9):=⟨_,rfl⟩;have HW9:=Lib.hid hw9.symm;have f9:Below w9.heap.size w9 w9':=(by rw [hw9];exact fresh_crew w9 _);have I9:=Lib.hid ((HI.out.below hb9).below f9);have K9:=Lib.hid ((HK.out.below hb9).below f9);have G9:=Lib.hid (bnext (bnext HB.out hb9) f9);clear hw9 f9 hb9;obtain ⟨eb,eo,rb,ro,tA,tc,bc,rc,p0,p2,p3,pl,ebl,ec0,ec8,rbl,rc0⟩:=aw_cells I9.out K9.out))
     | (with_reducible refine st_cw w9.heap.size N9.out rfl 1 0 hd0 z9 _ _ rfl rfl rfl rfl ?_;rw [HW9.out]))
    go_ret
    exact ⟨rfl,G9.out⟩
end Go.Proofs.YtpaocjpjlogkgaaGreat
