/-
  Words and contracts of this claim, 3 texts laid into one, each under its own remark. No conditions but those that stand at each.
-/
import Derived.Test.YtpaocjpjlogkgaaGreatQEntM
import Derived.Test.YtpaocjpjlogkgaaGreatQWords
import Derived.Test.YtpaocjpjlogkgaaGreatQRely
import Derived.OwnWalk
namespace Go.Proofs.YtpaocjpjlogkgaaGreat
set_option maxRecDepth 100000
set_option maxHeartbeats 32000000
open Go
open Go.Lib (hid)
section
open Go.RowKit
abbrev mkC (on:Bool) (a1 a2 a3 a4 a5 a6:Int) (O K:Value):Array Value:=#[.bool on,.int .i64 a1,.int .i64 a2,.int .i64 a3,.int .i64 a4,.int .i64 a5,.int .i64 a6,O,K]
def bsW (l:List Bool):List Value:=l.map .bool
theorem bsW_length (l:List Bool):(bsW l).length=l.length:=by simp [bsW]
theorem bsW_one (l:List Bool):∀ u∈bsW l,u.oneCell'=true:=by
 intro u hu
 obtain ⟨x,_,rfl⟩:=List.mem_map.1 hu
 rfl
theorem bsW_set (l:List Bool) (j:Nat) (b:Bool):setL (bsW l) j [.bool b]=bsW (l.set j b):=by
 simp [setL,bsW,List.map_set]
theorem infoMk:(Tryz.prog.info? 32).map (·.size)=some 9:=by kernel_rfl
theorem infoBool:∃ i,Tryz.prog.info? 4=some i∧i.zero=some (.bool false)∧i.size=1∧i.bytes=1:=by
 have h:(Tryz.prog.info? 4).map (fun i=>(i.zero,i.size,i.bytes))=some (some (.bool false),1,1):=by kernel_rfl
 cases hi:Tryz.prog.info? 4 with
 | none=>rw [hi] at h;cases h
 | some i=>
  rw [hi] at h
  simp only [Option.map_some,Option.some.injEq,Prod.mk.injEq] at h
  exact ⟨i,rfl,h.1,h.2.1,h.2.2⟩
structure MkIn (w:World) (old:List Ent) (kept:List Bool) (oA:Option Addr) (no oc:Nat) (kA:Option Addr) (nk kc:Nat):Prop where
 lo:old.length=no
 lk:kept.length=nk
 e8:Eight old
 so:Sl w 9 oA no oc (entsW old)
 sk:Sl w 1 kA nk kc (bsW kept)
theorem MkIn.below {w w':World} {old:List Ent} {kept:List Bool} {oA:Option Addr} {no oc:Nat} {kA:Option Addr} {nk kc:Nat} (h:MkIn w old kept oA no oc kA nk kc) (hb:Below w.heap.size w w'):MkIn w' old kept oA no oc kA nk kc:=
 ⟨h.lo,h.lk,h.e8,h.so.below hb,h.sk.below hb⟩
theorem MkIn.ents {w:World} {old:List Ent} {kept:List Bool} {oA:Option Addr} {no oc:Nat} {kA:Option Addr} {nk kc:Nat} (h:MkIn w old kept oA no oc kA nk kc):Ents w oA oc old:=by
 have:=h.so
 unfold Ents
 rw [h.lo]
 exact this
structure MkOwn (B:Nat) (w:World) (old:List Ent) (kept:List Bool) (oA:Option Addr) (no oc:Nat) (kA:Option Addr) (nk kc:Nat):Prop where
 lo:old.length=no
 lk:kept.length=nk
 e8:Eight old
 oo:w.ownsRow B 76 9 (.slice oA no oc) no (entsW old)
 ok:w.ownsRow B 4 1 (.slice kA nk kc) nk (bsW kept)
section
variable {B:Nat} {w w':World} {old:List Ent} {kept:List Bool} {oA:Option Addr} {no oc:Nat} {kA:Option Addr} {nk kc:Nat}
theorem MkOwn.inn (h:MkOwn B w old kept oA no oc kA nk kc):MkIn w old kept oA no oc kA nk kc:=⟨h.lo,h.lk,h.e8,Sl.own' h.oo,Sl.own' h.ok⟩
theorem MkOwn.below (h:MkOwn B w old kept oA no oc kA nk kc) (hb:Below w.heap.size w w'):MkOwn B w' old kept oA no oc kA nk kc:=⟨h.lo,h.lk,h.e8,own_below h.oo hb,own_below h.ok hb⟩
theorem own_varKeep {e t:TypeId} {size n:Nat} {v:Value} {xs:List Value} {g:Nat} {cs:Array Value} (h:w.ownsRow B e size v n xs) (hg:Bk w g t cs) (hne:t≠e) (hk:∀ k,k≠g→w'.heap[k]? = w.heap[k]?):w'.ownsRow B e size v n xs:=
 own_keep h fun k _ hb=>hk k (by
  rintro rfl
  rcases h.2 with ⟨rfl,_⟩ | ⟨g',cap,cur,rfl,_,hc,_⟩
  ·simp [Value.ownBlock] at hb
  ·simp [Value.ownBlock] at hb
   subst hb
   exact hg.ne hc hne rfl)
theorem own_varRow {e t:TypeId} {size n:Nat} {v:Value} {xs:List Value} {g:Nat} {cs:Array Value} (h:w.ownsRow B e size v n xs) (hg:Bk w g t cs) (hne:t≠e) (cs':Array Value):(w.setRow g cs').ownsRow B e size v n xs:=
 own_varKeep h hg hne fun k hk=>setRow_other w g k cs' hk
theorem own_varCell {e t:TypeId} {size n:Nat} {v:Value} {xs:List Value} {g:Nat} {cs:Array Value} (h:w.ownsRow B e size v n xs) (hg:Bk w g t cs) (hne:t≠e) (i:Nat) (u:Value):(w.setCell ⟨g,i,none⟩ u).ownsRow B e size v n xs:=
 own_varKeep h hg hne fun k hk=>Below.heap_setCell w ⟨g,i,none⟩ u k hk
theorem MkOwn.varRow {t:TypeId} {g:Nat} {cs:Array Value} (h:MkOwn B w old kept oA no oc kA nk kc) (hg:Bk w g t cs) (h1:t≠76) (h2:t≠4) (cs':Array Value):MkOwn B (w.setRow g cs') old kept oA no oc kA nk kc:=
 ⟨h.lo,h.lk,h.e8,own_varRow h.oo hg h1 cs',own_varRow h.ok hg h2 cs'⟩
end
def rowsV (B:Nat) (e:TypeId) (size n:Nat) (xs:List Value):Says:=fun v w=>∃ A c,v=.slice A n c∧w.ownsRow B e size (.slice A n c) n xs
theorem rowsV_keep {B:Nat} {e:TypeId} {size n:Nat} {xs:List Value} (v:Value) (w w':World) (hb:Below w.heap.size w w') (h:rowsV B e size n xs v w):rowsV B e size n xs v w':=by
 obtain ⟨A,c,rfl,ho⟩:=h
 exact ⟨A,c,rfl,own_below ho hb⟩
theorem rowsV_call {f:FuncId} {args:Array Value} {w:World} {B:Nat} {e:TypeId} {size n:Nat} {xs:List Value} (hB:B≤w.heap.size)
  (h:Calls Tryz.prog f args w fun en w'=>∃ A c,en=.returned (.slice A n c)∧w'.ownsRow w.heap.size e size (.slice A n c) n xs∧Below w.heap.size w w') :
  Calls Tryz.prog f args w fun en w'=>∃ v,en=.returned v∧Below w.heap.size w w'∧rowsV B e size n xs v w':=
 h.mono fun _ _ ⟨A,c,he,ho,hb⟩=>⟨_,he,hb,A,c,rfl,own_lower ho hB⟩
section
variable {ops:Array Oper} {rest:List Oper} {o:Oper} {a:Act} {w:World} {Q:Exit→Act→World→Prop}
theorem ld_mk (g:Nat) {on:Bool} {a1 a2 a3 a4 a5 a6:Int} {O K:Value} (hk:Bk w g 32 (mkC on a1 a2 a3 a4 a5 a6 O K)) (x:Operand) (hgd:o.guard=none) (ho:o.op=.load 32 x) (hx:a.eval x=.pointer (some ⟨g,0,none⟩))
  (h:wpList Tryz.prog ops Q rest (a.put o.dst (.agg (mkC on a1 a2 a3 a4 a5 a6 O K))) w):wpList Tryz.prog ops Q (o :: rest) a w:=
 wpList_load_row hgd _ x ho g hx _ _ (0,0) _ hk Tryz.underlying32 rfl infoMk h
theorem st_mk (g:Nat) {on:Bool} {a1 a2 a3 a4 a5 a6:Int} {O K:Value} {cs:Array Value} (hk:Bk w g 32 cs) (hs:cs.size=9)
  (hO:O.oneCell'=true) (hK:K.oneCell'=true) (x y:Operand) (hgd:o.guard=none) (ho:o.op=.store 32 x y) (hx:a.eval x=.pointer (some ⟨g,0,none⟩)) (hy:a.eval y=.agg (mkC on a1 a2 a3 a4 a5 a6 O K))
  (h:wpList Tryz.prog ops Q rest (a.put o.dst undef) (w.setRow g (mkC on a1 a2 a3 a4 a5 a6 O K))):wpList Tryz.prog ops Q (o :: rest) a w:=
 wpList_store_row hgd _ x y ho g _ hx hy _ _ hk infoMk (by rw [hs];rfl) (by simp [Value.oneCell'];exact ⟨hO,hK⟩) h
end
theorem load_mk {w:World} {g:Nat} {on:Bool} {a1 a2 a3 a4 a5 a6:Int} {O K:Value} (hk:Bk w g 32 (mkC on a1 a2 a3 a4 a5 a6 O K)) :
  (loadVar 32 ⟨g,0,none⟩).run Tryz.prog w=.ok (.agg (mkC on a1 a2 a3 a4 a5 a6 O K)) w:=
 run_loadVar_row w g _ _ _ (0,0) _ hk Tryz.underlying32 rfl infoMk
theorem Sl.bool {w:World} {A:Option Addr} {n c:Nat} {l:List Bool} (h:Sl w 1 A n c (bsW l)) {j:Nat} (hj:j < n):∃ b off,A=some ⟨b,off,none⟩∧b < w.heap.size∧w.cell? ⟨b,off + j,none⟩=some (.bool (l[j]?.getD false)):=by
 obtain ⟨b,off,rfl,hb,hc⟩:=h.2.2.2 (by omega)
 have hl:=h.1
 rw [bsW_length] at hl
 refine ⟨b,off,rfl,hb,?_⟩
 rw [hc j (by omega)]
 simp [bsW,show j < l.length by omega]
theorem clone_bools (A:Option Addr) (n c:Nat) (xs:List Value) (w:World) (hA:Sl w 1 A n c xs) (hn:n≤1000) (h1:∀ u∈xs,u.oneCell'=true) :
  Calls Tryz.prog 132 #[.slice A n c] w
   fun e w'=>∃ A' c',e=.returned (.slice A' n c')∧w'.ownsRow w.heap.size 4 1 (.slice A' n c') n xs∧Below w.heap.size w w':=by
 obtain ⟨i0,hi,hz0,hz1,hz2⟩:=infoBool
 have HA:=hid hA
 have H1:=hid h1
 clear hA h1
 cases A with
 | none=>
  obtain ⟨rfl,rfl⟩:=HA.out.2.2.1 rfl
  have hq:=Lib.run_eql_slice_nil (P:=Tryz.prog) w 30 4 none 0 0 0 0 Tryz.underlying30
  go_enter Tryz.func132,Tryz.ntmps132
  go_wp2
  go_ret
  refine ⟨none,0,rfl,?_,Below.refl _ _⟩
  have:=HA.out.1
  exact ⟨this,.inl ⟨rfl,rfl⟩⟩
 | some a=>
  have hq:=Lib.run_eql_slice_nil (P:=Tryz.prog) w 30 4 (some a) n c 0 0 Tryz.underlying30
  go_enter Tryz.func132,Tryz.ntmps132
  go_wp2_with (at_builtin;go_must (refine wpList_append_own _ rfl (.tmp 5) (.tmp 6) _ rfl w.heap.size 4 i0 _ 1 1 Tryz.underlying30 hi hz0 hz1 hz2 rfl (by decide) _ 0 [] rfl (World.ownsRow_lit w #[] 0 (Nat.le_refl _) (by decide) rfl) a n c xs rfl HA.out.1 ((HA.out.alloc _).olds a rfl) H1.out (by unfold maxLen;omega) (by omega) (by simp) ?_;intro v' w1 hown hg hnil))
  obtain ⟨A',c',rfl,hsl⟩:=Sl.own hown
  simp only [Nat.zero_add,List.nil_append] at hown
  go_wp2
  go_ret
  exact ⟨A',c',by simp,hown,((Below.refl _ _).alloc (Nat.le_refl _) _).grown hg (by simp) (fun k hk=>by
   have hk':(Value.slice (some ⟨w.heap.size,0,none⟩) 0 0).ownBlock=some k:=hk
   simp [Value.ownBlock] at hk'
   omega)⟩
end
section
open Go.RowKit
theorem hasE_any (A:Option Addr) (n c:Nat) (i:Int) (b:Bool) (w:World) (hb:b=true↔0≤i∧i < (n:Int)) :
  Calls Tryz.prog 133 #[.slice A n c,.int .i64 i] w fun e w'=>e=.returned (.bool b)∧w=w':=by
 by_cases h0:0≤i
 ·by_cases h1:i < (n:Int)
  ·obtain rfl:b=true:=hb.2 ⟨h0,h1⟩
   clear hb
   go_enter Tryz.func133,Tryz.ntmps133
   go_wp2
   go_ret
   exact ⟨rfl,rfl⟩
  ·obtain rfl:b=false:=by
    cases b
    ·rfl
    ·exact absurd (hb.1 rfl).2 h1
   clear hb
   go_enter Tryz.func133,Tryz.ntmps133
   go_wp2
   go_ret
   exact ⟨rfl,rfl⟩
 ·obtain rfl:b=false:=by
   cases b
   ·rfl
   ·exact absurd (hb.1 rfl).1 h0
  clear hb
  go_enter Tryz.func133,Tryz.ntmps133
  go_wp2
  go_ret
  exact ⟨rfl,rfl⟩
theorem hasB_any (A:Option Addr) (n c:Nat) (i:Int) (b:Bool) (w:World) (hb:b=true↔0≤i∧i < (n:Int)) :
  Calls Tryz.prog 143 #[.slice A n c,.int .i64 i] w fun e w'=>e=.returned (.bool b)∧w=w':=by
 by_cases h0:0≤i
 ·by_cases h1:i < (n:Int)
  ·obtain rfl:b=true:=hb.2 ⟨h0,h1⟩
   clear hb
   go_enter Tryz.func143,Tryz.ntmps143
   go_wp2
   go_ret
   exact ⟨rfl,rfl⟩
  ·obtain rfl:b=false:=by
    cases b
    ·rfl
    ·exact absurd (hb.1 rfl).2 h1
   clear hb
   go_enter Tryz.func143,Tryz.ntmps143
   go_wp2
   go_ret
   exact ⟨rfl,rfl⟩
 ·obtain rfl:b=false:=by
   cases b
   ·rfl
   ·exact absurd (hb.1 rfl).1 h0
  clear hb
  go_enter Tryz.func143,Tryz.ntmps143
  go_wp2
  go_ret
  exact ⟨rfl,rfl⟩
section
variable (on:Bool) (a1 a2 a3 a4 a5 a6:Int) (oA:Option Addr) (no oc:Nat) (kA:Option Addr) (kc:Nat)
theorem fits_is (i:Int) (b:Bool) (w:World) (hb:b=true↔0≤i∧i < (no:Int)) :
  Calls Tryz.prog 134 #[.agg (mkC on a1 a2 a3 a4 a5 a6 (.slice oA no oc) (.slice kA no kc)),.int .i64 i] w fun e w'=>e=.returned (.bool b)∧Below w.heap.size w w':=by
 have h1:=hid (fun W=>hasB_any kA no kc i b W hb)
 have h2:=hid (fun W=>hasE_any oA no oc i b W hb)
 have B0:=hid (below_alloc1 w (.cells (mkC on a1 a2 a3 a4 a5 a6 (.slice oA no oc) (.slice kA no kc)) 32))
 clear hb
 cases b
 iterate 2
  ·go_enter Tryz.func134,Tryz.ntmps134
   go_wp2_with (first
    | (go_at_call 143;go_must ((with_reducible refine (h1.out _).mono ?_);rintro e w1 ⟨rfl,rfl⟩))
    | (go_at_call 133;go_must ((with_reducible refine (h2.out _).mono ?_);rintro e w1 ⟨rfl,rfl⟩)))
   go_ret
   exact ⟨rfl,B0.out⟩
abbrev kB (cs:Array Value) (z:Array Value) (t:TypeId) (w:World):World:=(w.alloc (.cells cs 32)).alloc (.cells z t)
theorem kB_below (cs z:Array Value) (t:TypeId) (w:World):Below w.heap.size w (kB cs z t w):=bnext (below_alloc1 _ _) (below_alloc1 _ _)
theorem kB_box (cs z:Array Value) (t:TypeId) (w:World):Bk (kB cs z t w) w.heap.size 32 cs:=(Bk.new w _ _).alloc _
theorem kB_res (cs z:Array Value) (t:TypeId) (w:World):Bk (kB cs z t w) (w.heap.size + 1) t z:=by
 have:=Bk.new (w.alloc (.cells cs 32)) t z
 rwa [World.size_alloc] at this
end
end
section
open Go.RowKit
attribute [local go_sem] look findAt
attribute [local simp] depsOf depsE isV Region.binds
section
variable {ops:Array Oper} {rest:List Oper} {o:Oper} {a:Act} {w:World} {Q:Exit→Act→World→Prop}
end
def MkPost (on:Bool) (a1 a2 a3 a4 a5 a6:Int) (no:Nat) (M:Mrk) (w:World) (e:Ending) (w':World):Prop:=
 ∃ oA oc kA kc,e=.returned (.agg (mkC on a1 a2 a3 a4 a5 a6 (.slice oA no oc) (.slice kA no kc)))∧MkOwn w.heap.size w' M.old M.kept oA no oc kA no kc∧Below w.heap.size w w'
abbrev mkZ:Array Value:=mkC false 0 0 0 0 0 0 (.slice none 0 0) (.slice none 0 0)
structure BgE where
 oA:Option Addr
 oc:Nat
 kA:Option Addr
 kc:Nat
section
variable {w:World} {n:Nat} {on:Bool} {a1 a2 a3 a4 a5 a6:Int} {O K:Value} {d:Nat→Bool} {x:BgE} {X:World}
end
section
variable (on:Bool) (a1 a2 a3 a4 a5 a6:Int) (O K:Value)
end
end
end Go.Proofs.YtpaocjpjlogkgaaGreat
