/-
  Words and contracts of this claim, 2 texts laid into one, each under its own remark. No conditions but those that stand at each.
-/
import Derived.Test.YtpaocjpjlogkgaaGreatQWords
import Derived.OwnWalk
import Derived.Deep.DeepMust
import Derived.Deep.MidRow
import Derived.Lib.Agree
import Derived.Test.YtpaocjpjlogkgaaGreatQRely
namespace Go.Proofs.YtpaocjpjlogkgaaGreat
set_option maxRecDepth 100000
set_option maxHeartbeats 32000000
open Go
open Go.Lib (hid)
section
open Go.RowKit
theorem clone_inss (A:Option Addr) (n c:Nat) (xs:List Value) (w:World) (hA:Sl w 3 A n c xs) (hn:n≤1000) (h1:∀ u∈xs,u.oneCell'=true) :
  Calls Tryz.prog 120 #[.slice A n c] w
   fun e w'=>∃ A' c',e=.returned (.slice A' n c')∧w'.ownsRow w.heap.size 72 3 (.slice A' n c') n xs∧Below w.heap.size w w':=by
 obtain ⟨i0,hi,hz0,hz1,hz2⟩:=infoIns
 have HA:=hid hA
 have H1:=hid h1
 clear hA h1
 cases A with
 | none=>
  obtain ⟨rfl,rfl⟩:=HA.out.2.2.1 rfl
  have hq:=Lib.run_eql_slice_nil (P:=Tryz.prog) w 54 72 none 0 0 0 0 Tryz.underlying54
  go_enter Tryz.func120,Tryz.ntmps120
  go_wp2
  go_ret
  refine ⟨none,0,rfl,?_,Below.refl _ _⟩
  have:=HA.out.1
  exact ⟨this,.inl ⟨rfl,rfl⟩⟩
 | some a=>
  have hq:=Lib.run_eql_slice_nil (P:=Tryz.prog) w 54 72 (some a) n c 0 0 Tryz.underlying54
  go_enter Tryz.func120,Tryz.ntmps120
  go_wp2_with (at_builtin;go_must (refine wpList_append_own _ rfl (.tmp 5) (.tmp 6) _ rfl w.heap.size 72 i0 _ 3 24 Tryz.underlying54 hi hz0 hz1 hz2 rfl (by decide) _ 0 [] rfl (World.ownsRow_lit w #[] 0 (Nat.le_refl _) (by decide) rfl) a n c xs rfl HA.out.1 ((HA.out.alloc _).olds a rfl) H1.out (by unfold maxLen;omega) (by omega) (by simp) ?_;intro v' w1 hown hg hnil))
  obtain ⟨A',c',rfl,hsl⟩:=Sl.own hown
  simp only [Nat.zero_add,List.nil_append] at hown
  go_wp2
  go_ret
  exact ⟨A',c',by simp,hown,((Below.refl _ _).alloc (Nat.le_refl _) _).grown hg (by simp) (fun k hk=>by
   have hk':(Value.slice (some ⟨w.heap.size,0,none⟩) 0 0).ownBlock=some k:=hk
   simp [Value.ownBlock] at hk'
   omega)⟩
theorem clone_tks (A:Option Addr) (n c:Nat) (xs:List Value) (w:World) (hA:Sl w 18 A n c xs) (hn:n≤1000) (h1:∀ u∈xs,u.oneCell'=true) :
  Calls Tryz.prog 97 #[.slice A n c] w
   fun e w'=>∃ A' c',e=.returned (.slice A' n c')∧w'.ownsRow w.heap.size 67 18 (.slice A' n c') n xs∧Below w.heap.size w w':=by
 obtain ⟨i0,hi,hz0,hz1,hz2⟩:=infoTsk
 have HA:=hid hA
 have H1:=hid h1
 clear hA h1
 cases A with
 | none=>
  obtain ⟨rfl,rfl⟩:=HA.out.2.2.1 rfl
  have hq:=Lib.run_eql_slice_nil (P:=Tryz.prog) w 28 67 none 0 0 0 0 Tryz.underlying28
  go_enter Tryz.func97,Tryz.ntmps97
  go_wp2
  go_ret
  refine ⟨none,0,rfl,?_,Below.refl _ _⟩
  have:=HA.out.1
  exact ⟨this,.inl ⟨rfl,rfl⟩⟩
 | some a=>
  have hq:=Lib.run_eql_slice_nil (P:=Tryz.prog) w 28 67 (some a) n c 0 0 Tryz.underlying28
  go_enter Tryz.func97,Tryz.ntmps97
  go_wp2_with (at_builtin;go_must (refine wpList_append_own _ rfl (.tmp 5) (.tmp 6) _ rfl w.heap.size 67 i0 _ 18 256 Tryz.underlying28 hi hz0 hz1 hz2 rfl (by decide) _ 0 [] rfl (World.ownsRow_lit w #[] 0 (Nat.le_refl _) (by decide) rfl) a n c xs rfl HA.out.1 ((HA.out.alloc _).olds a rfl) H1.out (by unfold maxLen;omega) (by omega) (by simp) ?_;intro v' w1 hown hg hnil))
  obtain ⟨A',c',rfl,hsl⟩:=Sl.own hown
  simp only [Nat.zero_add,List.nil_append] at hown
  go_wp2
  go_ret
  exact ⟨A',c',by simp,hown,((Below.refl _ _).alloc (Nat.le_refl _) _).grown hg (by simp) (fun k hk=>by
   have hk':(Value.slice (some ⟨w.heap.size,0,none⟩) 0 0).ownBlock=some k:=hk
   simp [Value.ownBlock] at hk'
   omega)⟩
theorem clone_tsks (A:Option Addr) (n c:Nat) (l:List TkL) (w:World) (h:Tks w A c l) (hN:l.length=n) (hn:n≤1000) :
  Calls Tryz.prog 97 #[.slice A n c] w fun e w'=>∃ A' c',e=.returned (.slice A' n c')∧TkOwn w.heap.size w' A' n c' l∧Below w.heap.size w w':=by
 have hs:=h.1
 rw [hN] at hs
 exact (clone_tks A n c _ w hs hn (tksW_one l)).mono fun e w' ⟨A',c',he,ho,hb⟩=>⟨A',c',he,⟨hN,ho,fun t ht=>(h.2 t ht).below hb⟩,hb⟩
end
section
open Go Go.RowKit
def ownV (B:Nat) (e:TypeId) (size n:Nat) (xs:List Value):Says:=fun v w=>∃ A c,v=.slice A n c∧w.ownsRow B e size (.slice A n c) n xs
theorem ownV_keep {B:Nat} {e:TypeId} {size n:Nat} {xs:List Value} (v:Value) (x y:World) (hb:Below x.heap.size x y) (h:ownV B e size n xs v x):ownV B e size n xs v y:=by
 obtain ⟨A,c,rfl,ho⟩:=h
 exact ⟨A,c,rfl,own_below ho hb⟩
def KeptUp (B:Nat) (x y:World):Prop:=x.heap.size≤y.heap.size∧∀ k,B≤k→k < x.heap.size→y.heap[k]? = x.heap[k]?
theorem KeptUp.refl (B:Nat) (x:World):KeptUp B x x:=⟨Nat.le_refl _,fun _ _ _=>rfl⟩
theorem KeptUp.trans {B:Nat} {x y z:World} (h:KeptUp B x y) (k:KeptUp B y z):KeptUp B x z:=⟨Nat.le_trans h.1 k.1,fun j h1 h2=>(k.2 j h1 (Nat.lt_of_lt_of_le h2 h.1)).trans (h.2 j h1 h2)⟩
theorem KeptUp.of {B:Nat} {x y:World} (h:Below x.heap.size x y):KeptUp B x y:=⟨h.size,fun k _ h2=>h.block k h2⟩
theorem KeptUp.setCells {B:Nat} {x y:World} (h:KeptUp B x y) {g:Nat} (hg:g < B) (o:Nat) (vs:List Value):KeptUp B x (y.setCells g o vs):=⟨by rw [size_setCells];exact h.1,fun k h1 h2=>(heap_setCells vs o y k (by omega)).trans (h.2 k h1 h2)⟩
theorem KeptUp.setCell {B:Nat} {x y:World} (h:KeptUp B x y) {g:Nat} (hg:g < B) (o:Nat) (v:Value):KeptUp B x (y.setCell ⟨g,o,none⟩ v):=h.setCells hg o [v]
theorem KeptUp.setRow {B:Nat} {x y:World} (h:KeptUp B x y) {g:Nat} (hg:g < B) (cs:Array Value):KeptUp B x (y.setRow g cs):=⟨by simpa using h.1,fun k h1 h2=>(setRow_other y g k cs (by omega)).trans (h.2 k h1 h2)⟩
theorem own_up {B B':Nat} {x y:World} (h:KeptUp B x y) {e:TypeId} {size n:Nat} {v:Value} {xs:List Value} (ho:x.ownsRow B' e size v n xs) (hB:B≤B'):y.ownsRow B' e size v n xs:=
 own_keep ho fun g h1 h2=>h.2 g (Nat.le_trans hB (own_ge ho h2)) h1
end
end Go.Proofs.YtpaocjpjlogkgaaGreat
