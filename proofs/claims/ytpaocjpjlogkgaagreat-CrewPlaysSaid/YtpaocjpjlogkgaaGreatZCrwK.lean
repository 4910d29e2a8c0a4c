/-
  A mark keeps a block: shade.Keep and foremanref13.Keep by what a mark says. No conditions but those that stand there.
-/
import Derived.Test.YtpaocjpjlogkgaaGreatQShdC
import Derived.Test.YtpaocjpjlogkgaaGreatQWords
namespace Go.Proofs.YtpaocjpjlogkgaaGreat
open Go.RowKit
def MkSay (m:Mrk) (a1 a2 a3 a4 a5 a6:Int) (no:Nat) (oA0 kA0:Option Addr) (w:World) (e:Ending) (w':World):Prop:=
 ∃ oA oc kA kc,e=.returned (.agg (mkC m.on a1 a2 a3 a4 a5 a6 (.slice oA no oc) (.slice kA no kc)))∧MkIn w' m.old m.kept oA no oc kA no kc∧Below w.heap.size w w'∧∀ G,G < w.heap.size→offA G oA0 no→offA G kA0 no→offA G oA no∧offA G kA no
section
variable (a1 a2 a3 a4 a5 a6:Int) (oA:Option Addr) (no oc:Nat) (kA:Option Addr) (kc:Nat)
theorem keep_say (m:Mrk) (l:List Ent) (lA:Option Addr) (ln lc:Nat) (i:Int) (w:World) (hM:MkIn w m.old m.kept oA no oc kA no kc) (hL:Ents w lA lc l) (h8:Eight l) (hln:l.length=ln) (hno:no≤1000) :
  Calls Tryz.prog 114 #[.agg (mkC m.on a1 a2 a3 a4 a5 a6 (.slice oA no oc) (.slice kA no kc)),.slice lA ln lc,.int .i64 i] w (MkSay (keepS m l i) a1 a2 a3 a4 a5 a6 no oA kA w):=by
 obtain ⟨on,old,kept⟩:=m
 refine (keep_any on a1 a2 a3 a4 a5 a6 oA no oc kA kc old kept l lA ln lc i w hM hL h8 hln hno).mono fun e w' hp=>?_
 obtain ⟨oA',oc',kA',kc',he,hO,hb⟩:=hp
 exact ⟨oA',oc',kA',kc',by rw [he,keepS_on],hO.inn,hb,fun G hG _ _=>⟨(own_over hO.oo).off hG,(own_over hO.ok).off hG⟩⟩
theorem rkeep_say (m:Mrk) (l:List Ent) (lA:Option Addr) (ln lc:Nat) (i:Int) (w:World) (hM:MkIn w m.old m.kept oA no oc kA no kc) (hL:Ents w lA lc l) (h8:Eight l) (hln:l.length=ln) (hno:no≤1000) :
  Calls Tryz.prog 92 #[.agg (mkC m.on a1 a2 a3 a4 a5 a6 (.slice oA no oc) (.slice kA no kc)),.slice lA ln lc,.int .i64 i] w (MkSay (keepS m l i) a1 a2 a3 a4 a5 a6 no oA kA w):=by
 obtain ⟨on,old,kept⟩:=m
 by_cases hy:keepsS ⟨on,old,kept⟩ l i
 ·obtain rfl:on=true:=hy.1
  obtain ⟨j,rfl⟩:=Int.eq_ofNat_of_zero_le hy.2.1
  refine (rkeep_yes a1 a2 a3 a4 a5 a6 oA no oc kA kc old kept l lA ln lc j w hM hL h8 hln hno hy).mono fun e w' hp=>?_
  obtain ⟨oA',oc',kA',kc',he,hO,hb⟩:=hp
  exact ⟨oA',oc',kA',kc',by rw [he,keepS_on],hO.inn,hb,fun G hG _ _=>⟨(own_over hO.oo).off hG,(own_over hO.ok).off hG⟩⟩
 ·refine (rkeep_no on a1 a2 a3 a4 a5 a6 oA no oc kA kc old kept l lA ln lc i w hM hln hy).mono fun e w' hp=>?_
  obtain ⟨he,hb⟩:=hp
  have hk:keepS ⟨on,old,kept⟩ l i=⟨on,old,kept⟩:=by unfold keepS;rw [if_neg hy]
  rw [hk]
  exact ⟨oA,oc,kA,kc,he,hM.below hb,hb,fun _ _ h1 h2=>⟨h1,h2⟩⟩
end
end Go.Proofs.YtpaocjpjlogkgaaGreat
