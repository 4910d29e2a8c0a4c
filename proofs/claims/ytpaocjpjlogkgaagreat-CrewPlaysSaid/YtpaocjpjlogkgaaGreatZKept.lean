/-
  A statement whose order is open, whose operations only read, and whose callees may make memory but turn nothing that lies there and answer what does not hang on it: one walk in the order of the text serves every order. No conditions.
-/
import Derived.Test.YtpaocjpjlogkgaaGreatQWords
import Derived.Deep.QuietTactic
import Derived.BigQuiet
namespace Go.Proofs.YtpaocjpjlogkgaaGreat
open Go.RowKit
def KW (W:World):Type:={ w:World // Below W.heap.size W w }
theorem wp_region_kept {P:Program} (W:World) {id:Nat} {Q:Exit→Act→World→Prop} {a:Act} {w:World} {l:List Oper} (hw:Below W.heap.size W w) (hm:P.follows .mixedOrders=true) (hB:Region.lexB .any l.toArray=true)
  (h:wpQuiet P l.toArray (fun w'=>∃ x:KW W,w'=x.1) (fun a'=>∀ w',(∃ x:KW W,w'=x.1)→Q .normal a' w') l a):(Code.region id l.toArray true).wp P Q a w:=
 wp_region_quiet (C:=fun w'=>∃ x:KW W,w'=x.1) hm hB ⟨⟨w.drew,hw.drew⟩,rfl⟩ (by simpa using h)
theorem kept_of {P:Program} {W:World} (x:KW W) {f:FuncId} {args:Array Value} {v:Value} (h:Calls P f args x.1 fun e w'=>e=.returned v∧Below x.1.heap.size x.1 w') :
  Calls P f args x.1 fun e w''=>e=.returned v∧∃ y:KW W,w''=y.1:=
 h.mono fun _ w' ⟨he,hb⟩=>⟨he,⟨w',bnext x.2 hb⟩,rfl⟩
theorem KW.cell {W:World} {b o:Nat} {v:Value} (h:W.cell? ⟨b,o,none⟩=some v) (hb:b < W.heap.size):∀ x:KW W,x.1.cell? ⟨b,o,none⟩=some v:=
 fun x=>(x.2.cell (p:=⟨b,o,none⟩) hb).trans h
end Go.Proofs.YtpaocjpjlogkgaaGreat
