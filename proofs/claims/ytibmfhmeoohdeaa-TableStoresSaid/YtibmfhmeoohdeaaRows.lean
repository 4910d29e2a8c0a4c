/-
  No cell of these rows narrows 'for every input' (looked for: loops, veiled, ifaces, maps, wideKeys, modest, calm, conditions, laid).
  DERIVED. THE GIVEN ROWS OF THIS SEAT. 4 by the template 'for every input the law returns true; each argument reads behind the call as it read before'; 0 by the template 'total and deterministic' (their statements: YtibmfhmeoohdeaaTotals.lean).
  GIVEN WITH THE SEED: the statements are not yours to turn. If you find one false, say at which input.
  Laid BY PROGRAM, IN A SANDBOX (cutbox-rows.mjs): the forced cells as the released guide's own fill.sh prints them over the translation 1082027c3df2a206… (all of the seat's roots in one cut). By AI agents, Wed Nov 11 2026. No macro, syntax, notation, axiom, sorry.
-/
import Derived.Test.YtibmfhmeoohdeaaChecked
import GoSem.Claim
import GoSem.ClaimJoined
import GoSem.ClaimMapViews
import Derived.JoinedTies
import Derived.KernelRfl
namespace Go.Proofs.Ytibmfhmeoohdeaa
/- THE CELL 'sum', in the pinned program and in every row, IS THE sha256 OF THE DUMP (.gsa) THAT YtibmfhmeoohdeaaProg.lean LOADS. Nothing in Lean hashes anything: it is a label: what it is worth is what the hold of that sum in a sandbox is worth. -/
noncomputable def Try.pinned : Pinned := { name := "ytibmfhmeoohdeaa", sum := "1082027c3df2a2068d8b72ce9b9d824286f2931c2cfdcf5bcf471c06e804f083", checked := Try.checked }
namespace Rows
def none {H : Type} : Left H := { results := [], args := [] }

/-- 'foremanlaw12.TableApplies': WHATEVER THE INPUT: true; the input reads as it did. -/
def tableAppliesSpec : ChangeSpec := { name := "tableApplies", fn := fun _ => fun
  | [d1, d2, d3] => { results := [.lit (.bool true)], args := [d1, d2, d3] }
  | _ => none }
def tableAppliesRow : OpenClaim := { program := "ytibmfhmeoohdeaa", sum := "1082027c3df2a2068d8b72ce9b9d824286f2931c2cfdcf5bcf471c06e804f083", func := "foreman/foremanlaw12.TableApplies", spec := "tableApplies", apart := false }
def TableAppliesSaid : Prop := tableAppliesRow.holds Try.pinned (OpenSpec.ofChange tableAppliesSpec)

/-- ITS FALSE NEIGHBOUR: 'it returns false'. Refute it at one input. -/
def tableAppliesWrong : ChangeSpec := { name := "tableApplies", fn := fun _ => fun
  | [d1, d2, d3] => { results := [.lit (.bool false)], args := [d1, d2, d3] }
  | _ => none }
def TableAppliesWrongFalsely : Prop := tableAppliesRow.holds Try.pinned (OpenSpec.ofChange tableAppliesWrong)

/-- 'foremanlaw12.TableTouches': WHATEVER THE INPUT: true; the input reads as it did. -/
def tableTouchesSpec : ChangeSpec := { name := "tableTouches", fn := fun _ => fun
  | [d1, d2, d3] => { results := [.lit (.bool true)], args := [d1, d2, d3] }
  | _ => none }
def tableTouchesRow : OpenClaim := { program := "ytibmfhmeoohdeaa", sum := "1082027c3df2a2068d8b72ce9b9d824286f2931c2cfdcf5bcf471c06e804f083", func := "foreman/foremanlaw12.TableTouches", spec := "tableTouches", apart := false }
def TableTouchesSaid : Prop := tableTouchesRow.holds Try.pinned (OpenSpec.ofChange tableTouchesSpec)

/-- ITS FALSE NEIGHBOUR: 'it returns false'. Refute it at one input. -/
def tableTouchesWrong : ChangeSpec := { name := "tableTouches", fn := fun _ => fun
  | [d1, d2, d3] => { results := [.lit (.bool false)], args := [d1, d2, d3] }
  | _ => none }
def TableTouchesWrongFalsely : Prop := tableTouchesRow.holds Try.pinned (OpenSpec.ofChange tableTouchesWrong)

/-- 'foremanlaw12.TableOthers': WHATEVER THE INPUT: true; the input reads as it did. -/
def tableOthersSpec : ChangeSpec := { name := "tableOthers", fn := fun _ => fun
  | [d1, d2, d3] => { results := [.lit (.bool true)], args := [d1, d2, d3] }
  | _ => none }
def tableOthersRow : OpenClaim := { program := "ytibmfhmeoohdeaa", sum := "1082027c3df2a2068d8b72ce9b9d824286f2931c2cfdcf5bcf471c06e804f083", func := "foreman/foremanlaw12.TableOthers", spec := "tableOthers", apart := false }
def TableOthersSaid : Prop := tableOthersRow.holds Try.pinned (OpenSpec.ofChange tableOthersSpec)

/-- ITS FALSE NEIGHBOUR: 'it returns false'. Refute it at one input. -/
def tableOthersWrong : ChangeSpec := { name := "tableOthers", fn := fun _ => fun
  | [d1, d2, d3] => { results := [.lit (.bool false)], args := [d1, d2, d3] }
  | _ => none }
def TableOthersWrongFalsely : Prop := tableOthersRow.holds Try.pinned (OpenSpec.ofChange tableOthersWrong)

/-- 'foremanlaw12.TableStores': WHATEVER THE INPUT: true; the input reads as it did. -/
def tableStoresSpec : ChangeSpec := { name := "tableStores", fn := fun _ => fun
  | [d1, d2, d3] => { results := [.lit (.bool true)], args := [d1, d2, d3] }
  | _ => none }
def tableStoresRow : OpenClaim := { program := "ytibmfhmeoohdeaa", sum := "1082027c3df2a2068d8b72ce9b9d824286f2931c2cfdcf5bcf471c06e804f083", func := "foreman/foremanlaw12.TableStores", spec := "tableStores", apart := false }
def TableStoresSaid : Prop := tableStoresRow.holds Try.pinned (OpenSpec.ofChange tableStoresSpec)

/-- ITS FALSE NEIGHBOUR: 'it returns false'. Refute it at one input. -/
def tableStoresWrong : ChangeSpec := { name := "tableStores", fn := fun _ => fun
  | [d1, d2, d3] => { results := [.lit (.bool false)], args := [d1, d2, d3] }
  | _ => none }
def TableStoresWrongFalsely : Prop := tableStoresRow.holds Try.pinned (OpenSpec.ofChange tableStoresWrong)

/- THE SECOND FORM. 'bulk': how many values and letters a reading holds, each counted each time it is reached (what is shared counts as often as it is met; a slice's spare places count too). A statement '..UptoSaid' is the law's where the arguments, and the package variables that the reading takes, are together of bulk at most 1048576: NARROWER than '..Said'. Prove '..Said' where nothing that the law and all that it calls make is longer than what came in: it says more and counts as full. Else prove '..UptoSaid'. A law counts once. -/
mutual
def uptoBulk {H : Type} : DataW H → Nat
  | .lit (.string bytes) => bytes.length + 1
  | .lit _ => 1
  | .nil => 1
  | .ptr d => uptoBulk d + 1
  | .slice elems spare => uptoBulkAll elems + uptoBulkAll spare + 1
  | .agg parts => uptoBulkAll parts + 1
  | .iface _ d => uptoBulk d + 1
  | .map entries => uptoBulkEntries entries + 1
  | .held _ => 1
def uptoBulkAll {H : Type} : List (DataW H) → Nat
  | [] => 0
  | d :: r => uptoBulk d + uptoBulkAll r
def uptoBulkEntries {H : Type} : List (Lit × DataW H) → Nat
  | [] => 0
  | x :: r => uptoBulkEntry x + uptoBulkEntries r
def uptoBulkEntry {H : Type} : Lit × DataW H → Nat
  | (.string bytes, d) => bytes.length + uptoBulk d + 1
  | (_, d) => uptoBulk d + 1
 end
def uptoSmall : (H : Type) → List (DataW H) → Bool := fun _ ds => decide (uptoBulkAll ds ≤ 1048576)
def OpenSpec.upto (s : _root_.Go.ChangeSpec) : _root_.Go.OpenSpec := { _root_.Go.OpenSpec.ofChange s with cond := some uptoSmall }

/-- 'foremanlaw12.TableApplies', WHERE WHAT IT READS IS OF BULK AT MOST 1048576: true; the input reads as it did. -/
def tableAppliesUptoRow : OpenClaim := { program := "ytibmfhmeoohdeaa", sum := "1082027c3df2a2068d8b72ce9b9d824286f2931c2cfdcf5bcf471c06e804f083", func := "foreman/foremanlaw12.TableApplies", spec := "tableApplies", apart := false, narrowed := true }
def TableAppliesUptoSaid : Prop := tableAppliesUptoRow.holds Try.pinned (OpenSpec.upto tableAppliesSpec)

/-- 'foremanlaw12.TableTouches', WHERE WHAT IT READS IS OF BULK AT MOST 1048576: true; the input reads as it did. -/
def tableTouchesUptoRow : OpenClaim := { program := "ytibmfhmeoohdeaa", sum := "1082027c3df2a2068d8b72ce9b9d824286f2931c2cfdcf5bcf471c06e804f083", func := "foreman/foremanlaw12.TableTouches", spec := "tableTouches", apart := false, narrowed := true }
def TableTouchesUptoSaid : Prop := tableTouchesUptoRow.holds Try.pinned (OpenSpec.upto tableTouchesSpec)

/-- 'foremanlaw12.TableOthers', WHERE WHAT IT READS IS OF BULK AT MOST 1048576: true; the input reads as it did. -/
def tableOthersUptoRow : OpenClaim := { program := "ytibmfhmeoohdeaa", sum := "1082027c3df2a2068d8b72ce9b9d824286f2931c2cfdcf5bcf471c06e804f083", func := "foreman/foremanlaw12.TableOthers", spec := "tableOthers", apart := false, narrowed := true }
def TableOthersUptoSaid : Prop := tableOthersUptoRow.holds Try.pinned (OpenSpec.upto tableOthersSpec)

/-- 'foremanlaw12.TableStores', WHERE WHAT IT READS IS OF BULK AT MOST 1048576: true; the input reads as it did. -/
def tableStoresUptoRow : OpenClaim := { program := "ytibmfhmeoohdeaa", sum := "1082027c3df2a2068d8b72ce9b9d824286f2931c2cfdcf5bcf471c06e804f083", func := "foreman/foremanlaw12.TableStores", spec := "tableStores", apart := false, narrowed := true }
def TableStoresUptoSaid : Prop := tableStoresUptoRow.holds Try.pinned (OpenSpec.upto tableStoresSpec)

end Rows
end Go.Proofs.Ytibmfhmeoohdeaa
