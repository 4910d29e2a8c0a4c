/-
  Many steps of a command that may be: their fuel, that they fit; a command with another fuel; one step more. No conditions but those that stand there.
-/
import Derived.Test.YtpaocjpjlogkgaaGreatQQueP
import Derived.Test.YtpaocjpjlogkgaaGreatQWords
namespace Go.Proofs.YtpaocjpjlogkgaaGreat
open Go.RowKit

theorem MayBe.fuel {c : Cmd} (h : MayBe c) {F : Int} (h1 : 1 ≤ F) (h2 : F ≤ 200) : MayBe { c with fuel := F } := by
  obtain ⟨⟨f1, f2, f3, f4, -, -⟩, h3, h4, h5, h6⟩ := h
  exact ⟨⟨f1, f2, f3, f4, h1, h2⟩, h3, h4, h5, h6⟩

theorem CmRaw.below {w w' : World} {c : Cmd} {ra : Option Addr} {nr rc : Nat} {wa : Option Addr} {nw wc : Nat} {aa : Option Addr} {na ac : Nat} {ca : Option Addr} {nc cc : Nat} (h : CmRaw w c ra nr rc wa nw wc aa na ac ca nc cc) (hb : Below w.heap.size w w') : CmRaw w' c ra nr rc wa nw wc aa na ac ca nc cc :=
  ⟨h.lr, h.lw, h.la, h.lc, h.reads.below hb, h.writes.below hb, h.args.below hb, h.code.below hb⟩

theorem CmIn.fuel {w : World} {c : Cmd} {ra : Option Addr} {nr rc : Nat} {wa : Option Addr} {nw wc : Nat} {aa : Option Addr} {na ac : Nat} {ca : Option Addr} {nc cc : Nat} (h : CmIn w c ra nr rc wa nw wc aa na ac ca nc cc) (F : Int) : CmIn w { c with fuel := F } ra nr rc wa nw wc aa na ac ca nc cc :=
  ⟨h.lr, h.lw, h.la, h.lc, h.reads, h.writes, h.args, h.code, h.br, h.bw, h.ba, h.bc⟩

end Go.Proofs.YtpaocjpjlogkgaaGreat
