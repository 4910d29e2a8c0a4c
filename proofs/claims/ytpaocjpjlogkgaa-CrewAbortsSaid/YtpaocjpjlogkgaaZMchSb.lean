/-
  What the reference's SameBlocks answers of the same blocks: true, in whatever memory; blocks, machines and ints loaded. No conditions but those that stand there.
-/
import Derived.Test.YtpaocjpjlogkgaaQWords
import Derived.Test.YtpaocjpjlogkgaaQCelK
namespace Go.Proofs.Ytpaocjpjlogkgaa
open Go.RowKit
set_option maxRecDepth 100000

/-- a block of a slice is loaded as it lies there. -/
theorem Blocks.load {w : World} {A : Option Addr} {c : Nat} {own : Blks} (h : Blocks w A c own) (h8 : ∀ b ∈ own, b.length = 8) {i : Nat} (hi : i < own.length) :
    ∃ g off, A = some ⟨g, off, none⟩ ∧ ∀ w', Below w.heap.size w w' → (loadVar 49 ⟨g, off + i * 8, none⟩).run Try.prog w' = .ok (.agg (bkC (own[i]?.getD []))) w' := by
  obtain ⟨g, off, rfl, hg, hr⟩ := h.range h8 hi
  have hl : (own[i]?.getD []).length = 8 := by
    rw [List.getElem?_eq_getElem hi]
    exact h8 _ (List.getElem_mem _)
  exact ⟨g, off, rfl, fun w' hb => run_loadVar_mid w' g (off + i * 8) 49 _ _ (fun j v hv => (hb.cell (p := ⟨g, off + i * 8 + j, none⟩) hg).trans (hr j v hv)) Try.underlying49 rfl (by rw [List.length_map, hl]; exact infoBlk8)⟩

end Go.Proofs.Ytpaocjpjlogkgaa
