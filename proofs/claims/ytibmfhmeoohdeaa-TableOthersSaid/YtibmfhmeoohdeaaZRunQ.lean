/-
  Many steps of a command that may be: their fuel, that they fit; a command with another fuel; one step more. No conditions but those that stand there.
-/
import Derived.Test.YtibmfhmeoohdeaaQStr
import Derived.Test.YtibmfhmeoohdeaaZCmdM
namespace Go.Proofs.Ytibmfhmeoohdeaa
open Go.RowKit

theorem steps_fuel_le {c : Cmd} (r : Mac × Blks) : ∀ n, (stepsM c n r).1.fuel ≤ r.1.fuel
  | 0 => Int.le_refl _
  | n + 1 => by
    rw [steps_succ]
    exact Int.le_trans step_fuel_le (steps_fuel_le r n)

theorem MayBe.fuel {c : Cmd} (h : MayBe c) {F : Int} (h1 : 1 ≤ F) (h2 : F ≤ 200) : MayBe { c with fuel := F } := by
  obtain ⟨⟨f1, f2, f3, f4, -, -⟩, h3, h4, h5, h6⟩ := h
  exact ⟨⟨f1, f2, f3, f4, h1, h2⟩, h3, h4, h5, h6⟩

/-- all steps of a new machine fit. -/
theorem steps_fit {c : Cmd} {d : List Int} {own : Blks} (hc : MayBe c) (hd : depthsN c.code = .ok d) (hn : own.length = c.reads.length + c.writes.length) (h8 : ∀ b ∈ own, b.length = 8) (k : Nat) :
    Fit c (stepsM c k (newM c, own)).1 (stepsM c k (newM c, own)).2 := by
  have hm := steps_ok hc hd (r := (newM c, own)) (new_ok hc hd hn h8) k
  have hf := steps_fuel_le (c := c) (newM c, own) k
  obtain ⟨-, -, -, -, -, f6⟩ := hc.few
  refine fit_of hc hd hm (Int.le_trans hf ?_)
  show c.fuel ≤ 1000
  omega

theorem CmRaw.below {w w' : World} {c : Cmd} {ra : Option Addr} {nr rc : Nat} {wa : Option Addr} {nw wc : Nat} {aa : Option Addr} {na ac : Nat} {ca : Option Addr} {nc cc : Nat} (h : CmRaw w c ra nr rc wa nw wc aa na ac ca nc cc) (hb : Below w.heap.size w w') : CmRaw w' c ra nr rc wa nw wc aa na ac ca nc cc :=
  ⟨h.lr, h.lw, h.la, h.lc, h.reads.below hb, h.writes.below hb, h.args.below hb, h.code.below hb⟩

theorem CmRaw.maybe {w : World} {c : Cmd} {ra : Option Addr} {nr rc : Nat} {wa : Option Addr} {nw wc : Nat} {aa : Option Addr} {na ac : Nat} {ca : Option Addr} {nc cc : Nat} (h : CmRaw w c ra nr rc wa nw wc aa na ac ca nc cc) (hm : MayBe c) : CmIn w c ra nr rc wa nw wc aa na ac ca nc cc := by
  obtain ⟨f1, f2, f3, f4, -, -⟩ := hm.few
  have l1 := h.lr
  have l2 := h.lw
  have l3 := h.la
  have l4 := h.lc
  exact ⟨l1, l2, l3, l4, h.reads, h.writes, h.args, h.code, by omega, by omega, by omega, by omega⟩

theorem CmIn.fuel {w : World} {c : Cmd} {ra : Option Addr} {nr rc : Nat} {wa : Option Addr} {nw wc : Nat} {aa : Option Addr} {na ac : Nat} {ca : Option Addr} {nc cc : Nat} (h : CmIn w c ra nr rc wa nw wc aa na ac ca nc cc) (F : Int) : CmIn w { c with fuel := F } ra nr rc wa nw wc aa na ac ca nc cc :=
  ⟨h.lr, h.lw, h.la, h.lc, h.reads, h.writes, h.args, h.code, h.br, h.bw, h.ba, h.bc⟩

end Go.Proofs.Ytibmfhmeoohdeaa
