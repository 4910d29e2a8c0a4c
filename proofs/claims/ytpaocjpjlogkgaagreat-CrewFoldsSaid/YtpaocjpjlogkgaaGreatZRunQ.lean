/-
  Many steps of a command that may be: their fuel, that they fit; a command with another fuel; one step more. No conditions but those that stand there.
-/
import Derived.Test.YtpaocjpjlogkgaaGreatQQueP
import Derived.Test.YtpaocjpjlogkgaaGreatQWords
namespace Go.Proofs.YtpaocjpjlogkgaaGreat
open Go.RowKit
theorem steps_fuel_le {c:Cmd} (r:Mac × Blks):∀ n,(stepsM c n r).1.fuel≤r.1.fuel
 | 0=>Int.le_refl _
 | n + 1=>by
  rw [steps_succ]
  exact Int.le_trans step_fuel_le (steps_fuel_le r n)
theorem steps_fit {c:Cmd} {d:List Int} {own:Blks} (hc:MayBe c) (hd:depthsN c.code=.ok d) (hn:own.length=c.reads.length + c.writes.length) (h8:∀ b∈own,b.length=8) (k:Nat) :
  Fit c (stepsM c k (newM c,own)).1 (stepsM c k (newM c,own)).2:=by
 have hm:=steps_ok hc hd (r:=(newM c,own)) (new_ok hc hd hn h8) k
 have hf:=steps_fuel_le (c:=c) (newM c,own) k
 obtain ⟨-,-,-,-,-,f6⟩:=hc.few
 refine fit_of hc hd hm (Int.le_trans hf ?_)
 show c.fuel≤1000
 omega
end Go.Proofs.YtpaocjpjlogkgaaGreat
