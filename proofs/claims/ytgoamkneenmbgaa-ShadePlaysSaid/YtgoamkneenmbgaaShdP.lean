/-
  What ShadePlays' walk leans on: the two Keeps side by side, marks made in any order. No conditions but those that stand there.
-/
import Derived.Test.YtgoamkneenmbgaaShdD
import Derived.Test.YtgoamkneenmbgaaShdE
import Derived.Test.YtgoamkneenmbgaaShdS
import Derived.Test.YtgoamkneenmbgaaSaysB
namespace Go.Proofs.Ytgoamkneenmbgaa
open Go.RowKit

/-- foremanref13.Keep: lists of its own, or the very mark. -/
theorem rkeep_any (on : Bool) (a1 a2 a3 a4 a5 a6 : Int) (oA : Option Addr) (no oc : Nat) (kA : Option Addr) (kc : Nat) (old : List Ent) (kept : List Bool) (l : List Ent) (lA : Option Addr) (ln lc : Nat) (i : Int) (w : World) (hM : MkIn w old kept oA no oc kA no kc) (hL : Ents w lA lc l) (h8 : Eight l) (hln : l.length = ln) (hno : no ≤ 1000) :
    Calls Try.prog 11 #[.agg (mkC on a1 a2 a3 a4 a5 a6 (.slice oA no oc) (.slice kA no kc)), .slice lA ln lc, .int .i64 i] w fun e w' => ∃ oA' oc' kA' kc', e = .returned (.agg (mkC on a1 a2 a3 a4 a5 a6 (.slice oA' no oc') (.slice kA' no kc'))) ∧ Below w.heap.size w w' ∧
      (MkOwn w.heap.size w' (keepS ⟨on, old, kept⟩ l i).old (keepS ⟨on, old, kept⟩ l i).kept oA' no oc' kA' no kc' ∨ (oA' = oA ∧ oc' = oc ∧ kA' = kA ∧ kc' = kc ∧ keepS ⟨on, old, kept⟩ l i = ⟨on, old, kept⟩)) := by
  by_cases hy : keepsS ⟨on, old, kept⟩ l i
  · obtain ⟨j, rfl⟩ : ∃ j : Nat, i = (j : Int) := ⟨i.toNat, by have := hy.2.1; omega⟩
    obtain rfl : on = true := hy.1
    refine (rkeep_yes a1 a2 a3 a4 a5 a6 oA no oc kA kc old kept l lA ln lc j w hM hL h8 hln hno hy).mono ?_
    rintro e w' ⟨oA', oc', kA', kc', he, hO, hb⟩
    exact ⟨oA', oc', kA', kc', he, hb, .inl hO⟩
  · refine (rkeep_no on a1 a2 a3 a4 a5 a6 oA no oc kA kc old kept l lA ln lc i w hM hln hy).mono ?_
    rintro e w' ⟨he, hb⟩
    exact ⟨oA, oc, kA, kc, he, hb, .inr ⟨rfl, rfl, rfl, rfl, by rw [keepS, if_neg hy]⟩⟩

/-- a mark that foremanref13.Keep hands back: lists of its own, or those that it was given. -/
def mayV (B : Nat) (on : Bool) (a1 a2 a3 a4 a5 a6 : Int) (no : Nat) (M : Mrk) (old : List Ent) (kept : List Bool) (oA : Option Addr) (oc : Nat) (kA : Option Addr) (kc : Nat) : Says := fun v w =>
  ∃ oA' oc' kA' kc', v = .agg (mkC on a1 a2 a3 a4 a5 a6 (.slice oA' no oc') (.slice kA' no kc')) ∧ (MkOwn B w M.old M.kept oA' no oc' kA' no kc' ∨ (oA' = oA ∧ oc' = oc ∧ kA' = kA ∧ kc' = kc ∧ M = ⟨on, old, kept⟩))
theorem mayV_keep {B : Nat} {on : Bool} {a1 a2 a3 a4 a5 a6 : Int} {no : Nat} {M : Mrk} {old : List Ent} {kept : List Bool} {oA : Option Addr} {oc : Nat} {kA : Option Addr} {kc : Nat} (v : Value) (x y : World) (hb : Below x.heap.size x y) (h : mayV B on a1 a2 a3 a4 a5 a6 no M old kept oA oc kA kc v x) : mayV B on a1 a2 a3 a4 a5 a6 no M old kept oA oc kA kc v y := by
  obtain ⟨oA', oc', kA', kc', e, hM⟩ := h
  exact ⟨oA', oc', kA', kc', e, hM.imp (fun q => q.below hb) id⟩
theorem mayV_call {B : Nat} {w : World} (hB : B ≤ w.heap.size) {f : FuncId} {args : Array Value} {on : Bool} {a1 a2 a3 a4 a5 a6 : Int} {no : Nat} {M : Mrk} {old : List Ent} {kept : List Bool} {oA : Option Addr} {oc : Nat} {kA : Option Addr} {kc : Nat}
    (h : Calls Try.prog f args w fun e w' => ∃ oA' oc' kA' kc', e = .returned (.agg (mkC on a1 a2 a3 a4 a5 a6 (.slice oA' no oc') (.slice kA' no kc'))) ∧ Below w.heap.size w w' ∧
      (MkOwn w.heap.size w' M.old M.kept oA' no oc' kA' no kc' ∨ (oA' = oA ∧ oc' = oc ∧ kA' = kA ∧ kc' = kc ∧ M = ⟨on, old, kept⟩))) :
    Calls Try.prog f args w fun e w' => ∃ v, e = .returned v ∧ Below w.heap.size w w' ∧ mayV B on a1 a2 a3 a4 a5 a6 no M old kept oA oc kA kc v w' :=
  h.mono fun _ _ ⟨oA', oc', kA', kc', he, hb, hM⟩ => ⟨_, he, hb, oA', oc', kA', kc', rfl, hM.imp (fun q => q.lower hB) id⟩

/-- a new variable: a mark. -/
def freshK (B : Nat) : Says := fun v w => ∃ g, v = .pointer (some ⟨g, 0, none⟩) ∧ B ≤ g ∧ Bk w g 25 mkZ
theorem freshK_keep {B : Nat} (v : Value) (x y : World) (hb : Below x.heap.size x y) (h : freshK B v x) : freshK B v y := by
  obtain ⟨g, rfl, hg, hk⟩ := h
  exact ⟨g, rfl, hg, hk.below hb⟩
theorem freshK_lies {B : Nat} (v : Value) (x : World) (h : freshK B v x) : liesOf v x := by
  obtain ⟨g, rfl, _, hk⟩ := h
  intro q hq
  have : g = q := by simpa [blkOf] using hq
  subst this
  exact hk.lt
theorem freshK_new {B : Nat} (X : World) (hB : B ≤ X.heap.size) : freshK B (.pointer (some ⟨X.heap.size, 0, none⟩)) (X.alloc (.cells mkZ 25)) ∧ newOf (.pointer (some ⟨X.heap.size, 0, none⟩)) X :=
  ⟨⟨_, rfl, hB, Bk.new _ _ _⟩, fun g hg => by
    have : X.heap.size = g := by simpa [blkOf] using hg
    omega⟩
theorem run_alloc_mark (ρ : Operand → Value) (w : World) (o : Oper) (ho : o.op = .alloc 25) : (execOp ρ o).run Try.prog w = .ok (.value (.pointer (some ⟨w.heap.size, 0, none⟩))) (w.alloc (.cells mkZ 25)) := by
  unfold execOp
  simp only [ho]
  go_simp
/-- a call that leaves this, and no variable. -/
theorem walkB_mk {P : Program} {md : Region.Mode} {R : World → World → Prop} {F : Nat → Bool} {W : World} {a : Act} {heads : List Oper} {fin : List Says → Prop} {o : Oper} {rest : List Oper} {φs : List Says} (φ : Says) (f : FuncId) (args : Array Value) (hF : F φs.length = false) (hst : ∀ v w w', R w w' → φ v w → φ v w')
    (hy : ∀ u w, R W w → depsOf md φs u w o.after.toList → (execOp (look a heads u) o).run P w = .ok (.enter f args) w)
    (hc : ∀ w, R W w → Calls P f args w fun e w' => ∃ v, e = .returned v ∧ R w w' ∧ φ v w') (h : walkB P md R F W a heads fin rest (φs ++ [φ])) : walkB P md R F W a heads fin (o :: rest) φs :=
  ⟨φ, hst, (fun h => by rw [hF] at h; cases h), fun u w hw hd => by unfold yieldsTo; rw [hy u w hw hd]; exact (hc w hw).mono fun e w' ⟨v, he, h1, h2⟩ => ⟨v, he, h1, h2, fun h => by rw [hF] at h; cases h⟩, h⟩

section
variable {w wr : World} {gm no : Nat} {xA : Option Addr} {xc : Nat} {on : Bool} {a1 a2 a3 a4 a5 a6 : Int} {old : List Ent} {kept : List Bool} {x : List Ent} {ln : Nat} {oA : Option Addr} {oc : Nat} {kA : Option Addr} {kc : Nat}
/-- the mark is another one, which doesn't meet the blocks. -/
theorem ShS.keep2 (h : ShS w wr gm no xA xc on a1 a2 a3 a4 a5 a6 old kept x ln oA oc kA kc) {old' : List Ent} {kept' : List Bool} {oA' : Option Addr} {oc' : Nat} {kA' : Option Addr} {kc' : Nat} (hM : MkOwn w.heap.size wr old' kept' oA' no oc' kA' no kc')
    (ho : ∀ g, (Value.slice xA ln xc).ownBlock = some g → (Value.slice oA' no oc').ownBlock ≠ some g) :
    ShS w (wr.setRow gm (mkC on a1 a2 a3 a4 a5 a6 (.slice oA' no oc') (.slice kA' no kc'))) gm no xA xc on a1 a2 a3 a4 a5 a6 old' kept' x ln oA' oc' kA' kc' :=
  ⟨below_row h.below h.gm _, h.var.setRow _, h.gm, hM.varRow h.var (by decide) (by decide) _, own_varRow h.row h.var (by decide) _, ho, h.x8, h.xl⟩
/-- what foremanref13.Keep made of it. -/
theorem ShS.may (h : ShS w wr gm no xA xc on a1 a2 a3 a4 a5 a6 old kept x ln oA oc kA kc) {X : World} (hX : Below wr.heap.size wr X) {M : Mrk} {oA' : Option Addr} {oc' : Nat} {kA' : Option Addr} {kc' : Nat}
    (hM : MkOwn wr.heap.size X M.old M.kept oA' no oc' kA' no kc' ∨ (oA' = oA ∧ oc' = oc ∧ kA' = kA ∧ kc' = kc ∧ M = ⟨on, old, kept⟩)) :
    MkOwn w.heap.size X M.old M.kept oA' no oc' kA' no kc' ∧ ∀ g, (Value.slice xA ln xc).ownBlock = some g → (Value.slice oA' no oc').ownBlock ≠ some g := by
  rcases hM with hM | ⟨rfl, rfl, rfl, rfl, rfl⟩
  · refine ⟨hM.lower h.below.size, fun g hg hq => ?_⟩
    have h1 := own_lt h.row hg
    have h2 := own_ge hM.oo hq
    omega
  · exact ⟨h.own.below hX, h.off⟩
end

end Go.Proofs.Ytgoamkneenmbgaa
