/-
  A mark in a variable and blocks in a row of one's own, which don't meet: what stays while the mark keeps and the blocks turn. No conditions but those that stand there.
-/
import Derived.Test.YtgoamkneenmbgaaShdO
import Derived.Test.YtgoamkneenmbgaaChgM
import Derived.Test.YtgoamkneenmbgaaAppSl
namespace Go.Proofs.Ytgoamkneenmbgaa
open Go.RowKit

/-- what a call of Keep, or of Begin, leaves. -/
def keptV (B : Nat) (on : Bool) (a1 a2 a3 a4 a5 a6 : Int) (no : Nat) (M : Mrk) : Says := fun v w => ∃ oA oc kA kc, v = .agg (mkC on a1 a2 a3 a4 a5 a6 (.slice oA no oc) (.slice kA no kc)) ∧ MkOwn B w M.old M.kept oA no oc kA no kc
theorem keptV_keep {B : Nat} {on : Bool} {a1 a2 a3 a4 a5 a6 : Int} {no : Nat} {M : Mrk} (v : Value) (x y : World) (hb : Below x.heap.size x y) (h : keptV B on a1 a2 a3 a4 a5 a6 no M v x) : keptV B on a1 a2 a3 a4 a5 a6 no M v y := by
  obtain ⟨oA, oc, kA, kc, e, hM⟩ := h
  exact ⟨oA, oc, kA, kc, e, hM.below hb⟩
theorem keptV_call {f : FuncId} {args : Array Value} {w : World} {B : Nat} {on : Bool} {a1 a2 a3 a4 a5 a6 : Int} {no : Nat} {M : Mrk} (hB : B ≤ w.heap.size) (h : Calls Try.prog f args w (MkPost on a1 a2 a3 a4 a5 a6 no M w)) :
    Calls Try.prog f args w fun e w' => ∃ v, e = .returned v ∧ Below w.heap.size w w' ∧ keptV B on a1 a2 a3 a4 a5 a6 no M v w' :=
  h.mono fun _ _ ⟨oA, oc, kA, kc, he, hM, hb⟩ => ⟨_, he, hb, oA, oc, kA, kc, rfl, hM.lower hB⟩

structure ShS (w wr : World) (gm no : Nat) (xA : Option Addr) (xc : Nat) (on : Bool) (a1 a2 a3 a4 a5 a6 : Int) (old : List Ent) (kept : List Bool) (x : List Ent) (ln : Nat) (oA : Option Addr) (oc : Nat) (kA : Option Addr) (kc : Nat) : Prop where
  below : Below w.heap.size w wr
  var : Bk wr gm 25 (mkC on a1 a2 a3 a4 a5 a6 (.slice oA no oc) (.slice kA no kc))
  gm : w.heap.size ≤ gm
  own : MkOwn w.heap.size wr old kept oA no oc kA no kc
  row : wr.ownsRow w.heap.size 34 9 (.slice xA ln xc) ln (entsW x)
  off : ∀ g, (Value.slice xA ln xc).ownBlock = some g → (Value.slice oA no oc).ownBlock ≠ some g
  x8 : Eight x
  xl : x.length = ln

section
variable {w wr : World} {gm no : Nat} {xA : Option Addr} {xc : Nat} {on : Bool} {a1 a2 a3 a4 a5 a6 : Int} {old : List Ent} {kept : List Bool} {x : List Ent} {ln : Nat} {oA : Option Addr} {oc : Nat} {kA : Option Addr} {kc : Nat}
theorem ShS.ents (h : ShS w wr gm no xA xc on a1 a2 a3 a4 a5 a6 old kept x ln oA oc kA kc) : Ents wr xA xc x := by
  have := Sl.own' h.row
  unfold Ents
  rw [h.xl]
  exact this
theorem ShS.next (h : ShS w wr gm no xA xc on a1 a2 a3 a4 a5 a6 old kept x ln oA oc kA kc) {X : World} (hX : Below wr.heap.size wr X) : ShS w X gm no xA xc on a1 a2 a3 a4 a5 a6 old kept x ln oA oc kA kc :=
  ⟨bnext h.below hX, h.var.below hX, h.gm, h.own.below hX, own_below h.row hX, h.off, h.x8, h.xl⟩
/-- the mark is another one, with lists of its own. -/
theorem ShS.keep (h : ShS w wr gm no xA xc on a1 a2 a3 a4 a5 a6 old kept x ln oA oc kA kc) {X : World} (hX : Below wr.heap.size wr X) {old' : List Ent} {kept' : List Bool} {oA' : Option Addr} {oc' : Nat} {kA' : Option Addr} {kc' : Nat} (hM : MkOwn wr.heap.size X old' kept' oA' no oc' kA' no kc') :
    ShS w (X.setRow gm (mkC on a1 a2 a3 a4 a5 a6 (.slice oA' no oc') (.slice kA' no kc'))) gm no xA xc on a1 a2 a3 a4 a5 a6 old' kept' x ln oA' oc' kA' kc' := by
  have hv := h.var.below hX
  refine ⟨below_row (bnext h.below hX) h.gm _, hv.setRow _, h.gm, (hM.lower h.below.size).varRow hv (by decide) (by decide) _, own_varRow (own_below h.row hX) hv (by decide) _, fun g hg hq => ?_, h.x8, h.xl⟩
  have h1 := own_lt h.row hg
  have h2 := own_ge hM.oo hq
  omega
/-- the mark stays; another variable is stored into. -/
theorem ShS.other (h : ShS w wr gm no xA xc on a1 a2 a3 a4 a5 a6 old kept x ln oA oc kA kc) {g' : Nat} {cs : Array Value} (hv : Bk wr g' 25 cs) (hne : gm ≠ g') (hg : w.heap.size ≤ g') (cs' : Array Value) :
    ShS w (wr.setRow g' cs') gm no xA xc on a1 a2 a3 a4 a5 a6 old kept x ln oA oc kA kc :=
  ⟨below_row h.below hg _, h.var.farRow hne _, h.gm, h.own.varRow hv (by decide) (by decide) _, own_varRow h.row hv (by decide) _, h.off, h.x8, h.xl⟩
/-- a block turns. -/
theorem ShS.turn {gx : Nat} (h : ShS w wr gm no (some ⟨gx, 0, none⟩) xc on a1 a2 a3 a4 a5 a6 old kept x ln oA oc kA kc) {j : Nat} (hj : j < ln) {e : Ent} (he : e.cells.length = 8) :
    ShS w (wr.setCells gx (j * 9) (bkC (entI e)).toList) gm no (some ⟨gx, 0, none⟩) xc on a1 a2 a3 a4 a5 a6 old kept (x.set j e) ln oA oc kA kc := by
  have hB : w.heap.size ≤ gx := own_ge h.row rfl
  have hne : gm ≠ gx := own_var_ne h.row h.var (by decide)
  have hk : ∀ k, k ≠ gx → (wr.setCells gx (j * 9) (bkC (entI e)).toList).heap[k]? = wr.heap[k]? := fun k hk => heap_setCells _ _ _ k hk
  have o1 := own_setCells (bkC (entI e)).toList (j * 9) h.row
  rw [bkC_list, entsW_set h.x8 (by rw [h.xl]; exact hj) he] at o1
  rw [← bkC_list] at o1
  refine ⟨below_setCells h.below hB _ _, h.var.setCells hne _ _, h.gm, ⟨h.own.lo, h.own.lk, h.own.e8, own_keep h.own.oo fun k _ q => hk k (fun q' => h.off gx rfl (by rw [← q']; exact q)), own_keep h.own.ok fun k _ q => hk k (fun q' => ?_)⟩, o1, h.off, h.x8.set j he, by rw [List.length_set, h.xl]⟩
  exact own_apart h.row h.own.ok (by decide) gx rfl (by rw [← q']; exact q)
theorem turnS_in {x : List Ent} {j : Nat} (hj : j < x.length) (e : Ent) : turnS x (j : Int) e = x.set j e := by
  unfold turnS
  rw [if_pos ⟨by omega, by omega⟩, Int.toNat_natCast]
theorem turnS_out {x : List Ent} {i : Int} (h : ¬ (0 ≤ i ∧ i < (x.length : Int))) (e : Ent) : turnS x i e = x := by
  unfold turnS
  rw [if_neg h]
end

end Go.Proofs.Ytgoamkneenmbgaa
