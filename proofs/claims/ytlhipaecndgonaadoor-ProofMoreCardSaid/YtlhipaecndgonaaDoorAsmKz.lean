/-
  From the condition on the listed table of kinds (it reads as its initialiser lays it) to what the walks ask of memory. No conditions beside.
-/
import Derived.Test.YtlhipaecndgonaaDoorAsmKd
import Derived.Lib.LaidTab
import Derived.LaidMore
import Derived.ProofKit
import Derived.OpenShut
import Derived.ChangeSame
import Derived.Stop.Joined
namespace Go.Proofs.YtlhipaecndgonaaDoor
open Go.ChangeShapes Go.WideShapes Go.ChangeAt Go.RowKit

theorem gKinds : Tryd.prog.globalNamed "foreman/asm.kinds" = some 0 := by kernel_rfl
theorem tKinds : (Tryd.prog.globals[0]?).map (·.type) = some 67 := by kernel_rfl
theorem cKinds : Tryd.prog.cellsOf 67 = 36 := by kernel_rfl
theorem cKind : Tryd.prog.cellsOf 66 = 2 := by kernel_rfl
theorem cStr : Tryd.prog.cellsOf 9 = 1 := by kernel_rfl
theorem cInt : Tryd.prog.cellsOf 3 = 1 := by kernel_rfl
def kindD {H : Type} (i : Nat) : DataW H := .agg [.lit (.string (strL (namesN.getD i [])).data.toList), .lit (.int .i64 (takesN (i : Int) : Nat))]
theorem dKinds {H : Type} : (Rows.laid_foreman_asm_kinds : DataW H) = .agg ((List.range 18).map kindD) := rfl

theorem two_of {α : Type} : ∀ {l : List α}, l.length = 2 → ∃ a b, l = [a, b]
  | [a, b], _ => ⟨a, b, rfl⟩

theorem open_pairD {H : Type} {enc : TypeId × Value → H} {w : World} {base : Nat} {spare : Nat → Bool} {held : Bool} {fuel : Nat} {cs : List Value} {S : ByteArray} {z : Int} {p : List MemPlace} (h : DataW.trod enc Tryd.prog w base spare held fuel 66 cs = some (.agg [.lit (.string S.data.toList), .lit (.int .i64 z)], p)) :
    cs = [.string S, .int .i64 z] := by
  obtain ⟨y0, y1, n, hx, hl, h0, h1⟩ := trod_struct2 Tryd.underlying66 h
  rw [cKind] at hl
  obtain ⟨c0, c1, rfl⟩ := two_of hl
  have h0' : DataW.trod enc Tryd.prog w base spare held n 9 (([c0, c1].drop 0).take (Tryd.prog.cellsOf 9)) = some y0 := h0
  have h1' : DataW.trod enc Tryd.prog w base spare held n 3 (([c0, c1].drop 1).take (Tryd.prog.cellsOf 3)) = some y1 := h1
  rw [cStr] at h0'
  rw [cInt] at h1'
  simp only [List.drop_zero, List.drop_succ_cons, List.take_succ_cons, List.take_zero] at h0' h1'
  obtain ⟨s, e0, hy0, _⟩ := DataW.trod_string Tryd.underlying9 h0'
  obtain ⟨z', e1, hy1, _⟩ := DataW.trod_int Tryd.underlying3 h1'
  injection e0 with e0 _
  injection e1 with e1 _
  subst e0
  subst e1
  subst hy0
  subst hy1
  simp only [Prod.mk.injEq, DataW.agg.injEq, List.cons.injEq, DataW.lit.injEq, Lit.string.injEq, Lit.int.injEq, and_true, true_and] at hx
  obtain ⟨⟨hs, hz⟩, _⟩ := hx
  rw [hz, ByteArray.ext (Array.ext' hs)]

theorem open_kind {H : Type} {enc : TypeId × Value → H} {w : World} {base : Nat} {spare : Nat → Bool} {held : Bool} {fuel : Nat} {cs : List Value} {i : Nat} {p : List MemPlace} (h : DataW.trod enc Tryd.prog w base spare held fuel 66 cs = some (kindD i, p)) :
    cs = [.string (strL (namesN.getD i [])), .int .i64 (takesN (i : Int) : Nat)] := open_pairD h

theorem kinds_of {H : Type} {enc : TypeId × Value → H} {W : World} {base : Nat} {spare : Nat → Bool} {held : Bool} {fuel : Nat} {cs : Array Value} {p : List MemPlace} (hv : ∀ o, W.cell? ⟨0, o, none⟩ = cs[o]?) (hd : DataW.trod enc Tryd.prog W base spare held fuel 67 cs.toList = some (Rows.laid_foreman_asm_kinds, p)) : HasKinds W := by
  rw [dKinds] at hd
  obtain ⟨xs, m, _, hx, hl, hlen, hf⟩ := DataW.trod_array Tryd.underlying67 hd
  rw [cKind] at hf
  have hk : ∀ i, i < 18 → cs[i * 2]? = some (.string (strL (namesN.getD i []))) ∧ cs[i * 2 + 1]? = some (.int .i64 (takesN (i : Int) : Nat)) := by
    intro i hi
    have h1 := hf i hi
    have hxi : xs[i]? = some (kindD i, (xs[i]'(by omega)).2) := by
      rw [List.getElem?_eq_getElem (by omega)]
      have e : (xs.map (·.1))[i]? = ((List.range 18).map (kindD (H := H)))[i]? := by
        have := congrArg Prod.fst hx
        simp only [DataW.agg.injEq] at this
        rw [← this]
      rw [List.getElem?_map, List.getElem?_map, List.getElem?_eq_getElem (by omega), List.getElem?_range hi] at e
      simp only [Option.map_some, Option.some.injEq] at e
      rw [← e]
    rw [hxi] at h1
    have hc := open_kind h1
    have g0 := congrArg (·[0]?) hc
    have g1 := congrArg (·[1]?) hc
    simp only [List.getElem?_take, List.getElem?_drop, Array.getElem?_toList] at g0 g1
    exact ⟨by simpa using g0, by simpa using g1⟩
  have hc := hv
  exact ⟨block_lt_of_cell ((hc 0).trans (hk 0 (by omega)).1), fun i hi => (hc _).trans (hk i hi).1, fun i hi => (hc _).trans (hk i hi).2⟩

end Go.Proofs.YtlhipaecndgonaaDoor
