/-
  Words and contracts of this claim, 2 texts laid into one, each under its own remark. No conditions but those that stand at each.
-/
import Derived.Test.YtpaocjpjlogkgaaGreatZPooW
import Derived.Test.YtpaocjpjlogkgaaGreatQRely
import Derived.Test.YtpaocjpjlogkgaaGreatQWords
import Derived.Deep.DeepMust
import Derived.Deep.MidRow

/-
  What foremanref16.Add answers, in whatever memory. No conditions but those that stand there.
-/
namespace Go.Proofs.YtpaocjpjlogkgaaGreat
open Go Go.RowKit
set_option maxRecDepth 100000
attribute [local go_sem] look findAt
attribute [local simp] depsOf isV Region.binds

/-- a task that is new: its machine new, no blocks, nobody's. -/
def newT (s : Int) (x : CmL) : TkL := ⟨s, x, newM x.c, none, 0, 0, none, 0, 0, [], none, 0, 0, -1⟩
theorem newT_tsk (s : Int) (x : CmL) : (newT s x).tsk = ⟨s, x.c, newM x.c, [], -1⟩ := rfl
theorem newT_in {s : Int} {x : CmL} {w : World} (h : x.In w) : (newT s x).In w :=
  ⟨h, ⟨⟨rfl, Nat.le_refl _, fun _ => ⟨rfl, rfl⟩, fun h => absurd h (Nat.lt_irrefl 0)⟩, ⟨rfl, Nat.le_refl _, fun _ => ⟨rfl, rfl⟩, fun h => absurd h (Nat.lt_irrefl 0)⟩, ⟨rfl, Nat.le_refl _, fun _ => ⟨rfl, rfl⟩, fun h => absurd h (Nat.lt_irrefl 0)⟩⟩, rfl, rfl, fun b hb => by cases hb⟩

end Go.Proofs.YtpaocjpjlogkgaaGreat

/-
  What foremanref16.Without answers, in whatever memory. No conditions but those that stand there.
-/
namespace Go.Proofs.YtpaocjpjlogkgaaGreat
open Go Go.RowKit
set_option maxRecDepth 100000
attribute [local go_sem] look findAt
attribute [local simp] depsOf isV Region.binds

/-- where the others begin, as a slice says it. -/
def restK (b off q k size : Nat) : Option Addr := if q = k then some ⟨b, off, none⟩ else some ⟨b, off + k * size, none⟩
theorem Sl.restK {w : World} {size b off n k c : Nat} {xs : List Value} (h : Sl w size (some ⟨b, off, none⟩) n c xs) (hk : k ≤ n) : Sl w size (Go.Proofs.YtpaocjpjlogkgaaGreat.restK b off c k size) (n - k) (c - k) (xs.drop (k * size)) := by
  have hl := h.1
  have hc0 := h.2.1
  have hks : k * size ≤ n * size := Nat.mul_le_mul_right size hk
  have hsub : (n - k) * size = n * size - k * size := Nat.sub_mul ..
  unfold Go.Proofs.YtpaocjpjlogkgaaGreat.restK
  by_cases e : c = k
  · rw [if_pos e]
    exact ⟨by rw [List.length_drop, hl, hsub], by omega, (fun h => by cases h), fun hn => absurd hn (by omega)⟩
  · rw [if_neg e]
    refine ⟨by rw [List.length_drop, hl, hsub], by omega, (fun h => by cases h), fun hn => ?_⟩
    obtain ⟨b', off', e', hb, hc⟩ := h.2.2.2 (by omega)
    injection e' with e'
    injection e' with e1 e2
    subst e1
    subst e2
    refine ⟨b, off + k * size, rfl, hb, fun j hj => ?_⟩
    rw [List.getElem?_drop, Nat.add_assoc]
    exact hc _ (by omega)

/-- all but one. -/
def lessT (l : List TkL) (i : Nat) : List TkL := l.take i ++ l.drop (i + 1)
theorem lessT_length {l : List TkL} {i : Nat} (h : i < l.length) : (lessT l i).length = l.length - 1 := by
  unfold lessT
  rw [List.length_append, List.length_take, List.length_drop]
  omega
theorem tksW_take (l : List TkL) (n : Nat) : (tksW l).take (n * 18) = tksW (l.take n) := recs_take tkC_length l n
theorem tksW_drop (l : List TkL) (n : Nat) : (tksW l).drop (n * 18) = tksW (l.drop n) := by
  have h1 := List.take_append_drop (n * 18) (tksW l)
  have h2 : tksW (l.take n) ++ tksW (l.drop n) = tksW l := by rw [← tksW_append, List.take_append_drop]
  rw [tksW_take] at h1
  exact List.append_cancel_left (h1.trans h2.symm)

end Go.Proofs.YtpaocjpjlogkgaaGreat
