/-
  Blocks as they were, on plain numbers: a mark, a block kept ahead of its change, what is seen. No conditions but those that stand there.
-/
import Derived.Test.YtgoamkneenmbgaaStr
namespace Go.Proofs.Ytgoamkneenmbgaa

structure Ent where
  cells : List Int
  seq : Int
deriving DecidableEq

/-- a block of noughts. -/
def entZ : Ent := ⟨[0, 0, 0, 0, 0, 0, 0, 0], 0⟩

/-- a mark's own blocks: is it on, what they were, are they kept? -/
structure Mrk where
  on : Bool
  old : List Ent
  kept : List Bool

def beginS (n : Int) : Mrk := ⟨true, List.replicate n.toNat entZ, List.replicate n.toNat false⟩

/-- is it to be kept? -/
def keepsS (m : Mrk) (l : List Ent) (i : Int) : Prop := m.on = true ∧ 0 ≤ i ∧ i < l.length ∧ i < m.kept.length ∧ m.kept[i.toNat]? = some false
instance (m : Mrk) (l : List Ent) (i : Int) : Decidable (keepsS m l i) := by unfold keepsS; infer_instance

def keepS (m : Mrk) (l : List Ent) (i : Int) : Mrk := if keepsS m l i then ⟨m.on, m.old.set i.toNat (l[i.toNat]?.getD entZ), m.kept.set i.toNat true⟩ else m

def seeS (m : Mrk) (l : List Ent) (i : Int) : Ent :=
  if 0 ≤ i ∧ i < l.length then (if m.on = true ∧ m.kept[i.toNat]? = some true then m.old[i.toNat]?.getD entZ else l[i.toNat]?.getD entZ) else entZ

/-- a block's change. -/
def turnS (l : List Ent) (i : Int) (e : Ent) : List Ent := if 0 ≤ i ∧ i < l.length then l.set i.toNat e else l

theorem turnS_length (l : List Ent) (i : Int) (e : Ent) : (turnS l i e).length = l.length := by
  unfold turnS
  split <;> simp
theorem keepS_on (m : Mrk) (l : List Ent) (i : Int) : (keepS m l i).on = m.on := by
  unfold keepS
  split <;> rfl
theorem keepS_old (m : Mrk) (l : List Ent) (i : Int) : (keepS m l i).old.length = m.old.length := by
  unfold keepS
  split <;> simp
theorem keepS_kept (m : Mrk) (l : List Ent) (i : Int) : (keepS m l i).kept.length = m.kept.length := by
  unfold keepS
  split <;> simp

/-- all blocks are seen as they were. -/
structure Saw (m : Mrk) (x l : List Ent) : Prop where
  on : m.on = true
  len : x.length = l.length
  old : m.old.length = l.length
  kept : m.kept.length = l.length
  sees : ∀ k : Nat, k < l.length → seeS m x k = l[k]?.getD entZ

theorem saw_begin (l : List Ent) : Saw (beginS l.length) l l := by
  refine ⟨rfl, rfl, by simp [beginS], by simp [beginS], fun k hk => ?_⟩
  unfold seeS beginS
  rw [if_pos ⟨by omega, by omega⟩, if_neg]
  · rfl
  · rintro ⟨-, h⟩
    simp [List.getElem?_replicate] at h

theorem Saw.keep {m : Mrk} {x l : List Ent} (h : Saw m x l) (i : Int) (e : Ent) : Saw (keepS m x i) (turnS x i e) l := by
  have hl := h.len
  have ho := h.old
  have hk := h.kept
  refine ⟨by rw [keepS_on]; exact h.on, by rw [turnS_length]; exact hl, by rw [keepS_old]; exact ho, by rw [keepS_kept]; exact hk, fun k hkl => ?_⟩
  have hs := h.sees k hkl
  unfold seeS at hs ⊢
  rw [turnS_length, if_pos ⟨by omega, by omega⟩, keepS_on]
  rw [if_pos ⟨by omega, by omega⟩] at hs
  simp only [Int.toNat_natCast] at hs ⊢
  by_cases hi : 0 ≤ i ∧ i < x.length
  · by_cases hik : i.toNat = k
    · have hkk : k < m.kept.length := by omega
      have hko : k < m.old.length := by omega
      have hkx : k < x.length := by omega
      cases hb : m.kept[k]? with
      | none => rw [List.getElem?_eq_none_iff] at hb; omega
      | some b =>
        cases b with
        | true =>
          have hnk : ¬ keepsS m x i := fun g => by
            have := g.2.2.2.2
            rw [hik, hb] at this
            cases this
          rw [keepS, if_neg hnk, hb, if_pos ⟨h.on, rfl⟩]
          rw [hb, if_pos ⟨h.on, rfl⟩] at hs
          exact hs
        | false =>
          have hyk : keepsS m x i := ⟨h.on, hi.1, hi.2, by omega, by rw [hik]; exact hb⟩
          rw [keepS, if_pos hyk, hik]
          simp only
          rw [List.getElem?_set_self hkk, if_pos ⟨h.on, rfl⟩, List.getElem?_set_self hko]
          rw [hb, if_neg (by rintro ⟨-, g⟩; cases g)] at hs
          exact hs
    · have e1 : (keepS m x i).kept[k]? = m.kept[k]? := by
        unfold keepS
        split
        · rw [List.getElem?_set_ne hik]
        · rfl
      have e2 : (keepS m x i).old[k]? = m.old[k]? := by
        unfold keepS
        split
        · rw [List.getElem?_set_ne hik]
        · rfl
      rw [e1, e2, turnS, if_pos hi, List.getElem?_set_ne hik]
      exact hs
  · have hnk : ¬ keepsS m x i := fun g => hi ⟨g.2.1, g.2.2.1⟩
    rw [keepS, if_neg hnk, turnS, if_neg hi]
    exact hs

/-- without a mark nothing is kept, and a block is seen as it is. -/
theorem keep_off {m : Mrk} (h : m.on = false) (l : List Ent) (i : Int) : keepS m l i = m := by
  rw [keepS, if_neg]
  intro g
  have g := g.1
  rw [h] at g
  cases g
theorem see_off {m : Mrk} (h : m.on = false) (l : List Ent) (i : Int) : seeS m l i = if 0 ≤ i ∧ i < l.length then l[i.toNat]?.getD entZ else entZ := by
  unfold seeS
  split
  · rw [if_neg]
    rw [h]
    rintro ⟨g, -⟩
    cases g
  · rfl

/-- kept twice, a block is as it was the first time; others aren't kept. -/
theorem keep_twice (l n : List Ent) {k : Nat} (h : k < l.length) (hn : n.length = l.length) :
    keepS (keepS (beginS l.length) l k) n k = ⟨true, (List.replicate l.length entZ).set k (l[k]?.getD entZ), (List.replicate l.length false).set k true⟩ := by
  have h1 : keepS (beginS l.length) l k = ⟨true, (List.replicate l.length entZ).set k (l[k]?.getD entZ), (List.replicate l.length false).set k true⟩ := by
    rw [keepS, if_pos]
    · rfl
    · exact ⟨rfl, by omega, by omega, by simp [beginS, h], by simp [beginS, h]⟩
  rw [h1, keepS, if_neg]
  rintro ⟨-, -, -, -, g⟩
  simp [h] at g

end Go.Proofs.Ytgoamkneenmbgaa
