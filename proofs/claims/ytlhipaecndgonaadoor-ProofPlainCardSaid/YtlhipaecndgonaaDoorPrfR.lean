/-
  ProofPlain's programs on plain numbers. No conditions but those that stand there.
-/
import Derived.Test.YtlhipaecndgonaaDoorPrfQ
namespace Go.Proofs.YtlhipaecndgonaaDoor

/-- a byte's instruction. -/
def plainI (i : Nat) (b : Int) : Ins := if b % 4 = 0 ∨ b % 4 = 1 then ⟨1, (i : Int), 0⟩ else if b % 4 = 2 then ⟨7, 0, 0⟩ else ⟨3, (i : Int) % 4, 0⟩
def plainL (l : List Int) : List Ins := (List.range l.length).map fun i => plainI i (l[i]?.getD 0)

theorem plainL_length (l : List Int) : (plainL l).length = l.length := by simp [plainL]
theorem plainL_at {l : List Int} {i : Nat} (h : i < l.length) : insAt (plainL l) i = plainI i (l[i]?.getD 0) := by simp [insAt, plainL, h]
theorem plainL_take {l : List Int} {i : Nat} (h : i < l.length) : (plainL l).take (i + 1) = (plainL l).take i ++ [plainI i (l[i]?.getD 0)] := by
  have hl : i < (plainL l).length := by rw [plainL_length]; exact h
  rw [List.take_add_one, List.getElem?_eq_getElem hl]
  have := plainL_at h
  rw [insAt, List.getElem?_eq_getElem hl] at this
  rw [← this]
  rfl
theorem plainL_drop {l : List Int} {i : Nat} (h : i < l.length) : (plainL l).drop i = plainI i (l[i]?.getD 0) :: (plainL l).drop (i + 1) := by
  have hl : i < (plainL l).length := by rw [plainL_length]; exact h
  rw [List.drop_eq_getElem_cons hl]
  have := plainL_at h
  rw [insAt, List.getElem?_eq_getElem hl] at this
  rw [← this]
  rfl

theorem plain_cases (i : Nat) (b : Int) : ((b % 4 = 0 ∨ b % 4 = 1) ∧ plainI i b = ⟨1, (i : Int), 0⟩) ∨ (b % 4 = 2 ∧ plainI i b = ⟨7, 0, 0⟩) ∨ (b % 4 = 3 ∧ plainI i b = ⟨3, (i : Int) % 4, 0⟩) := by
  unfold plainI
  by_cases h : b % 4 = 0 ∨ b % 4 = 1
  · exact .inl ⟨h, by rw [if_pos h]⟩
  · by_cases h2 : b % 4 = 2
    · exact .inr (.inl ⟨h2, by rw [if_neg h, if_pos h2]⟩)
    · exact .inr (.inr ⟨by omega, by rw [if_neg h, if_neg h2]⟩)

/-- one byte more: what is so far, and what is still to come. -/
theorem plain_step {l : List Int} {i : Nat} {v v' : Int} {s g g' : Bool} (h : i < l.length) (hs : s = (g && straightB v ((plainL l).drop i))) (h0 : g = true → 0 ≤ v)
    (hv : v' = v - offN (plainI i (l[i]?.getD 0)).op + onN (plainI i (l[i]?.getD 0)).op)
    (hg : 0 ≤ v → g' = (g && (decide (offN (plainI i (l[i]?.getD 0)).op ≤ v) && decide (v' ≤ 8)))) (hgf : g = false → g' = false) :
    s = (g' && straightB v' ((plainL l).drop (i + 1))) ∧ (g' = true → 0 ≤ v') := by
  rw [plainL_drop h, straightB, ← hv] at hs
  cases g with
  | false =>
    rw [hgf rfl]
    exact ⟨by simpa using hs, fun e => by cases e⟩
  | true =>
    have hv0 := h0 rfl
    rw [hg hv0]
    generalize offN (plainI i (l[i]?.getD 0)).op = o at *
    generalize onN (plainI i (l[i]?.getD 0)).op = n at *
    generalize straightB v' ((plainL l).drop (i + 1)) = q at *
    have e : (!(decide (v < (o : Int)) || decide (8 < v'))) = (decide ((o : Int) ≤ v) && decide (v' ≤ 8)) := by
      by_cases h1 : (o : Int) ≤ v
      · by_cases h2 : v' ≤ 8
        · simp [h1, h2, show ¬ v < (o : Int) by omega, show ¬ 8 < v' by omega]
        · simp [h1, h2, show 8 < v' by omega]
      · simp [h1, show v < (o : Int) by omega]
    rw [e] at hs
    refine ⟨by simpa using hs, fun e => ?_⟩
    simp at e
    omega

theorem plain_right (i : Nat) (b : Int) : rightN (plainI i b) := by
  rcases plain_cases i b with ⟨_, h⟩ | ⟨_, h⟩ | ⟨_, h⟩ <;> rw [h] <;> simp [rightN, takesN]

theorem plain_ways (i : Nat) (b : Int) : waysN (plainI i b) = [0] := by
  rcases plain_cases i b with ⟨_, h⟩ | ⟨_, h⟩ | ⟨_, h⟩ <;> rw [h] <;> simp [waysN]

theorem plain_mem {l : List Int} {x : Ins} (h : x ∈ plainL l) : ∃ i b, x = plainI i b := by
  obtain ⟨i, _, rfl⟩ := List.mem_map.1 h
  exact ⟨_, _, rfl⟩

/-- the command of such a program. -/
def plainC (l : List Int) : Cmd := ⟨[], [], [], 1, plainL l ++ [⟨17, 0, 0⟩]⟩

theorem plain_check {l : List Int} (h : l.length ≤ 60) : checkN (plainC l) = if straightB 0 (plainL l) then 0 else 7 := by
  have hlen : (plainC l).code.length = l.length + 1 := by simp [plainC, plainL_length]
  have hops : opsN (plainC l) := by
    intro x hx
    rcases List.mem_append.1 (show x ∈ plainL l ++ [⟨17, 0, 0⟩] from hx) with hx | hx
    · obtain ⟨i, b, rfl⟩ := plain_mem hx
      refine ⟨plain_right i b, ?_⟩
      rcases plain_cases i b with ⟨_, h⟩ | ⟨_, h⟩ | ⟨_, h⟩ <;> rw [h]
      · simp [boundsN]
      · simp [boundsN]
      · simp [boundsN]; omega
    · rw [List.mem_singleton.1 hx]
      exact ⟨by simp [rightN, takesN], by simp [boundsN]⟩
  have hem : emitsN (plainC l).code = 0 := by
    show ((plainL l ++ [(⟨17, 0, 0⟩ : Ins)]).filter fun x : Ins => decide (x.op = 15)).length = 0
    rw [List.length_eq_zero_iff, List.filter_eq_nil_iff]
    intro x hx
    rcases List.mem_append.1 hx with hx | hx
    · obtain ⟨i, b, rfl⟩ := plain_mem hx
      rcases plain_cases i b with ⟨_, h⟩ | ⟨_, h⟩ | ⟨_, h⟩ <;> rw [h] <;> simp
    · rw [List.mem_singleton.1 hx]
      simp
  have hd := straight_depths (xs := plainL l) (e := ⟨17, 0, 0⟩) rfl (fun x hx => by obtain ⟨i, b, rfl⟩ := plain_mem hx; exact plain_ways i b)
  have hfew : fewN (plainC l) := by
    refine ⟨by simp [plainC], by simp [plainC], by omega, by omega, by simp [plainC], by simp [plainC]⟩
  have hsets : setsN (plainC l) := ⟨trivial, trivial, fun x hx => by cases hx⟩
  rw [checkN, if_neg (by simpa using hfew), if_neg (by simpa using hsets), if_neg (by simpa using hops), if_neg (by omega)]
  show (match depthsN (plainL l ++ [⟨17, 0, 0⟩]) with | .ok _ => 0 | .error e => e) = _
  cases hq : straightB 0 (plainL l) with
  | true =>
    obtain ⟨d, e⟩ := hd.1 hq
    rw [e]
    rfl
  | false =>
    rw [hd.2 hq]
    rfl

end Go.Proofs.YtlhipaecndgonaaDoor
