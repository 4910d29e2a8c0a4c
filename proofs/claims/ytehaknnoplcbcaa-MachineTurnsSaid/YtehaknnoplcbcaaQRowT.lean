/-
  Words and contracts of this claim, 2 texts laid into one, each under its own remark. No conditions but those that stand at each.
-/
import Derived.Test.YtehaknnoplcbcaaQRely
import Derived.Test.YtehaknnoplcbcaaZRowX
import Derived.Test.YtehaknnoplcbcaaZMchA
import Derived.Test.YtehaknnoplcbcaaZMchM

/-
  Statements whose order is open that append: to an empty list of their own, and one value behind it. What their operations leave, one look at each. They name no function of the program. No conditions but those that stand there.
-/
namespace Go.Proofs.Ytehaknnoplcbcaa
open Go Go.RowKit

/-- 'B' and above, of type 'e': rows as they were, or with 'u' at place 'n'; all below 'B' as it was. -/
def TurnR (B : Nat) (e : TypeId) (n : Nat) (u : Value) (x y : World) : Prop :=
  Below B x y ∧ ∀ g cur, B ≤ g → Bk x g e cur → Bk y g e cur ∨ (1 ≤ n ∧ n < cur.size ∧ Bk y g e (cur.setIfInBounds n u))

theorem TurnR.trans {B : Nat} {e : TypeId} {n : Nat} {u : Value} (x y z : World) (h : TurnR B e n u x y) (k : TurnR B e n u y z) : TurnR B e n u x z := by
  refine ⟨h.1.trans k.1, fun g cur hg hb => ?_⟩
  rcases h.2 g cur hg hb with h1 | ⟨n1, n2, h1⟩
  · exact k.2 g cur hg h1
  · rcases k.2 g _ hg h1 with h2 | ⟨_, _, h2⟩
    · exact .inr ⟨n1, n2, h2⟩
    · refine .inr ⟨n1, n2, ?_⟩
      rw [show (cur.setIfInBounds n u).setIfInBounds n u = cur.setIfInBounds n u by
        apply Array.ext_getElem?
        intro j
        simp only [Array.getElem?_setIfInBounds, Array.size_setIfInBounds]
        split <;> simp_all] at h2
      exact h2

theorem TurnR.refl {B : Nat} {e : TypeId} {n : Nat} {u : Value} (x : World) : TurnR B e n u x x := ⟨Below.refl _ _, fun _ _ _ hb => .inl hb⟩

theorem TurnR.of {B : Nat} {e : TypeId} {n : Nat} {u : Value} {x y : World} (hB : B ≤ x.heap.size) (h : Below x.heap.size x y) : TurnR B e n u x y :=
  ⟨h.mono hB, fun _ _ _ hb => .inl (hb.below h)⟩

/-- a row of one's own whose used part ends where it turns, or holds what it turns to. -/
theorem own_turn {B : Nat} {e : TypeId} {n k : Nat} {u : Value} {x y : World} {v : Value} {xs : List Value} (h : x.ownsRow B e 1 v k xs) (hT : TurnR B e n u x y) (hk : 1 ≤ n → k ≤ n ∨ (k = n + 1 ∧ xs[n]? = some u)) : y.ownsRow B e 1 v k xs := by
  refine ⟨h.1, ?_⟩
  rcases h.2 with h0 | ⟨g, cap, cur, hv, hb, hg, hnc, hcm, hcs, ht⟩
  · exact .inl h0
  · rcases hT.2 g cur hb hg with h1 | ⟨n1, n2, h1⟩
    · exact .inr ⟨g, cap, cur, hv, hb, h1, hnc, hcm, hcs, ht⟩
    · refine .inr ⟨g, cap, _, hv, hb, h1, hnc, hcm, by rw [Array.size_setIfInBounds]; exact hcs, ?_⟩
      rw [← ht, Nat.mul_one]
      apply List.ext_getElem?
      intro j
      rw [List.getElem?_take, List.getElem?_take]
      by_cases hj : j < k
      · rw [if_pos hj, if_pos hj, Array.getElem?_toList, Array.getElem?_toList, Array.getElem?_setIfInBounds]
        by_cases hjn : n = j
        · subst hjn
          rw [if_pos rfl, if_pos n2]
          rcases hk n1 with hk | ⟨hk, hu⟩
          · omega
          · rw [← ht, Nat.mul_one, List.getElem?_take, if_pos hj, Array.getElem?_toList] at hu
            exact hu.symm
        · rw [if_neg hjn]
      · rw [if_neg hj, if_neg hj]

/-- an empty list of one's own. -/
def noneV (B : Nat) (e : TypeId) : Says := fun v w => ∃ g, v = .slice (some ⟨g, 0, none⟩) 0 0 ∧ w.ownsRow B e 1 (.slice (some ⟨g, 0, none⟩) 0 0) 0 []
/-- a list of one's own; empty, it has no room. -/
def listV (B : Nat) (e : TypeId) (n : Nat) (xs : List Value) : Says := fun v w => ∃ A c, v = .slice A n c ∧ w.ownsRow B e 1 (.slice A n c) n xs ∧ (n = 0 → c = 0)
/-- one value in a block of its own. -/
def singV (B : Nat) (e : TypeId) (u : Value) : Says := fun v w => ∃ g, v = .slice (some ⟨g, 0, none⟩) 1 1 ∧ w.ownsRow B e 1 (.slice (some ⟨g, 0, none⟩) 1 1) 1 [u]
/-- a list and one more. -/
def moreV (B : Nat) (e : TypeId) (n : Nat) (xs : List Value) (u : Value) : Says := fun v w => ∃ g c, v = .slice (some ⟨g, 0, none⟩) (n + 1) c ∧ w.ownsRow B e 1 (.slice (some ⟨g, 0, none⟩) (n + 1) c) (n + 1) (xs ++ [u])

section
variable {B : Nat} {e : TypeId} {n : Nat} {u : Value}
theorem noneV_turn (v : Value) (x y : World) (hT : TurnR B e n u x y) (h : noneV B e v x) : noneV B e v y := by
  obtain ⟨g, rfl, ho⟩ := h
  exact ⟨g, rfl, own_turn ho hT (fun _ => .inl (Nat.zero_le _))⟩
theorem listV_turn {xs : List Value} (v : Value) (x y : World) (hT : TurnR B e n u x y) (h : listV B e n xs v x) : listV B e n xs v y := by
  obtain ⟨A, c, rfl, ho, h0⟩ := h
  exact ⟨A, c, rfl, own_turn ho hT (fun _ => .inl (Nat.le_refl _)), h0⟩
theorem singV_turn {z : Value} (v : Value) (x y : World) (hT : TurnR B e n u x y) (h : singV B e z v x) : singV B e z v y := by
  obtain ⟨g, rfl, ho⟩ := h
  exact ⟨g, rfl, own_turn ho hT (fun h => .inl h)⟩
theorem moreV_turn {xs : List Value} (v : Value) (x y : World) (hT : TurnR B e n u x y) (h : moreV B e n xs u v x) : moreV B e n xs u v y := by
  obtain ⟨g, c, rfl, ho⟩ := h
  have hl : xs.length = n := by have := ho.1; simp at this; omega
  exact ⟨g, c, rfl, own_turn ho hT (fun _ => .inr ⟨rfl, by rw [List.getElem?_append_right (by omega)]; simp [hl]⟩)⟩
theorem noneV_below (v : Value) (x y : World) (hb : Below x.heap.size x y) (h : noneV B e v x) : noneV B e v y := by
  obtain ⟨g, rfl, ho⟩ := h
  exact ⟨g, rfl, own_below ho hb⟩
theorem listV_below {xs : List Value} (v : Value) (x y : World) (hb : Below x.heap.size x y) (h : listV B e n xs v x) : listV B e n xs v y := by
  obtain ⟨A, c, rfl, ho, h0⟩ := h
  exact ⟨A, c, rfl, own_below ho hb, h0⟩
end

theorem below_setRow_same {w : World} {g : Nat} {e : TypeId} {cs : Array Value} (h : Bk w g e cs) : Below w.heap.size w (w.setRow g cs) :=
  ⟨rfl, rfl, rfl, by simp, fun k hk => by
    by_cases e' : k = g
    · subst e'
      exact (setRow_heap w k cs cs e _ h).trans h.symm
    · exact setRow_other w g k cs e'⟩

/-- append of a list to an empty one of one's own. -/
theorem run_append_none {P : Program} (w : World) (t ty : TypeId) (B : Nat) (e : TypeId) (i : TypeInfo) (z : Value) (bytes : Nat) (ht : P.underlying t = some (.slice e)) (hi : P.info? e = some i) (hz : i.zero = some z)
    (hsize : i.size = 1) (hby : i.bytes = bytes) (hzs : z.cells.size = 1) (hB : B ≤ w.heap.size)
    (g : Nat) (ho : w.ownsRow B e 1 (.slice (some ⟨g, 0, none⟩) 0 0) 0 []) (A : Option Addr) (n c : Nat) (xs : List Value) (hr : Sl w 1 A n c xs) (h1 : ∀ u ∈ xs, u.oneCell' = true) (hn : n ≤ maxLen) (hbytes : n * bytes ≤ 140737488355328) :
    ∃ v w', (Builtin.append_ #[t, t] ty #[.slice (some ⟨g, 0, none⟩) 0 0, .slice A n c]).run P w = .ok v w' ∧ Below w.heap.size w w' ∧ listV B e n xs v w' := by
  have hcur : ∃ cur, Bk w g e cur ∧ cur.size = 0 := by
    rcases ho.2 with ⟨h, _⟩ | ⟨g', cap, cur, hv, hb, hg, hnc, hcm, hcs, _⟩
    · cases h
    · injection hv with h1 _ h3
      injection h1 with h1
      injection h1 with h1
      subst h1
      subst h3
      exact ⟨cur, hg, by simpa using hcs⟩
  obtain ⟨cur, hg, hc0⟩ := hcur
  obtain rfl : cur = #[] := Array.eq_empty_of_size_eq_zero hc0
  by_cases h0 : n = 0
  · subst h0
    obtain rfl : xs = [] := List.eq_nil_of_length_eq_zero (by simpa using hr.1)
    cases A with
    | none =>
      obtain ⟨_, rfl⟩ := hr.2.2.1 rfl
      refine ⟨.slice (some ⟨g, 0, none⟩) 0 0, w, ?_, Below.refl _ _, _, _, rfl, ho, fun _ => rfl⟩
      simp [Builtin.append_, run_underlying ht, sizeOf, typeInfo, hi, Builtin.lenOf, Builtin.firstCells, storeCells]
    | some a =>
      have hrun := run_append_room (P := P) w t ty e i ht hi g 0 0 #[] hg a 0 c [] (by simp) (by simp) (by simp) (by simp) (by simp)
      refine ⟨_, _, hrun, ?_, _, _, rfl, ?_, fun _ => rfl⟩
      · simpa using below_setRow_same hg
      · have hb := below_setRow_same hg
        have := own_below ho hb
        simpa using this
  · obtain ⟨b, off, rfl, hb, hcell⟩ := hr.2.2.2 (by omega)
    have hbt : n * i.bytes ≤ 140737488355328 := by rw [hby]; exact hbytes
    have hrun := run_append_grow (P := P) w t ty e i z ht hi hz ⟨g, 0, none⟩ 0 0 [] (by simp) (by simp) ⟨b, off, none⟩ n c xs (by rw [hsize]; exact hr.1) (fun j v hj => hr.olds _ rfl j v hj) (by omega) (by unfold maxLen at hn; omega) (growslice_fits (by omega) (by simpa using hbt))
    rw [Nat.zero_add] at hrun
    have hge := grownCap_ge w n 0 e
    have hcm : grownCap w n 0 e ≤ maxLen := grownCap_le_maxLen w n 0 e hn
    have hl := hr.1
    rw [Nat.mul_one] at hl
    refine ⟨_, _, hrun, (below_drew1 w).alloc (by simp) _, _, _, rfl, ⟨by simpa using hl, .inr ⟨w.heap.size, _, _, rfl, hB, heap_alloc_new w.drew _, hge, hcm, ?_, ?_⟩⟩, fun h => absurd h h0⟩
    · simp only [Array.size_append, List.size_toArray, size_zeroCells, hzs, hl, List.length_nil]
      omega
    · simp only [Array.toList_append, List.nil_append, Nat.mul_one]
      rw [← hl]
      exact List.take_left

/-- append of one value to a list of one's own: nothing turns but one place. -/
theorem run_append_sing {P : Program} (w : World) (t ty : TypeId) (B : Nat) (e : TypeId) (i : TypeInfo) (z : Value) (bytes : Nat) (ht : P.underlying t = some (.slice e)) (hi : P.info? e = some i) (hz : i.zero = some z)
    (hsize : i.size = 1) (hby : i.bytes = bytes) (hzs : z.cells.size = 1) (hB : B ≤ w.heap.size)
    (A : Option Addr) (n c : Nat) (xs : List Value) (ho : w.ownsRow B e 1 (.slice A n c) n xs) (h0 : n = 0 → c = 0) (u : Value) (g : Nat) (hs : w.ownsRow B e 1 (.slice (some ⟨g, 0, none⟩) 1 1) 1 [u]) (h1 : u.oneCell' = true) (hn : n + 1 ≤ maxLen) (hbytes : (n + 1) * bytes ≤ 140737488355328) :
    ∃ v w', (Builtin.append_ #[t, t] ty #[.slice A n c, .slice (some ⟨g, 0, none⟩) 1 1]).run P w = .ok v w' ∧ TurnR B e n u w w' ∧ moreV B e n xs u v w' := by
  have hnews : ∀ j v, ([u] : List Value)[j]? = some v → w.cell? ((⟨g, 0, none⟩ : Addr).add j) = some v := hs.cells (g := g) rfl
  have hl := ho.1
  rw [Nat.mul_one] at hl
  have grown : ∀ (old : Nat), old < n + 1 → Below w.heap.size w (w.drew.alloc (.cells (xs.toArray ++ #[u] ++ Builtin.zeroCells z.cells (grownCap w (n + 1) old e - (n + 1))) e)) ∧
      moreV B e n xs u (.slice (some ⟨w.heap.size, 0, none⟩) (n + 1) (grownCap w (n + 1) old e)) (w.drew.alloc (.cells (xs.toArray ++ #[u] ++ Builtin.zeroCells z.cells (grownCap w (n + 1) old e - (n + 1))) e)) := by
    intro old hold
    have hge := grownCap_ge w (n + 1) old e
    have hcm : grownCap w (n + 1) old e ≤ maxLen := grownCap_le_maxLen w (n + 1) old e hn
    refine ⟨(below_drew1 w).alloc (by simp) _, _, _, rfl, by simp [hl], .inr ⟨w.heap.size, _, _, rfl, hB, heap_alloc_new w.drew _, hge, hcm, ?_, ?_⟩⟩
    · simp only [Array.size_append, List.size_toArray, size_zeroCells, hzs, hl, List.length_singleton]
      omega
    · simp only [Array.toList_append, Nat.mul_one]
      rw [show n + 1 = (xs ++ [u]).length by simp [hl]]
      exact List.take_left
  rcases ho.2 with ⟨h, hn0⟩ | ⟨g', cap, cur, hv, hbg, hg, hnc, hcm, hcs, htake⟩
  · injection h with hA _ hc
    subst hA
    subst hc
    subst hn0
    obtain rfl : xs = [] := List.eq_nil_of_length_eq_zero hl
    have hb : (0 + 1) * i.bytes ≤ 140737488355328 := by rw [hby]; exact hbytes
    have hrun := run_append_nil (P := P) w t ty e i z ht hi hz ⟨g, 0, none⟩ 1 1 [u] (by simp [hsize]) hnews (by omega) (by omega) (by omega)
    obtain ⟨k1, k2⟩ := grown 0 (by omega)
    exact ⟨_, _, hrun, TurnR.of hB (by simpa using k1), by simpa using k2⟩
  · injection hv with hA _ hc
    subst hA
    subst hc
    by_cases hroom : n + 1 ≤ c
    · have hn1 : 1 ≤ n := by
        rcases Nat.eq_zero_or_pos n with h | h
        · have := h0 h; omega
        · exact h
      have hcs' : cur.size = c := by simpa using hcs
      have hrun := run_append_room (P := P) w t ty e i ht hi g' n c cur hg ⟨g, 0, none⟩ 1 1 [u] (by simp [hsize]) hnews (by simpa using h1) hroom (by rw [hsize, hcs']; simp; omega)
      have hset : (cur.toList.take (n * i.size) ++ [u] ++ cur.toList.drop (n * i.size + [u].length)).toArray = cur.setIfInBounds n u := by
        apply Array.ext_getElem?
        intro j
        rw [hsize, Nat.mul_one, List.getElem?_toArray, Array.getElem?_setIfInBounds, List.append_assoc]
        rcases Nat.lt_trichotomy j n with hj | hj | hj
        · rw [List.getElem?_append_left (by simp; omega), List.getElem?_take, if_pos hj, if_neg (by omega), Array.getElem?_toList]
        · subst hj
          rw [List.getElem?_append_right (by simp; omega), if_pos rfl, if_pos (by omega)]
          simp [show min j cur.size = j by omega]
        · rw [List.getElem?_append_right (by simp; omega), List.getElem?_append_right (by simp; omega), if_neg (by omega), List.getElem?_drop]
          simp only [List.length_singleton, List.length_take, Array.length_toList, Nat.min_eq_left (show n ≤ cur.size by omega), Array.getElem?_toList]
          congr 1
          omega
      rw [hset] at hrun
      have hbk : Bk (w.setRow g' (cur.setIfInBounds n u)) g' e (cur.setIfInBounds n u) := setRow_heap w g' cur _ e _ hg
      refine ⟨_, _, hrun, ⟨below_row (Below.refl _ _) hbg _, fun k cur' hk hb => ?_⟩, _, _, rfl, by simp [hl], .inr ⟨g', c, _, rfl, hbg, hbk, hroom, hcm, by simp [hcs'], ?_⟩⟩
      · by_cases ek : k = g'
        · subst ek
          have heq : cur' = cur := by
            have h2 : w.heap[k]? = some (.cells cur e (0, 0)) := hg
            unfold Bk at hb
            rw [h2] at hb
            injection hb with hb
            injection hb with hb
            exact hb.symm
          subst heq
          exact .inr ⟨hn1, by omega, hbk⟩
        · exact .inl ((setRow_other w g' k _ ek).trans hb)
      · rw [Nat.mul_one] at htake ⊢
        apply List.ext_getElem?
        intro j
        rw [List.getElem?_take, Array.getElem?_toList, Array.getElem?_setIfInBounds]
        rcases Nat.lt_trichotomy j n with hj | hj | hj
        · rw [if_pos (by omega), if_neg (by omega), List.getElem?_append_left (by omega), ← htake, List.getElem?_take, if_pos hj, Array.getElem?_toList]
        · subst hj
          rw [if_pos (by omega), if_pos rfl, if_pos (by omega), List.getElem?_append_right (by omega)]
          simp [hl]
        · rw [if_neg (by omega), List.getElem?_append_right (by omega), List.getElem?_eq_none (by simp; omega)]
    · have holds : ∀ j v, xs[j]? = some v → w.cell? ((⟨g', 0, none⟩ : Addr).add j) = some v := ho.cells (g := g') rfl
      have hb : (n + 1) * i.bytes ≤ 140737488355328 := by rw [hby]; exact hbytes
      have hrun := run_append_grow (P := P) w t ty e i z ht hi hz ⟨g', 0, none⟩ n c xs (by rw [hsize]; exact ho.1) holds ⟨g, 0, none⟩ 1 1 [u] (by simp [hsize]) hnews (by omega) (by unfold maxLen at hn; omega) (growslice_fits (by omega) hb)
      obtain ⟨k1, k2⟩ := grown c (by omega)
      exact ⟨_, _, hrun, TurnR.of hB k1, k2⟩

end Go.Proofs.Ytehaknnoplcbcaa

/-
  What the reference's pop (of one, of two) of layer 10 answers, in whatever memory: two lists of one's own. No conditions but those that stand there.
-/
namespace Go.Proofs.Ytehaknnoplcbcaa
open Go.RowKit
attribute [local go_sem] look findAt
attribute [local simp] depsOf isV Region.binds

theorem exec_append {P : Program} (ρ : Operand → Value) (w : World) (o : Oper) (s x : Operand) (t : TypeId) (ho : o.op = .call { callee := .builtin .append, args := #[s, x], argTypes := #[t, t] }) {v1 v2 v : Value} {w' : World} (hs : ρ s = v1) (hx : ρ x = v2)
    (hr : (Builtin.append_ #[t, t] o.type #[v1, v2]).run P w = .ok v w') : (execOp ρ o).run P w = .ok (.value v) w' := by
  unfold execOp
  simp only [ho, resolve, invoke, builtin, Sem.run_bind, Sem.run_pure, Result.andThen_ok, List.map_toArray, List.map_cons, List.map_nil, hs, hx, hr]

theorem exec_none (ρ : Operand → Value) (w : World) (o : Oper) (ho : o.op = .buildSlice 22 0 #[]) : (execOp ρ o).run Try.prog w = .ok (.value (.slice (some ⟨w.heap.size, 0, none⟩) 0 0)) (w.alloc (.cells #[] 3)) := by
  unfold execOp
  simp only [ho]
  go_simp

theorem exec_sing (ρ : Operand → Value) (w : World) (o : Oper) (x : Operand) (ho : o.op = .buildSlice 22 1 #[(0, x)]) {n : Int} (hx : ρ x = .int .i64 n) : (execOp ρ o).run Try.prog w = .ok (.value (.slice (some ⟨w.heap.size, 0, none⟩) 1 1)) (w.alloc (.cells #[.int .i64 n] 3)) := by
  unfold execOp
  simp only [ho]
  go_simp

/-- the last ones of a list, and the first ones. -/
theorem Sl.last {w : World} {b off n k c : Nat} {xs : List Value} (h : Sl w 1 (some ⟨b, off, none⟩) (k + n) c xs) (hn : 0 < n) : Sl w 1 (some ⟨b, off + k, none⟩) n (c - k) (xs.drop k) := by
  have hl := h.1
  have hc := h.2.1
  obtain ⟨b', off', e, hb, hv⟩ := h.2.2.2 (by omega)
  injection e with e
  injection e with e1 e2
  subst e1
  subst e2
  exact ⟨by simp; omega, by omega, (fun h => by cases h), fun _ => ⟨_, _, rfl, hb, fun j hj => by rw [List.getElem?_drop, Nat.add_assoc, hv (k + j) (by omega)]⟩⟩
theorem Sl.front {w : World} {b off n k c : Nat} {xs : List Value} (h : Sl w 1 (some ⟨b, off, none⟩) (k + n) c xs) (hn : 0 < n) : Sl w 1 (some ⟨b, off, none⟩) k c (xs.take k) := by
  have hl := h.1
  have hc := h.2.1
  obtain ⟨b', off', e, hb, hv⟩ := h.2.2.2 (by omega)
  injection e with e
  injection e with e1 e2
  subst e1
  subst e2
  exact ⟨by simp; omega, by omega, (fun h => by cases h), fun _ => ⟨_, _, rfl, hb, fun j hj => by rw [List.getElem?_take, if_pos (by omega), hv j (by omega)]⟩⟩

/-- what pop answers: two rows of one's own. -/
def PopPost (B n k : Nat) (st : List Int) (e : Ending) (w' : World) : Prop :=
  ∃ A c A' c', e = .returned (.tuple #[.slice A n c, .slice A' k c']) ∧ w'.ownsRow B 3 1 (.slice A n c) n ((st.drop k).map (.int .i64)) ∧ w'.ownsRow B 3 1 (.slice A' k c') k ((st.take k).map (.int .i64))

set_option maxHeartbeats 1000000 in
theorem rpop1 (pc fuel : Int) (st : List Int) (r0 r1 r2 r3 : Int) (ov : Bool) (e0 : Int) (sA : Option Addr) (sc : Nat) (oA : Option Addr) (on oc : Nat) (k : Nat) (w : World) (hs : Sl w 1 sA (k + 1) sc (st.map (.int .i64))) (hk : k ≤ 1000) :
    Calls Try.prog 26 #[.agg (mC pc fuel (.slice sA (k + 1 : Nat) sc) r0 r1 r2 r3 (.slice oA on oc) ov e0), .int .i64 1] w fun e w' => PopPost w.heap.size 1 k st e w' ∧ Below w.heap.size w w' := by
  obtain ⟨i0, hi0, hz0, hz1, hz2⟩ := infoInt
  obtain ⟨b, off, rfl, -, -⟩ := hs.2.2.2 (by omega)
  obtain ⟨wr, hW⟩ : ∃ W, W = w.alloc (.cells (mC pc fuel (.slice (some ⟨b, off, none⟩) (k + 1 : Nat) sc) r0 r1 r2 r3 (.slice oA on oc) ov e0) 32) := ⟨_, rfl⟩
  have B0 : Hid (Below w.heap.size w wr) := Lib.hid (by rw [hW]; exact below_alloc1 _ _)
  have X0 : Hid (Bk wr w.heap.size 32 (mC pc fuel (.slice (some ⟨b, off, none⟩) (k + 1 : Nat) sc) r0 r1 r2 r3 (.slice oA on oc) ov e0)) := Lib.hid (by rw [hW]; exact Bk.new _ _ _)
  have la : Hid (∀ X, Below wr.heap.size wr X → X.cell? ⟨w.heap.size, 2, none⟩ = some (.slice (some ⟨b, off, none⟩) (k + 1 : Nat) sc)) := Lib.hid (fun X hX => (X0.out.below hX).cell 2)
  have hBX : Hid (∀ X, Below wr.heap.size wr X → w.heap.size ≤ X.heap.size) := Lib.hid (fun X hX => Nat.le_trans B0.out.size hX.size)
  have d0 := hs.2.1
  have HL : Hid (Sl w 1 (some ⟨b, off + k, none⟩) 1 (sc - k) ((st.drop k).map (.int .i64))) := Lib.hid (by have := hs.last (by omega); rwa [← List.map_drop] at this)
  have HF : Hid (Sl w 1 (some ⟨b, off, none⟩) k sc ((st.take k).map (.int .i64))) := Lib.hid (by have := hs.front (by omega); rwa [← List.map_take] at this)
  have d1 : (k : Int) ≤ (k : Int) + 1 := by omega
  have d2 : ¬ sc = k := by omega
  have d3 : k ≤ sc := by omega
  clear hs
  go_enter Try.func26, Try.ntmps26
  go_wp2
  rw [← hW]
  clear hW
  try simp only [List.append_eq, List.cons_append, List.nil_append]
  refine wp_region_saysK 12 (fun x y => Below x.heap.size x y) (fun _ _ _ h k => bnext h k) wr (below_drew1 wr) (by kernel_rfl) (by kernel_rfl) (by kernel_rfl) (by kernel_rfl) (by rfl) ?_
  simp only [List.take_succ_cons, List.take_zero, List.drop_succ_cons, List.drop_zero]
  refine walkK_new (noneV w.heap.size 3) (by first | exact gs0 rfl | exact gs1 rfl rfl rfl) (fun v x y hb h => noneV_below v x y hb h) (fun u X hX hd => ⟨_, _, exec_none _ _ _ rfl, below_alloc1 _ _, _, rfl, World.ownsRow_lit X #[] 0 (hBX.out X hX) (by decide) rfl⟩) ?_
  apply walkK_norm
  · first | (simp only [List.nil_append]; rfl) | simp only [List.nil_append]
  refine walkK_is ?_ (by first | exact gs0 rfl | exact gs1 rfl rfl rfl) (fun _ => Below.refl _ _) (fun u X hX hd => ?_) ?_
  rotate_left
  · have e2 := la.out X hX
    try simp at hd
    go_simp
    try rfl
  apply walkK_norm
  · first | (simp only [List.nil_append, List.cons_append]; rfl) | simp only [List.nil_append, List.cons_append]
  refine walkK_is ?_ (by first | exact gs0 rfl | exact gs1 rfl rfl rfl) (fun _ => Below.refl _ _) (fun u X hX hd => ?_) ?_
  rotate_left
  · have e2 := la.out X hX
    try simp at hd
    go_simp
    try rfl
  apply walkK_norm
  · first | (simp only [List.nil_append, List.cons_append]; rfl) | simp only [List.nil_append, List.cons_append]
  refine walkK_is ?_ (by first | exact gs0 rfl | exact gs1 rfl rfl rfl) (fun _ => Below.refl _ _) (fun u X hX hd => ?_) ?_
  rotate_left
  · have e2 := la.out X hX
    try simp at hd
    go_simp
    try rfl
  apply walkK_norm
  · first | (simp only [List.nil_append, List.cons_append]; rfl) | simp only [List.nil_append, List.cons_append]
  refine walkK_is ?_ (by first | exact gs0 rfl | exact gs1 rfl rfl rfl) (fun _ => Below.refl _ _) (fun u X hX hd => ?_) ?_
  rotate_left
  · have e2 := la.out X hX
    try simp at hd
    go_simp
    try rfl
  apply walkK_norm
  · first | (simp only [List.nil_append, List.cons_append]; rfl) | simp only [List.nil_append, List.cons_append]
  refine walkK_new (listV w.heap.size 3 1 ((st.drop k).map (.int .i64))) (by first | exact gs0 rfl | exact gs1 rfl rfl rfl) (fun v x y hb h => listV_below v x y hb h) (fun u X hX hd => ?_) ?_
  · simp at hd
    obtain ⟨⟨g, hg, ho⟩, h4⟩ := hd
    obtain ⟨v, w', hr, hb, hl⟩ := run_append_none (P := Try.prog) X 22 22 w.heap.size 3 i0 _ 8 Try.underlying22 hi0 hz0 hz1 hz2 rfl (hBX.out X hX) g ho _ _ _ _ (HL.out.below (bnext B0.out hX)) (ints_oneC _) (by unfold maxLen; omega) (by omega)
    exact ⟨v, w', exec_append _ _ _ _ _ _ rfl (by go_simp) (by go_simp) hr, hb, hl⟩
  apply walkK_norm
  · first | (simp only [List.nil_append, List.cons_append]; rfl) | simp only [List.nil_append, List.cons_append]
  refine walkK_new (noneV w.heap.size 3) (by first | exact gs0 rfl | exact gs1 rfl rfl rfl) (fun v x y hb h => noneV_below v x y hb h) (fun u X hX hd => ⟨_, _, exec_none _ _ _ rfl, below_alloc1 _ _, _, rfl, World.ownsRow_lit X #[] 0 (hBX.out X hX) (by decide) rfl⟩) ?_
  apply walkK_norm
  · first | (simp only [List.nil_append, List.cons_append]; rfl) | simp only [List.nil_append, List.cons_append]
  refine walkK_is ?_ (by first | exact gs0 rfl | exact gs1 rfl rfl rfl) (fun _ => Below.refl _ _) (fun u X hX hd => ?_) ?_
  rotate_left
  · have e2 := la.out X hX
    try simp at hd
    go_simp
    try rfl
  apply walkK_norm
  · first | (simp only [List.nil_append, List.cons_append]; rfl) | simp only [List.nil_append, List.cons_append]
  refine walkK_is ?_ (by first | exact gs0 rfl | exact gs1 rfl rfl rfl) (fun _ => Below.refl _ _) (fun u X hX hd => ?_) ?_
  rotate_left
  · have e2 := la.out X hX
    try simp at hd
    go_simp
    try rfl
  apply walkK_norm
  · first | (simp only [List.nil_append, List.cons_append]; rfl) | simp only [List.nil_append, List.cons_append]
  refine walkK_is ?_ (by first | exact gs0 rfl | exact gs1 rfl rfl rfl) (fun _ => Below.refl _ _) (fun u X hX hd => ?_) ?_
  rotate_left
  · have e2 := la.out X hX
    try simp at hd
    go_simp
    try rfl
  apply walkK_norm
  · first | (simp only [List.nil_append, List.cons_append]; rfl) | simp only [List.nil_append, List.cons_append]
  refine walkK_is ?_ (by first | exact gs0 rfl | exact gs1 rfl rfl rfl) (fun _ => Below.refl _ _) (fun u X hX hd => ?_) ?_
  rotate_left
  · have e2 := la.out X hX
    try simp at hd
    go_simp
    try rfl
  apply walkK_norm
  · first | (simp only [List.nil_append, List.cons_append]; rfl) | simp only [List.nil_append, List.cons_append]
  refine walkK_new (listV w.heap.size 3 k ((st.take k).map (.int .i64))) (by first | exact gs0 rfl | exact gs1 rfl rfl rfl) (fun v x y hb h => listV_below v x y hb h) (fun u X hX hd => ?_) ?_
  · simp at hd
    obtain ⟨⟨g, hg, ho⟩, h4⟩ := hd
    obtain ⟨v, w', hr, hb, hl⟩ := run_append_none (P := Try.prog) X 22 22 w.heap.size 3 i0 _ 8 Try.underlying22 hi0 hz0 hz1 hz2 rfl (hBX.out X hX) g ho _ _ _ _ (HF.out.below (bnext B0.out hX)) (ints_oneC _) (by unfold maxLen; omega) (by omega)
    exact ⟨v, w', exec_append _ _ _ _ _ _ rfl (by go_simp) (by go_simp) hr, hb, hl⟩
  apply walkK_norm
  · first | (simp only [List.nil_append, List.cons_append]; rfl) | simp only [List.nil_append, List.cons_append]
  intro u X hX hsay
  simp only [sayAll, isV] at hsay
  obtain ⟨-, -, -, -, -, ⟨A, c, v5, ho5, -⟩, -, -, -, -, -, ⟨A', c', v11, ho11, -⟩, -⟩ := hsay
  simp only [putAll, Act.put, v5, v11]
  go_wp2
  go_ret2
  exact ⟨⟨A, c, A', c', rfl, ho5, ho11⟩, bnext B0.out hX⟩

set_option maxHeartbeats 1000000 in
theorem rpop2 (pc fuel : Int) (st : List Int) (r0 r1 r2 r3 : Int) (ov : Bool) (e0 : Int) (sA : Option Addr) (sc : Nat) (oA : Option Addr) (on oc : Nat) (k : Nat) (w : World) (hs : Sl w 1 sA (k + 2) sc (st.map (.int .i64))) (hk : k ≤ 1000) :
    Calls Try.prog 26 #[.agg (mC pc fuel (.slice sA (k + 2 : Nat) sc) r0 r1 r2 r3 (.slice oA on oc) ov e0), .int .i64 2] w fun e w' => PopPost w.heap.size 2 k st e w' ∧ Below w.heap.size w w' := by
  obtain ⟨i0, hi0, hz0, hz1, hz2⟩ := infoInt
  obtain ⟨b, off, rfl, -, -⟩ := hs.2.2.2 (by omega)
  obtain ⟨wr, hW⟩ : ∃ W, W = w.alloc (.cells (mC pc fuel (.slice (some ⟨b, off, none⟩) (k + 2 : Nat) sc) r0 r1 r2 r3 (.slice oA on oc) ov e0) 32) := ⟨_, rfl⟩
  have B0 : Hid (Below w.heap.size w wr) := Lib.hid (by rw [hW]; exact below_alloc1 _ _)
  have X0 : Hid (Bk wr w.heap.size 32 (mC pc fuel (.slice (some ⟨b, off, none⟩) (k + 2 : Nat) sc) r0 r1 r2 r3 (.slice oA on oc) ov e0)) := Lib.hid (by rw [hW]; exact Bk.new _ _ _)
  have la : Hid (∀ X, Below wr.heap.size wr X → X.cell? ⟨w.heap.size, 2, none⟩ = some (.slice (some ⟨b, off, none⟩) (k + 2 : Nat) sc)) := Lib.hid (fun X hX => (X0.out.below hX).cell 2)
  have hBX : Hid (∀ X, Below wr.heap.size wr X → w.heap.size ≤ X.heap.size) := Lib.hid (fun X hX => Nat.le_trans B0.out.size hX.size)
  have d0 := hs.2.1
  have HL : Hid (Sl w 1 (some ⟨b, off + k, none⟩) 2 (sc - k) ((st.drop k).map (.int .i64))) := Lib.hid (by have := hs.last (by omega); rwa [← List.map_drop] at this)
  have HF : Hid (Sl w 1 (some ⟨b, off, none⟩) k sc ((st.take k).map (.int .i64))) := Lib.hid (by have := hs.front (by omega); rwa [← List.map_take] at this)
  have d1 : (k : Int) ≤ (k : Int) + 2 := by omega
  have d2 : ¬ sc = k := by omega
  have d3 : k ≤ sc := by omega
  clear hs
  go_enter Try.func26, Try.ntmps26
  go_wp2
  rw [← hW]
  clear hW
  try simp only [List.append_eq, List.cons_append, List.nil_append]
  refine wp_region_saysK 12 (fun x y => Below x.heap.size x y) (fun _ _ _ h k => bnext h k) wr (below_drew1 wr) (by kernel_rfl) (by kernel_rfl) (by kernel_rfl) (by kernel_rfl) (by rfl) ?_
  simp only [List.take_succ_cons, List.take_zero, List.drop_succ_cons, List.drop_zero]
  refine walkK_new (noneV w.heap.size 3) (by first | exact gs0 rfl | exact gs1 rfl rfl rfl) (fun v x y hb h => noneV_below v x y hb h) (fun u X hX hd => ⟨_, _, exec_none _ _ _ rfl, below_alloc1 _ _, _, rfl, World.ownsRow_lit X #[] 0 (hBX.out X hX) (by decide) rfl⟩) ?_
  apply walkK_norm
  · first | (simp only [List.nil_append]; rfl) | simp only [List.nil_append]
  refine walkK_is ?_ (by first | exact gs0 rfl | exact gs1 rfl rfl rfl) (fun _ => Below.refl _ _) (fun u X hX hd => ?_) ?_
  rotate_left
  · have e2 := la.out X hX
    try simp at hd
    go_simp
    try rfl
  apply walkK_norm
  · first | (simp only [List.nil_append, List.cons_append]; rfl) | simp only [List.nil_append, List.cons_append]
  refine walkK_is ?_ (by first | exact gs0 rfl | exact gs1 rfl rfl rfl) (fun _ => Below.refl _ _) (fun u X hX hd => ?_) ?_
  rotate_left
  · have e2 := la.out X hX
    try simp at hd
    go_simp
    try rfl
  apply walkK_norm
  · first | (simp only [List.nil_append, List.cons_append]; rfl) | simp only [List.nil_append, List.cons_append]
  refine walkK_is ?_ (by first | exact gs0 rfl | exact gs1 rfl rfl rfl) (fun _ => Below.refl _ _) (fun u X hX hd => ?_) ?_
  rotate_left
  · have e2 := la.out X hX
    try simp at hd
    go_simp
    try rfl
  apply walkK_norm
  · first | (simp only [List.nil_append, List.cons_append]; rfl) | simp only [List.nil_append, List.cons_append]
  refine walkK_is ?_ (by first | exact gs0 rfl | exact gs1 rfl rfl rfl) (fun _ => Below.refl _ _) (fun u X hX hd => ?_) ?_
  rotate_left
  · have e2 := la.out X hX
    try simp at hd
    go_simp
    try rfl
  apply walkK_norm
  · first | (simp only [List.nil_append, List.cons_append]; rfl) | simp only [List.nil_append, List.cons_append]
  refine walkK_new (listV w.heap.size 3 2 ((st.drop k).map (.int .i64))) (by first | exact gs0 rfl | exact gs1 rfl rfl rfl) (fun v x y hb h => listV_below v x y hb h) (fun u X hX hd => ?_) ?_
  · simp at hd
    obtain ⟨⟨g, hg, ho⟩, h4⟩ := hd
    obtain ⟨v, w', hr, hb, hl⟩ := run_append_none (P := Try.prog) X 22 22 w.heap.size 3 i0 _ 8 Try.underlying22 hi0 hz0 hz1 hz2 rfl (hBX.out X hX) g ho _ _ _ _ (HL.out.below (bnext B0.out hX)) (ints_oneC _) (by unfold maxLen; omega) (by omega)
    exact ⟨v, w', exec_append _ _ _ _ _ _ rfl (by go_simp) (by go_simp) hr, hb, hl⟩
  apply walkK_norm
  · first | (simp only [List.nil_append, List.cons_append]; rfl) | simp only [List.nil_append, List.cons_append]
  refine walkK_new (noneV w.heap.size 3) (by first | exact gs0 rfl | exact gs1 rfl rfl rfl) (fun v x y hb h => noneV_below v x y hb h) (fun u X hX hd => ⟨_, _, exec_none _ _ _ rfl, below_alloc1 _ _, _, rfl, World.ownsRow_lit X #[] 0 (hBX.out X hX) (by decide) rfl⟩) ?_
  apply walkK_norm
  · first | (simp only [List.nil_append, List.cons_append]; rfl) | simp only [List.nil_append, List.cons_append]
  refine walkK_is ?_ (by first | exact gs0 rfl | exact gs1 rfl rfl rfl) (fun _ => Below.refl _ _) (fun u X hX hd => ?_) ?_
  rotate_left
  · have e2 := la.out X hX
    try simp at hd
    go_simp
    try rfl
  apply walkK_norm
  · first | (simp only [List.nil_append, List.cons_append]; rfl) | simp only [List.nil_append, List.cons_append]
  refine walkK_is ?_ (by first | exact gs0 rfl | exact gs1 rfl rfl rfl) (fun _ => Below.refl _ _) (fun u X hX hd => ?_) ?_
  rotate_left
  · have e2 := la.out X hX
    try simp at hd
    go_simp
    try rfl
  apply walkK_norm
  · first | (simp only [List.nil_append, List.cons_append]; rfl) | simp only [List.nil_append, List.cons_append]
  refine walkK_is ?_ (by first | exact gs0 rfl | exact gs1 rfl rfl rfl) (fun _ => Below.refl _ _) (fun u X hX hd => ?_) ?_
  rotate_left
  · have e2 := la.out X hX
    try simp at hd
    go_simp
    try rfl
  apply walkK_norm
  · first | (simp only [List.nil_append, List.cons_append]; rfl) | simp only [List.nil_append, List.cons_append]
  refine walkK_is ?_ (by first | exact gs0 rfl | exact gs1 rfl rfl rfl) (fun _ => Below.refl _ _) (fun u X hX hd => ?_) ?_
  rotate_left
  · have e2 := la.out X hX
    try simp at hd
    go_simp
    try rfl
  apply walkK_norm
  · first | (simp only [List.nil_append, List.cons_append]; rfl) | simp only [List.nil_append, List.cons_append]
  refine walkK_new (listV w.heap.size 3 k ((st.take k).map (.int .i64))) (by first | exact gs0 rfl | exact gs1 rfl rfl rfl) (fun v x y hb h => listV_below v x y hb h) (fun u X hX hd => ?_) ?_
  · simp at hd
    obtain ⟨⟨g, hg, ho⟩, h4⟩ := hd
    obtain ⟨v, w', hr, hb, hl⟩ := run_append_none (P := Try.prog) X 22 22 w.heap.size 3 i0 _ 8 Try.underlying22 hi0 hz0 hz1 hz2 rfl (hBX.out X hX) g ho _ _ _ _ (HF.out.below (bnext B0.out hX)) (ints_oneC _) (by unfold maxLen; omega) (by omega)
    exact ⟨v, w', exec_append _ _ _ _ _ _ rfl (by go_simp) (by go_simp) hr, hb, hl⟩
  apply walkK_norm
  · first | (simp only [List.nil_append, List.cons_append]; rfl) | simp only [List.nil_append, List.cons_append]
  intro u X hX hsay
  simp only [sayAll, isV] at hsay
  obtain ⟨-, -, -, -, -, ⟨A, c, v5, ho5, -⟩, -, -, -, -, -, ⟨A', c', v11, ho11, -⟩, -⟩ := hsay
  simp only [putAll, Act.put, v5, v11]
  go_wp2
  go_ret2
  exact ⟨⟨A, c, A', c', rfl, ho5, ho11⟩, bnext B0.out hX⟩

end Go.Proofs.Ytehaknnoplcbcaa
