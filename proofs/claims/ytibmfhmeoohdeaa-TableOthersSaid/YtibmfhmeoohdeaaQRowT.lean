/-
  Words and contracts of this claim, 8 texts laid into one, each under its own remark. No conditions but those that stand at each.
-/
import Derived.Test.YtibmfhmeoohdeaaQRely
import Derived.Test.YtibmfhmeoohdeaaZRowX
import Derived.Test.YtibmfhmeoohdeaaZMchA
import Derived.Test.YtibmfhmeoohdeaaQMchM
import Derived.Test.YtibmfhmeoohdeaaZCelR
import Derived.Test.YtibmfhmeoohdeaaZMchH
import Derived.Test.YtibmfhmeoohdeaaZMchK
import Derived.Test.YtibmfhmeoohdeaaZAppSl

/-
  Statements whose order is open that append: to an empty list of their own, and one value behind it. What their operations leave, one look at each. They name no function of the program. No conditions but those that stand there.
-/
namespace Go.Proofs.Ytibmfhmeoohdeaa
open Go Go.RowKit

/-- 'B' and above, of type 'e': rows as they were, or with 'u' at place 'n'; all below 'B' as it was. -/
def TurnR (B : Nat) (e : TypeId) (n : Nat) (u : Value) (x y : World) : Prop :=
  Below B x y ∧ ∀ g cur, B ≤ g → Bk x g e cur → Bk y g e cur ∨ (1 ≤ n ∧ n < cur.size ∧ Bk y g e (cur.setIfInBounds n u))

theorem TurnR.trans {B : Nat} {e : TypeId} {n : Nat} {u : Value} (x y z : World) (h : TurnR B e n u x y) (k : TurnR B e n u y z) : TurnR B e n u x z := by
  refine ⟨h.1.trans k.1, fun g cur hg hb => ?_⟩
  rcases h.2 g cur hg hb with h1 | ⟨n1, n2, h1⟩
  · exact k.2 g cur hg h1
  · rcases k.2 g _ hg h1 with h2 | ⟨_, _, h2⟩
    · exact .inr ⟨n1, n2, h2⟩
    · refine .inr ⟨n1, n2, ?_⟩
      rw [show (cur.setIfInBounds n u).setIfInBounds n u = cur.setIfInBounds n u by
        apply Array.ext_getElem?
        intro j
        simp only [Array.getElem?_setIfInBounds, Array.size_setIfInBounds]
        split <;> simp_all] at h2
      exact h2

theorem TurnR.refl {B : Nat} {e : TypeId} {n : Nat} {u : Value} (x : World) : TurnR B e n u x x := ⟨Below.refl _ _, fun _ _ _ hb => .inl hb⟩

theorem TurnR.of {B : Nat} {e : TypeId} {n : Nat} {u : Value} {x y : World} (hB : B ≤ x.heap.size) (h : Below x.heap.size x y) : TurnR B e n u x y :=
  ⟨h.mono hB, fun _ _ _ hb => .inl (hb.below h)⟩

/-- a row of one's own whose used part ends where it turns, or holds what it turns to. -/
theorem own_turn {B : Nat} {e : TypeId} {n k : Nat} {u : Value} {x y : World} {v : Value} {xs : List Value} (h : x.ownsRow B e 1 v k xs) (hT : TurnR B e n u x y) (hk : 1 ≤ n → k ≤ n ∨ (k = n + 1 ∧ xs[n]? = some u)) : y.ownsRow B e 1 v k xs := by
  refine ⟨h.1, ?_⟩
  rcases h.2 with h0 | ⟨g, cap, cur, hv, hb, hg, hnc, hcm, hcs, ht⟩
  · exact .inl h0
  · rcases hT.2 g cur hb hg with h1 | ⟨n1, n2, h1⟩
    · exact .inr ⟨g, cap, cur, hv, hb, h1, hnc, hcm, hcs, ht⟩
    · refine .inr ⟨g, cap, _, hv, hb, h1, hnc, hcm, by rw [Array.size_setIfInBounds]; exact hcs, ?_⟩
      rw [← ht, Nat.mul_one]
      apply List.ext_getElem?
      intro j
      rw [List.getElem?_take, List.getElem?_take]
      by_cases hj : j < k
      · rw [if_pos hj, if_pos hj, Array.getElem?_toList, Array.getElem?_toList, Array.getElem?_setIfInBounds]
        by_cases hjn : n = j
        · subst hjn
          rw [if_pos rfl, if_pos n2]
          rcases hk n1 with hk | ⟨hk, hu⟩
          · omega
          · rw [← ht, Nat.mul_one, List.getElem?_take, if_pos hj, Array.getElem?_toList] at hu
            exact hu.symm
        · rw [if_neg hjn]
      · rw [if_neg hj, if_neg hj]

/-- an empty list of one's own. -/
def noneV (B : Nat) (e : TypeId) : Says := fun v w => ∃ g, v = .slice (some ⟨g, 0, none⟩) 0 0 ∧ w.ownsRow B e 1 (.slice (some ⟨g, 0, none⟩) 0 0) 0 []
/-- a list of one's own; empty, it has no room. -/
def listV (B : Nat) (e : TypeId) (n : Nat) (xs : List Value) : Says := fun v w => ∃ A c, v = .slice A n c ∧ w.ownsRow B e 1 (.slice A n c) n xs ∧ (n = 0 → c = 0)
/-- one value in a block of its own. -/
def singV (B : Nat) (e : TypeId) (u : Value) : Says := fun v w => ∃ g, v = .slice (some ⟨g, 0, none⟩) 1 1 ∧ w.ownsRow B e 1 (.slice (some ⟨g, 0, none⟩) 1 1) 1 [u]
/-- a list and one more. -/
def moreV (B : Nat) (e : TypeId) (n : Nat) (xs : List Value) (u : Value) : Says := fun v w => ∃ g c, v = .slice (some ⟨g, 0, none⟩) (n + 1) c ∧ w.ownsRow B e 1 (.slice (some ⟨g, 0, none⟩) (n + 1) c) (n + 1) (xs ++ [u])

section
variable {B : Nat} {e : TypeId} {n : Nat} {u : Value}
theorem noneV_turn (v : Value) (x y : World) (hT : TurnR B e n u x y) (h : noneV B e v x) : noneV B e v y := by
  obtain ⟨g, rfl, ho⟩ := h
  exact ⟨g, rfl, own_turn ho hT (fun _ => .inl (Nat.zero_le _))⟩
theorem listV_turn {xs : List Value} (v : Value) (x y : World) (hT : TurnR B e n u x y) (h : listV B e n xs v x) : listV B e n xs v y := by
  obtain ⟨A, c, rfl, ho, h0⟩ := h
  exact ⟨A, c, rfl, own_turn ho hT (fun _ => .inl (Nat.le_refl _)), h0⟩
theorem singV_turn {z : Value} (v : Value) (x y : World) (hT : TurnR B e n u x y) (h : singV B e z v x) : singV B e z v y := by
  obtain ⟨g, rfl, ho⟩ := h
  exact ⟨g, rfl, own_turn ho hT (fun h => .inl h)⟩
theorem moreV_turn {xs : List Value} (v : Value) (x y : World) (hT : TurnR B e n u x y) (h : moreV B e n xs u v x) : moreV B e n xs u v y := by
  obtain ⟨g, c, rfl, ho⟩ := h
  have hl : xs.length = n := by have := ho.1; simp at this; omega
  exact ⟨g, c, rfl, own_turn ho hT (fun _ => .inr ⟨rfl, by rw [List.getElem?_append_right (by omega)]; simp [hl]⟩)⟩
theorem noneV_below (v : Value) (x y : World) (hb : Below x.heap.size x y) (h : noneV B e v x) : noneV B e v y := by
  obtain ⟨g, rfl, ho⟩ := h
  exact ⟨g, rfl, own_below ho hb⟩
theorem listV_below {xs : List Value} (v : Value) (x y : World) (hb : Below x.heap.size x y) (h : listV B e n xs v x) : listV B e n xs v y := by
  obtain ⟨A, c, rfl, ho, h0⟩ := h
  exact ⟨A, c, rfl, own_below ho hb, h0⟩
end

theorem below_setRow_same {w : World} {g : Nat} {e : TypeId} {cs : Array Value} (h : Bk w g e cs) : Below w.heap.size w (w.setRow g cs) :=
  ⟨rfl, rfl, rfl, by simp, fun k hk => by
    by_cases e' : k = g
    · subst e'
      exact (setRow_heap w k cs cs e _ h).trans h.symm
    · exact setRow_other w g k cs e'⟩

/-- append of a list to an empty one of one's own. -/
theorem run_append_none {P : Program} (w : World) (t ty : TypeId) (B : Nat) (e : TypeId) (i : TypeInfo) (z : Value) (bytes : Nat) (ht : P.underlying t = some (.slice e)) (hi : P.info? e = some i) (hz : i.zero = some z)
    (hsize : i.size = 1) (hby : i.bytes = bytes) (hzs : z.cells.size = 1) (hB : B ≤ w.heap.size)
    (g : Nat) (ho : w.ownsRow B e 1 (.slice (some ⟨g, 0, none⟩) 0 0) 0 []) (A : Option Addr) (n c : Nat) (xs : List Value) (hr : Sl w 1 A n c xs) (h1 : ∀ u ∈ xs, u.oneCell' = true) (hn : n ≤ maxLen) (hbytes : n * bytes ≤ 140737488355328) :
    ∃ v w', (Builtin.append_ #[t, t] ty #[.slice (some ⟨g, 0, none⟩) 0 0, .slice A n c]).run P w = .ok v w' ∧ Below w.heap.size w w' ∧ listV B e n xs v w' := by
  have hcur : ∃ cur, Bk w g e cur ∧ cur.size = 0 := by
    rcases ho.2 with ⟨h, _⟩ | ⟨g', cap, cur, hv, hb, hg, hnc, hcm, hcs, _⟩
    · cases h
    · injection hv with h1 _ h3
      injection h1 with h1
      injection h1 with h1
      subst h1
      subst h3
      exact ⟨cur, hg, by simpa using hcs⟩
  obtain ⟨cur, hg, hc0⟩ := hcur
  obtain rfl : cur = #[] := Array.eq_empty_of_size_eq_zero hc0
  by_cases h0 : n = 0
  · subst h0
    obtain rfl : xs = [] := List.eq_nil_of_length_eq_zero (by simpa using hr.1)
    cases A with
    | none =>
      obtain ⟨_, rfl⟩ := hr.2.2.1 rfl
      refine ⟨.slice (some ⟨g, 0, none⟩) 0 0, w, ?_, Below.refl _ _, _, _, rfl, ho, fun _ => rfl⟩
      simp [Builtin.append_, run_underlying ht, sizeOf, typeInfo, hi, Builtin.lenOf, Builtin.firstCells, storeCells]
    | some a =>
      have hrun := run_append_room (P := P) w t ty e i ht hi g 0 0 #[] hg a 0 c [] (by simp) (by simp) (by simp) (by simp) (by simp)
      refine ⟨_, _, hrun, ?_, _, _, rfl, ?_, fun _ => rfl⟩
      · simpa using below_setRow_same hg
      · have hb := below_setRow_same hg
        have := own_below ho hb
        simpa using this
  · obtain ⟨b, off, rfl, hb, hcell⟩ := hr.2.2.2 (by omega)
    have hbt : n * i.bytes ≤ 140737488355328 := by rw [hby]; exact hbytes
    have hrun := run_append_grow (P := P) w t ty e i z ht hi hz ⟨g, 0, none⟩ 0 0 [] (by simp) (by simp) ⟨b, off, none⟩ n c xs (by rw [hsize]; exact hr.1) (fun j v hj => hr.olds _ rfl j v hj) (by omega) (by unfold maxLen at hn; omega) (growslice_fits (by omega) (by simpa using hbt))
    rw [Nat.zero_add] at hrun
    have hge := grownCap_ge w n 0 e
    have hcm : grownCap w n 0 e ≤ maxLen := grownCap_le_maxLen w n 0 e hn
    have hl := hr.1
    rw [Nat.mul_one] at hl
    refine ⟨_, _, hrun, (below_drew1 w).alloc (by simp) _, _, _, rfl, ⟨by simpa using hl, .inr ⟨w.heap.size, _, _, rfl, hB, heap_alloc_new w.drew _, hge, hcm, ?_, ?_⟩⟩, fun h => absurd h h0⟩
    · simp only [Array.size_append, List.size_toArray, size_zeroCells, hzs, hl, List.length_nil]
      omega
    · simp only [Array.toList_append, List.nil_append, Nat.mul_one]
      rw [← hl]
      exact List.take_left

/-- append of one value to a list of one's own: nothing turns but one place. -/
theorem run_append_sing {P : Program} (w : World) (t ty : TypeId) (B : Nat) (e : TypeId) (i : TypeInfo) (z : Value) (bytes : Nat) (ht : P.underlying t = some (.slice e)) (hi : P.info? e = some i) (hz : i.zero = some z)
    (hsize : i.size = 1) (hby : i.bytes = bytes) (hzs : z.cells.size = 1) (hB : B ≤ w.heap.size)
    (A : Option Addr) (n c : Nat) (xs : List Value) (ho : w.ownsRow B e 1 (.slice A n c) n xs) (h0 : n = 0 → c = 0) (u : Value) (g : Nat) (hs : w.ownsRow B e 1 (.slice (some ⟨g, 0, none⟩) 1 1) 1 [u]) (h1 : u.oneCell' = true) (hn : n + 1 ≤ maxLen) (hbytes : (n + 1) * bytes ≤ 140737488355328) :
    ∃ v w', (Builtin.append_ #[t, t] ty #[.slice A n c, .slice (some ⟨g, 0, none⟩) 1 1]).run P w = .ok v w' ∧ TurnR B e n u w w' ∧ moreV B e n xs u v w' := by
  have hnews : ∀ j v, ([u] : List Value)[j]? = some v → w.cell? ((⟨g, 0, none⟩ : Addr).add j) = some v := hs.cells (g := g) rfl
  have hl := ho.1
  rw [Nat.mul_one] at hl
  have grown : ∀ (old : Nat), old < n + 1 → Below w.heap.size w (w.drew.alloc (.cells (xs.toArray ++ #[u] ++ Builtin.zeroCells z.cells (grownCap w (n + 1) old e - (n + 1))) e)) ∧
      moreV B e n xs u (.slice (some ⟨w.heap.size, 0, none⟩) (n + 1) (grownCap w (n + 1) old e)) (w.drew.alloc (.cells (xs.toArray ++ #[u] ++ Builtin.zeroCells z.cells (grownCap w (n + 1) old e - (n + 1))) e)) := by
    intro old hold
    have hge := grownCap_ge w (n + 1) old e
    have hcm : grownCap w (n + 1) old e ≤ maxLen := grownCap_le_maxLen w (n + 1) old e hn
    refine ⟨(below_drew1 w).alloc (by simp) _, _, _, rfl, by simp [hl], .inr ⟨w.heap.size, _, _, rfl, hB, heap_alloc_new w.drew _, hge, hcm, ?_, ?_⟩⟩
    · simp only [Array.size_append, List.size_toArray, size_zeroCells, hzs, hl, List.length_singleton]
      omega
    · simp only [Array.toList_append, Nat.mul_one]
      rw [show n + 1 = (xs ++ [u]).length by simp [hl]]
      exact List.take_left
  rcases ho.2 with ⟨h, hn0⟩ | ⟨g', cap, cur, hv, hbg, hg, hnc, hcm, hcs, htake⟩
  · injection h with hA _ hc
    subst hA
    subst hc
    subst hn0
    obtain rfl : xs = [] := List.eq_nil_of_length_eq_zero hl
    have hb : (0 + 1) * i.bytes ≤ 140737488355328 := by rw [hby]; exact hbytes
    have hrun := run_append_nil (P := P) w t ty e i z ht hi hz ⟨g, 0, none⟩ 1 1 [u] (by simp [hsize]) hnews (by omega) (by omega) (by omega)
    obtain ⟨k1, k2⟩ := grown 0 (by omega)
    exact ⟨_, _, hrun, TurnR.of hB (by simpa using k1), by simpa using k2⟩
  · injection hv with hA _ hc
    subst hA
    subst hc
    by_cases hroom : n + 1 ≤ c
    · have hn1 : 1 ≤ n := by
        rcases Nat.eq_zero_or_pos n with h | h
        · have := h0 h; omega
        · exact h
      have hcs' : cur.size = c := by simpa using hcs
      have hrun := run_append_room (P := P) w t ty e i ht hi g' n c cur hg ⟨g, 0, none⟩ 1 1 [u] (by simp [hsize]) hnews (by simpa using h1) hroom (by rw [hsize, hcs']; simp; omega)
      have hset : (cur.toList.take (n * i.size) ++ [u] ++ cur.toList.drop (n * i.size + [u].length)).toArray = cur.setIfInBounds n u := by
        apply Array.ext_getElem?
        intro j
        rw [hsize, Nat.mul_one, List.getElem?_toArray, Array.getElem?_setIfInBounds, List.append_assoc]
        rcases Nat.lt_trichotomy j n with hj | hj | hj
        · rw [List.getElem?_append_left (by simp; omega), List.getElem?_take, if_pos hj, if_neg (by omega), Array.getElem?_toList]
        · subst hj
          rw [List.getElem?_append_right (by simp; omega), if_pos rfl, if_pos (by omega)]
          simp [show min j cur.size = j by omega]
        · rw [List.getElem?_append_right (by simp; omega), List.getElem?_append_right (by simp; omega), if_neg (by omega), List.getElem?_drop]
          simp only [List.length_singleton, List.length_take, Array.length_toList, Nat.min_eq_left (show n ≤ cur.size by omega), Array.getElem?_toList]
          congr 1
          omega
      rw [hset] at hrun
      have hbk : Bk (w.setRow g' (cur.setIfInBounds n u)) g' e (cur.setIfInBounds n u) := setRow_heap w g' cur _ e _ hg
      refine ⟨_, _, hrun, ⟨below_row (Below.refl _ _) hbg _, fun k cur' hk hb => ?_⟩, _, _, rfl, by simp [hl], .inr ⟨g', c, _, rfl, hbg, hbk, hroom, hcm, by simp [hcs'], ?_⟩⟩
      · by_cases ek : k = g'
        · subst ek
          have heq : cur' = cur := by
            have h2 : w.heap[k]? = some (.cells cur e (0, 0)) := hg
            unfold Bk at hb
            rw [h2] at hb
            injection hb with hb
            injection hb with hb
            exact hb.symm
          subst heq
          exact .inr ⟨hn1, by omega, hbk⟩
        · exact .inl ((setRow_other w g' k _ ek).trans hb)
      · rw [Nat.mul_one] at htake ⊢
        apply List.ext_getElem?
        intro j
        rw [List.getElem?_take, Array.getElem?_toList, Array.getElem?_setIfInBounds]
        rcases Nat.lt_trichotomy j n with hj | hj | hj
        · rw [if_pos (by omega), if_neg (by omega), List.getElem?_append_left (by omega), ← htake, List.getElem?_take, if_pos hj, Array.getElem?_toList]
        · subst hj
          rw [if_pos (by omega), if_pos rfl, if_pos (by omega), List.getElem?_append_right (by omega)]
          simp [hl]
        · rw [if_neg (by omega), List.getElem?_append_right (by omega), List.getElem?_eq_none (by simp; omega)]
    · have holds : ∀ j v, xs[j]? = some v → w.cell? ((⟨g', 0, none⟩ : Addr).add j) = some v := ho.cells (g := g') rfl
      have hb : (n + 1) * i.bytes ≤ 140737488355328 := by rw [hby]; exact hbytes
      have hrun := run_append_grow (P := P) w t ty e i z ht hi hz ⟨g', 0, none⟩ n c xs (by rw [hsize]; exact ho.1) holds ⟨g, 0, none⟩ 1 1 [u] (by simp [hsize]) hnews (by omega) (by unfold maxLen at hn; omega) (growslice_fits (by omega) hb)
      obtain ⟨k1, k2⟩ := grown c (by omega)
      exact ⟨_, _, hrun, TurnR.of hB k1, k2⟩

end Go.Proofs.Ytibmfhmeoohdeaa

/-
  What the reference's pop (of one, of two) of layer 10 answers, in whatever memory: two lists of one's own. No conditions but those that stand there.
-/
namespace Go.Proofs.Ytibmfhmeoohdeaa
open Go.RowKit
attribute [local go_sem] look findAt
attribute [local simp] depsOf isV Region.binds

theorem exec_append {P : Program} (ρ : Operand → Value) (w : World) (o : Oper) (s x : Operand) (t : TypeId) (ho : o.op = .call { callee := .builtin .append, args := #[s, x], argTypes := #[t, t] }) {v1 v2 v : Value} {w' : World} (hs : ρ s = v1) (hx : ρ x = v2)
    (hr : (Builtin.append_ #[t, t] o.type #[v1, v2]).run P w = .ok v w') : (execOp ρ o).run P w = .ok (.value v) w' := by
  unfold execOp
  simp only [ho, resolve, invoke, builtin, Sem.run_bind, Sem.run_pure, Result.andThen_ok, List.map_toArray, List.map_cons, List.map_nil, hs, hx, hr]

theorem exec_none (ρ : Operand → Value) (w : World) (o : Oper) (ho : o.op = .buildSlice 23 0 #[]) : (execOp ρ o).run Try.prog w = .ok (.value (.slice (some ⟨w.heap.size, 0, none⟩) 0 0)) (w.alloc (.cells #[] 3)) := by
  unfold execOp
  simp only [ho]
  go_simp

theorem exec_sing (ρ : Operand → Value) (w : World) (o : Oper) (x : Operand) (ho : o.op = .buildSlice 23 1 #[(0, x)]) {n : Int} (hx : ρ x = .int .i64 n) : (execOp ρ o).run Try.prog w = .ok (.value (.slice (some ⟨w.heap.size, 0, none⟩) 1 1)) (w.alloc (.cells #[.int .i64 n] 3)) := by
  unfold execOp
  simp only [ho]
  go_simp

/-- the last ones of a list, and the first ones. -/
theorem Sl.last {w : World} {b off n k c : Nat} {xs : List Value} (h : Sl w 1 (some ⟨b, off, none⟩) (k + n) c xs) (hn : 0 < n) : Sl w 1 (some ⟨b, off + k, none⟩) n (c - k) (xs.drop k) := by
  have hl := h.1
  have hc := h.2.1
  obtain ⟨b', off', e, hb, hv⟩ := h.2.2.2 (by omega)
  injection e with e
  injection e with e1 e2
  subst e1
  subst e2
  exact ⟨by simp; omega, by omega, (fun h => by cases h), fun _ => ⟨_, _, rfl, hb, fun j hj => by rw [List.getElem?_drop, Nat.add_assoc, hv (k + j) (by omega)]⟩⟩
theorem Sl.front {w : World} {b off n k c : Nat} {xs : List Value} (h : Sl w 1 (some ⟨b, off, none⟩) (k + n) c xs) (hn : 0 < n) : Sl w 1 (some ⟨b, off, none⟩) k c (xs.take k) := by
  have hl := h.1
  have hc := h.2.1
  obtain ⟨b', off', e, hb, hv⟩ := h.2.2.2 (by omega)
  injection e with e
  injection e with e1 e2
  subst e1
  subst e2
  exact ⟨by simp; omega, by omega, (fun h => by cases h), fun _ => ⟨_, _, rfl, hb, fun j hj => by rw [List.getElem?_take, if_pos (by omega), hv j (by omega)]⟩⟩

/-- what pop answers: two rows of one's own. -/
def PopPost (B n k : Nat) (st : List Int) (e : Ending) (w' : World) : Prop :=
  ∃ A c A' c', e = .returned (.tuple #[.slice A n c, .slice A' k c']) ∧ w'.ownsRow B 3 1 (.slice A n c) n ((st.drop k).map (.int .i64)) ∧ w'.ownsRow B 3 1 (.slice A' k c') k ((st.take k).map (.int .i64))

set_option maxHeartbeats 1000000 in
theorem rpop1 (pc fuel : Int) (st : List Int) (r0 r1 r2 r3 : Int) (ov : Bool) (e0 : Int) (sA : Option Addr) (sc : Nat) (oA : Option Addr) (on oc : Nat) (k : Nat) (w : World) (hs : Sl w 1 sA (k + 1) sc (st.map (.int .i64))) (hk : k ≤ 1000) :
    Calls Try.prog 47 #[.agg (mC pc fuel (.slice sA (k + 1 : Nat) sc) r0 r1 r2 r3 (.slice oA on oc) ov e0), .int .i64 1] w fun e w' => PopPost w.heap.size 1 k st e w' ∧ Below w.heap.size w w' := by
  obtain ⟨i0, hi0, hz0, hz1, hz2⟩ := infoInt
  obtain ⟨b, off, rfl, -, -⟩ := hs.2.2.2 (by omega)
  obtain ⟨wr, hW⟩ : ∃ W, W = w.alloc (.cells (mC pc fuel (.slice (some ⟨b, off, none⟩) (k + 1 : Nat) sc) r0 r1 r2 r3 (.slice oA on oc) ov e0) 54) := ⟨_, rfl⟩
  have B0 : Hid (Below w.heap.size w wr) := Lib.hid (by rw [hW]; exact below_alloc1 _ _)
  have X0 : Hid (Bk wr w.heap.size 54 (mC pc fuel (.slice (some ⟨b, off, none⟩) (k + 1 : Nat) sc) r0 r1 r2 r3 (.slice oA on oc) ov e0)) := Lib.hid (by rw [hW]; exact Bk.new _ _ _)
  have la : Hid (∀ X, Below wr.heap.size wr X → X.cell? ⟨w.heap.size, 2, none⟩ = some (.slice (some ⟨b, off, none⟩) (k + 1 : Nat) sc)) := Lib.hid (fun X hX => (X0.out.below hX).cell 2)
  have hBX : Hid (∀ X, Below wr.heap.size wr X → w.heap.size ≤ X.heap.size) := Lib.hid (fun X hX => Nat.le_trans B0.out.size hX.size)
  have d0 := hs.2.1
  have HL : Hid (Sl w 1 (some ⟨b, off + k, none⟩) 1 (sc - k) ((st.drop k).map (.int .i64))) := Lib.hid (by have := hs.last (by omega); rwa [← List.map_drop] at this)
  have HF : Hid (Sl w 1 (some ⟨b, off, none⟩) k sc ((st.take k).map (.int .i64))) := Lib.hid (by have := hs.front (by omega); rwa [← List.map_take] at this)
  have d1 : (k : Int) ≤ (k : Int) + 1 := by omega
  have d2 : ¬ sc = k := by omega
  have d3 : k ≤ sc := by omega
  clear hs
  go_enter Try.func47, Try.ntmps47
  go_wp2
  rw [← hW]
  clear hW
  try simp only [List.append_eq, List.cons_append, List.nil_append]
  refine wp_region_saysK 12 (fun x y => Below x.heap.size x y) (fun _ _ _ h k => bnext h k) wr (below_drew1 wr) (by kernel_rfl) (by kernel_rfl) (by kernel_rfl) (by kernel_rfl) (by rfl) ?_
  simp only [List.take_succ_cons, List.take_zero, List.drop_succ_cons, List.drop_zero]
  refine walkK_new (noneV w.heap.size 3) (by first | exact gs0 rfl | exact gs1 rfl rfl rfl) (fun v x y hb h => noneV_below v x y hb h) (fun u X hX hd => ⟨_, _, exec_none _ _ _ rfl, below_alloc1 _ _, _, rfl, World.ownsRow_lit X #[] 0 (hBX.out X hX) (by decide) rfl⟩) ?_
  apply walkK_norm
  · first | (simp only [List.nil_append]; rfl) | simp only [List.nil_append]
  refine walkK_is ?_ (by first | exact gs0 rfl | exact gs1 rfl rfl rfl) (fun _ => Below.refl _ _) (fun u X hX hd => ?_) ?_
  rotate_left
  · have e2 := la.out X hX
    try simp at hd
    go_simp
    try rfl
  apply walkK_norm
  · first | (simp only [List.nil_append, List.cons_append]; rfl) | simp only [List.nil_append, List.cons_append]
  refine walkK_is ?_ (by first | exact gs0 rfl | exact gs1 rfl rfl rfl) (fun _ => Below.refl _ _) (fun u X hX hd => ?_) ?_
  rotate_left
  · have e2 := la.out X hX
    try simp at hd
    go_simp
    try rfl
  apply walkK_norm
  · first | (simp only [List.nil_append, List.cons_append]; rfl) | simp only [List.nil_append, List.cons_append]
  refine walkK_is ?_ (by first | exact gs0 rfl | exact gs1 rfl rfl rfl) (fun _ => Below.refl _ _) (fun u X hX hd => ?_) ?_
  rotate_left
  · have e2 := la.out X hX
    try simp at hd
    go_simp
    try rfl
  apply walkK_norm
  · first | (simp only [List.nil_append, List.cons_append]; rfl) | simp only [List.nil_append, List.cons_append]
  refine walkK_is ?_ (by first | exact gs0 rfl | exact gs1 rfl rfl rfl) (fun _ => Below.refl _ _) (fun u X hX hd => ?_) ?_
  rotate_left
  · have e2 := la.out X hX
    try simp at hd
    go_simp
    try rfl
  apply walkK_norm
  · first | (simp only [List.nil_append, List.cons_append]; rfl) | simp only [List.nil_append, List.cons_append]
  refine walkK_new (listV w.heap.size 3 1 ((st.drop k).map (.int .i64))) (by first | exact gs0 rfl | exact gs1 rfl rfl rfl) (fun v x y hb h => listV_below v x y hb h) (fun u X hX hd => ?_) ?_
  · simp at hd
    obtain ⟨⟨g, hg, ho⟩, h4⟩ := hd
    obtain ⟨v, w', hr, hb, hl⟩ := run_append_none (P := Try.prog) X 23 23 w.heap.size 3 i0 _ 8 Try.underlying23 hi0 hz0 hz1 hz2 rfl (hBX.out X hX) g ho _ _ _ _ (HL.out.below (bnext B0.out hX)) (ints_oneC _) (by unfold maxLen; omega) (by omega)
    exact ⟨v, w', exec_append _ _ _ _ _ _ rfl (by go_simp) (by go_simp) hr, hb, hl⟩
  apply walkK_norm
  · first | (simp only [List.nil_append, List.cons_append]; rfl) | simp only [List.nil_append, List.cons_append]
  refine walkK_new (noneV w.heap.size 3) (by first | exact gs0 rfl | exact gs1 rfl rfl rfl) (fun v x y hb h => noneV_below v x y hb h) (fun u X hX hd => ⟨_, _, exec_none _ _ _ rfl, below_alloc1 _ _, _, rfl, World.ownsRow_lit X #[] 0 (hBX.out X hX) (by decide) rfl⟩) ?_
  apply walkK_norm
  · first | (simp only [List.nil_append, List.cons_append]; rfl) | simp only [List.nil_append, List.cons_append]
  refine walkK_is ?_ (by first | exact gs0 rfl | exact gs1 rfl rfl rfl) (fun _ => Below.refl _ _) (fun u X hX hd => ?_) ?_
  rotate_left
  · have e2 := la.out X hX
    try simp at hd
    go_simp
    try rfl
  apply walkK_norm
  · first | (simp only [List.nil_append, List.cons_append]; rfl) | simp only [List.nil_append, List.cons_append]
  refine walkK_is ?_ (by first | exact gs0 rfl | exact gs1 rfl rfl rfl) (fun _ => Below.refl _ _) (fun u X hX hd => ?_) ?_
  rotate_left
  · have e2 := la.out X hX
    try simp at hd
    go_simp
    try rfl
  apply walkK_norm
  · first | (simp only [List.nil_append, List.cons_append]; rfl) | simp only [List.nil_append, List.cons_append]
  refine walkK_is ?_ (by first | exact gs0 rfl | exact gs1 rfl rfl rfl) (fun _ => Below.refl _ _) (fun u X hX hd => ?_) ?_
  rotate_left
  · have e2 := la.out X hX
    try simp at hd
    go_simp
    try rfl
  apply walkK_norm
  · first | (simp only [List.nil_append, List.cons_append]; rfl) | simp only [List.nil_append, List.cons_append]
  refine walkK_is ?_ (by first | exact gs0 rfl | exact gs1 rfl rfl rfl) (fun _ => Below.refl _ _) (fun u X hX hd => ?_) ?_
  rotate_left
  · have e2 := la.out X hX
    try simp at hd
    go_simp
    try rfl
  apply walkK_norm
  · first | (simp only [List.nil_append, List.cons_append]; rfl) | simp only [List.nil_append, List.cons_append]
  refine walkK_new (listV w.heap.size 3 k ((st.take k).map (.int .i64))) (by first | exact gs0 rfl | exact gs1 rfl rfl rfl) (fun v x y hb h => listV_below v x y hb h) (fun u X hX hd => ?_) ?_
  · simp at hd
    obtain ⟨⟨g, hg, ho⟩, h4⟩ := hd
    obtain ⟨v, w', hr, hb, hl⟩ := run_append_none (P := Try.prog) X 23 23 w.heap.size 3 i0 _ 8 Try.underlying23 hi0 hz0 hz1 hz2 rfl (hBX.out X hX) g ho _ _ _ _ (HF.out.below (bnext B0.out hX)) (ints_oneC _) (by unfold maxLen; omega) (by omega)
    exact ⟨v, w', exec_append _ _ _ _ _ _ rfl (by go_simp) (by go_simp) hr, hb, hl⟩
  apply walkK_norm
  · first | (simp only [List.nil_append, List.cons_append]; rfl) | simp only [List.nil_append, List.cons_append]
  intro u X hX hsay
  simp only [sayAll, isV] at hsay
  obtain ⟨-, -, -, -, -, ⟨A, c, v5, ho5, -⟩, -, -, -, -, -, ⟨A', c', v11, ho11, -⟩, -⟩ := hsay
  simp only [putAll, Act.put, v5, v11]
  go_wp2
  go_ret2
  exact ⟨⟨A, c, A', c', rfl, ho5, ho11⟩, bnext B0.out hX⟩

set_option maxHeartbeats 1000000 in
theorem rpop2 (pc fuel : Int) (st : List Int) (r0 r1 r2 r3 : Int) (ov : Bool) (e0 : Int) (sA : Option Addr) (sc : Nat) (oA : Option Addr) (on oc : Nat) (k : Nat) (w : World) (hs : Sl w 1 sA (k + 2) sc (st.map (.int .i64))) (hk : k ≤ 1000) :
    Calls Try.prog 47 #[.agg (mC pc fuel (.slice sA (k + 2 : Nat) sc) r0 r1 r2 r3 (.slice oA on oc) ov e0), .int .i64 2] w fun e w' => PopPost w.heap.size 2 k st e w' ∧ Below w.heap.size w w' := by
  obtain ⟨i0, hi0, hz0, hz1, hz2⟩ := infoInt
  obtain ⟨b, off, rfl, -, -⟩ := hs.2.2.2 (by omega)
  obtain ⟨wr, hW⟩ : ∃ W, W = w.alloc (.cells (mC pc fuel (.slice (some ⟨b, off, none⟩) (k + 2 : Nat) sc) r0 r1 r2 r3 (.slice oA on oc) ov e0) 54) := ⟨_, rfl⟩
  have B0 : Hid (Below w.heap.size w wr) := Lib.hid (by rw [hW]; exact below_alloc1 _ _)
  have X0 : Hid (Bk wr w.heap.size 54 (mC pc fuel (.slice (some ⟨b, off, none⟩) (k + 2 : Nat) sc) r0 r1 r2 r3 (.slice oA on oc) ov e0)) := Lib.hid (by rw [hW]; exact Bk.new _ _ _)
  have la : Hid (∀ X, Below wr.heap.size wr X → X.cell? ⟨w.heap.size, 2, none⟩ = some (.slice (some ⟨b, off, none⟩) (k + 2 : Nat) sc)) := Lib.hid (fun X hX => (X0.out.below hX).cell 2)
  have hBX : Hid (∀ X, Below wr.heap.size wr X → w.heap.size ≤ X.heap.size) := Lib.hid (fun X hX => Nat.le_trans B0.out.size hX.size)
  have d0 := hs.2.1
  have HL : Hid (Sl w 1 (some ⟨b, off + k, none⟩) 2 (sc - k) ((st.drop k).map (.int .i64))) := Lib.hid (by have := hs.last (by omega); rwa [← List.map_drop] at this)
  have HF : Hid (Sl w 1 (some ⟨b, off, none⟩) k sc ((st.take k).map (.int .i64))) := Lib.hid (by have := hs.front (by omega); rwa [← List.map_take] at this)
  have d1 : (k : Int) ≤ (k : Int) + 2 := by omega
  have d2 : ¬ sc = k := by omega
  have d3 : k ≤ sc := by omega
  clear hs
  go_enter Try.func47, Try.ntmps47
  go_wp2
  rw [← hW]
  clear hW
  try simp only [List.append_eq, List.cons_append, List.nil_append]
  refine wp_region_saysK 12 (fun x y => Below x.heap.size x y) (fun _ _ _ h k => bnext h k) wr (below_drew1 wr) (by kernel_rfl) (by kernel_rfl) (by kernel_rfl) (by kernel_rfl) (by rfl) ?_
  simp only [List.take_succ_cons, List.take_zero, List.drop_succ_cons, List.drop_zero]
  refine walkK_new (noneV w.heap.size 3) (by first | exact gs0 rfl | exact gs1 rfl rfl rfl) (fun v x y hb h => noneV_below v x y hb h) (fun u X hX hd => ⟨_, _, exec_none _ _ _ rfl, below_alloc1 _ _, _, rfl, World.ownsRow_lit X #[] 0 (hBX.out X hX) (by decide) rfl⟩) ?_
  apply walkK_norm
  · first | (simp only [List.nil_append]; rfl) | simp only [List.nil_append]
  refine walkK_is ?_ (by first | exact gs0 rfl | exact gs1 rfl rfl rfl) (fun _ => Below.refl _ _) (fun u X hX hd => ?_) ?_
  rotate_left
  · have e2 := la.out X hX
    try simp at hd
    go_simp
    try rfl
  apply walkK_norm
  · first | (simp only [List.nil_append, List.cons_append]; rfl) | simp only [List.nil_append, List.cons_append]
  refine walkK_is ?_ (by first | exact gs0 rfl | exact gs1 rfl rfl rfl) (fun _ => Below.refl _ _) (fun u X hX hd => ?_) ?_
  rotate_left
  · have e2 := la.out X hX
    try simp at hd
    go_simp
    try rfl
  apply walkK_norm
  · first | (simp only [List.nil_append, List.cons_append]; rfl) | simp only [List.nil_append, List.cons_append]
  refine walkK_is ?_ (by first | exact gs0 rfl | exact gs1 rfl rfl rfl) (fun _ => Below.refl _ _) (fun u X hX hd => ?_) ?_
  rotate_left
  · have e2 := la.out X hX
    try simp at hd
    go_simp
    try rfl
  apply walkK_norm
  · first | (simp only [List.nil_append, List.cons_append]; rfl) | simp only [List.nil_append, List.cons_append]
  refine walkK_is ?_ (by first | exact gs0 rfl | exact gs1 rfl rfl rfl) (fun _ => Below.refl _ _) (fun u X hX hd => ?_) ?_
  rotate_left
  · have e2 := la.out X hX
    try simp at hd
    go_simp
    try rfl
  apply walkK_norm
  · first | (simp only [List.nil_append, List.cons_append]; rfl) | simp only [List.nil_append, List.cons_append]
  refine walkK_new (listV w.heap.size 3 2 ((st.drop k).map (.int .i64))) (by first | exact gs0 rfl | exact gs1 rfl rfl rfl) (fun v x y hb h => listV_below v x y hb h) (fun u X hX hd => ?_) ?_
  · simp at hd
    obtain ⟨⟨g, hg, ho⟩, h4⟩ := hd
    obtain ⟨v, w', hr, hb, hl⟩ := run_append_none (P := Try.prog) X 23 23 w.heap.size 3 i0 _ 8 Try.underlying23 hi0 hz0 hz1 hz2 rfl (hBX.out X hX) g ho _ _ _ _ (HL.out.below (bnext B0.out hX)) (ints_oneC _) (by unfold maxLen; omega) (by omega)
    exact ⟨v, w', exec_append _ _ _ _ _ _ rfl (by go_simp) (by go_simp) hr, hb, hl⟩
  apply walkK_norm
  · first | (simp only [List.nil_append, List.cons_append]; rfl) | simp only [List.nil_append, List.cons_append]
  refine walkK_new (noneV w.heap.size 3) (by first | exact gs0 rfl | exact gs1 rfl rfl rfl) (fun v x y hb h => noneV_below v x y hb h) (fun u X hX hd => ⟨_, _, exec_none _ _ _ rfl, below_alloc1 _ _, _, rfl, World.ownsRow_lit X #[] 0 (hBX.out X hX) (by decide) rfl⟩) ?_
  apply walkK_norm
  · first | (simp only [List.nil_append, List.cons_append]; rfl) | simp only [List.nil_append, List.cons_append]
  refine walkK_is ?_ (by first | exact gs0 rfl | exact gs1 rfl rfl rfl) (fun _ => Below.refl _ _) (fun u X hX hd => ?_) ?_
  rotate_left
  · have e2 := la.out X hX
    try simp at hd
    go_simp
    try rfl
  apply walkK_norm
  · first | (simp only [List.nil_append, List.cons_append]; rfl) | simp only [List.nil_append, List.cons_append]
  refine walkK_is ?_ (by first | exact gs0 rfl | exact gs1 rfl rfl rfl) (fun _ => Below.refl _ _) (fun u X hX hd => ?_) ?_
  rotate_left
  · have e2 := la.out X hX
    try simp at hd
    go_simp
    try rfl
  apply walkK_norm
  · first | (simp only [List.nil_append, List.cons_append]; rfl) | simp only [List.nil_append, List.cons_append]
  refine walkK_is ?_ (by first | exact gs0 rfl | exact gs1 rfl rfl rfl) (fun _ => Below.refl _ _) (fun u X hX hd => ?_) ?_
  rotate_left
  · have e2 := la.out X hX
    try simp at hd
    go_simp
    try rfl
  apply walkK_norm
  · first | (simp only [List.nil_append, List.cons_append]; rfl) | simp only [List.nil_append, List.cons_append]
  refine walkK_is ?_ (by first | exact gs0 rfl | exact gs1 rfl rfl rfl) (fun _ => Below.refl _ _) (fun u X hX hd => ?_) ?_
  rotate_left
  · have e2 := la.out X hX
    try simp at hd
    go_simp
    try rfl
  apply walkK_norm
  · first | (simp only [List.nil_append, List.cons_append]; rfl) | simp only [List.nil_append, List.cons_append]
  refine walkK_new (listV w.heap.size 3 k ((st.take k).map (.int .i64))) (by first | exact gs0 rfl | exact gs1 rfl rfl rfl) (fun v x y hb h => listV_below v x y hb h) (fun u X hX hd => ?_) ?_
  · simp at hd
    obtain ⟨⟨g, hg, ho⟩, h4⟩ := hd
    obtain ⟨v, w', hr, hb, hl⟩ := run_append_none (P := Try.prog) X 23 23 w.heap.size 3 i0 _ 8 Try.underlying23 hi0 hz0 hz1 hz2 rfl (hBX.out X hX) g ho _ _ _ _ (HF.out.below (bnext B0.out hX)) (ints_oneC _) (by unfold maxLen; omega) (by omega)
    exact ⟨v, w', exec_append _ _ _ _ _ _ rfl (by go_simp) (by go_simp) hr, hb, hl⟩
  apply walkK_norm
  · first | (simp only [List.nil_append, List.cons_append]; rfl) | simp only [List.nil_append, List.cons_append]
  intro u X hX hsay
  simp only [sayAll, isV] at hsay
  obtain ⟨-, -, -, -, -, ⟨A, c, v5, ho5, -⟩, -, -, -, -, -, ⟨A', c', v11, ho11, -⟩, -⟩ := hsay
  simp only [putAll, Act.put, v5, v11]
  go_wp2
  go_ret2
  exact ⟨⟨A, c, A', c', rfl, ho5, ho11⟩, bnext B0.out hX⟩

end Go.Proofs.Ytibmfhmeoohdeaa

/-
  What the reference's Step of layer 10 answers, in whatever memory: of the kinds that put one onto the stack. No conditions but those that stand there.
-/
namespace Go.Proofs.Ytibmfhmeoohdeaa
open Go.RowKit
attribute [local go_sem] look findAt
attribute [local simp] depsOf isV Region.binds

/-- what the reference's step answers: its lists may be those that it was handed. -/
def RSPost (pc fuel : Int) (st : List Int) (r0 r1 r2 r3 : Int) (ou : List Int) (ov : Bool) (e0 : Int) (own : Blks) (sA : Option Addr) (sn : Nat) (oA : Option Addr) (on : Nat) (bA : Option Addr) (bn : Nat) (w : World) (e : Ending) (w' : World) : Prop :=
  ∃ sA' sn' sc' oA' on' oc' bA' bn' bc', e = .returned (.tuple #[.agg (mC pc fuel (.slice sA' sn' sc') r0 r1 r2 r3 (.slice oA' on' oc') ov e0), .slice bA' bn' bc']) ∧ MIn w' st ou own sA' sn' sc' oA' on' oc' bA' bn' bc' ∧ Below w.heap.size w w' ∧
    ∀ G, G < w.heap.size → off3 G sA sn oA on bA bn → off3 G sA' sn' oA' on' bA' bn'

theorem rW_ins (cm cs : Array Value) (is : Array Value) (w : World) : Bk ((sB cm cs w).alloc (.cells is 51)) (w.heap.size + 1 + 1 + 1) 51 is := by
  have := Bk.new (sB cm cs w) 51 is
  rwa [World.size_alloc, World.size_alloc, World.size_alloc] at this

theorem Sl.offNew {w : World} {size n c G : Nat} {A : Option Addr} {xs : List Value} (h : Sl w size A n c xs) (hG : w.heap.size ≤ G) : offA G A n := fun hn b off he => by
  obtain ⟨b', off', e, hb, _⟩ := h.2.2.2 hn
  rw [he] at e
  injection e with e
  injection e with e
  omega
theorem MIn.offNew {w : World} {st ou : List Int} {own : Blks} {sA : Option Addr} {sn sc : Nat} {oA : Option Addr} {on oc : Nat} {bA : Option Addr} {bn bc : Nat} {G : Nat} (h : MIn w st ou own sA sn sc oA on oc bA bn bc) (hG : w.heap.size ≤ G) : off3 G sA sn oA on bA bn := ⟨h.st.offNew hG, h.ou.offNew hG, h.bk.offNew hG⟩
theorem MIn.setCell {w : World} {st ou : List Int} {own : Blks} {sA : Option Addr} {sn sc : Nat} {oA : Option Addr} {on oc : Nat} {bA : Option Addr} {bn bc : Nat} {G : Nat} (h : MIn w st ou own sA sn sc oA on oc bA bn bc) (ho : off3 G sA sn oA on bA bn) (k : Nat) (u : Value) : MIn (w.setCell ⟨G, k, none⟩ u) st ou own sA sn sc oA on oc bA bn bc :=
  h.offSet ho (by simp [World.setCell]) (fun b hb _ => Below.heap_setCell w ⟨G, k, none⟩ u b hb)

theorem exec_load_at (ρ : Operand → Value) (w : World) (o : Oper) (x : Operand) (t : TypeId) (ho : o.op = .load t x) {g off : Nat} {cs : Array Value} (hx : ρ x = .pointer (some ⟨g, off, none⟩)) (hl : (loadVar t ⟨g, off, none⟩).run Try.prog w = .ok (.agg cs) w) : (execOp ρ o).run Try.prog w = .ok (.value (.agg cs)) w := by
  unfold execOp
  simp only [ho, hx, Instr.loadAt, Instr.sureAddr, Sem.run_bind, Sem.run_pure, Result.andThen_ok, hl]

section
variable (ra : Option Addr) (nr rc : Nat) (wa : Option Addr) (nw wc : Nat) (aa : Option Addr) (na ac : Nat) (cf : Int) (ca : Option Addr) (nc cc : Nat)
variable (fuel : Int) (sA : Option Addr) (sn sc : Nat) (r0 r1 r2 r3 : Int) (oA : Option Addr) (on oc : Nat) (e0 : Int) (bA : Option Addr) (bn bc : Nat)

set_option maxHeartbeats 4000000 in
set_option maxRecDepth 100000 in
theorem rstep1 (l : List Ins) (i : Nat) (a b : Int) (st ou : List Int) (own : Blks) (w : World) (hC : Inss w ca cc l) (hl : l.length = nc) (hi : i < nc) (hic : nc ≤ 1000) (hx : insAt l i = ⟨1, a, b⟩) (hM : MIn w st ou own sA sn sc oA on oc bA bn bc) (hf : fuel ≠ 0) (hf2 : 0 ≤ fuel ∧ fuel ≤ 1000) (hs : sn ≤ 1000) :
    Calls Try.prog 37 #[cmV ra nr rc wa nw wc aa na ac cf ca nc cc, .agg (mC (i : Int) fuel (.slice sA sn sc) r0 r1 r2 r3 (.slice oA on oc) false e0), .slice bA bn bc] w (RSPost ((i : Int) + 1) (fuel - 1) (st ++ [a]) r0 r1 r2 r3 ou false e0 own sA sn oA on bA bn w) := by
  obtain ⟨i0, hi0, hz0, hz1, hz2⟩ := infoInt
  obtain ⟨cb, co, rfl, hcb, x0, x1, x2⟩ := hC.cellAt (j := i) (by omega)
  rw [hx] at x0 x1 x2
  simp only at x0 x1 x2
  have hcc := hC.2.1
  rw [hl] at hcc
  have d1 : (i : Int) < (nc : Int) := by omega
  have d2 : (i : Int) < (cc : Int) := by omega
  have f0 : (fuel == 0) = false := by simpa using hf
  have bb := sB_below #[.slice ra nr rc, .slice wa nw wc, .slice aa na ac, .int .i64 cf, .slice (some ⟨cb, co, none⟩) nc cc] (mC (i : Int) (fuel - 1) (.slice sA sn sc) r0 r1 r2 r3 (.slice oA on oc) false e0) w
  have y0 := (bb.cell (p := ⟨cb, co + i * 3, none⟩) hcb).trans x0
  have y1 := (bb.cell (p := ⟨cb, co + i * 3 + 1, none⟩) hcb).trans x1
  have y2 := (bb.cell (p := ⟨cb, co + i * 3 + 2, none⟩) hcb).trans x2
  obtain ⟨wr, hW⟩ : ∃ W, W = (sB #[.slice ra nr rc, .slice wa nw wc, .slice aa na ac, .int .i64 cf, .slice (some ⟨cb, co, none⟩) nc cc] (mC ((i : Int) + 1) (fuel - 1) (.slice sA sn sc) r0 r1 r2 r3 (.slice oA on oc) false e0) w).alloc (.cells #[.int .i64 1, .int .i64 a, .int .i64 b] 51) := ⟨_, rfl⟩
  have B0 : Hid (Below w.heap.size w wr) := Lib.hid (by rw [hW]; exact bnext (sB_below _ _ _) (below_alloc1 _ _))
  have C0 : Hid (Bk wr w.heap.size 26 #[.slice ra nr rc, .slice wa nw wc, .slice aa na ac, .int .i64 cf, .slice (some ⟨cb, co, none⟩) nc cc]) := Lib.hid (by rw [hW]; exact (sB_cmd _ _ _).alloc _)
  have X0 : Hid (Bk wr (w.heap.size + 1) 54 (mC ((i : Int) + 1) (fuel - 1) (.slice sA sn sc) r0 r1 r2 r3 (.slice oA on oc) false e0)) := Lib.hid (by rw [hW]; exact (sB_box _ _ _).alloc _)
  have R0 : Hid (Bk wr (w.heap.size + 1 + 1) 54 mZ) := Lib.hid (by rw [hW]; exact (sB_res _ _ _).alloc _)
  have I0 : Hid (Bk wr (w.heap.size + 1 + 1 + 1) 51 #[.int .i64 1, .int .i64 a, .int .i64 b]) := Lib.hid (by rw [hW]; exact rW_ins _ _ _ _)
  have hBX : Hid (∀ {n : Nat} {u : Value} (X : World), TurnR wr.heap.size 3 n u wr X → wr.heap.size ≤ X.heap.size) := Lib.hid (fun X hX => hX.1.size)
  have hWs : w.heap.size + 1 + 1 + 1 < wr.heap.size := I0.out.lt
  have HM := Lib.hid hM
  clear hC hx hl bb hM
  go_enter Try.func37, Try.ntmps37
  go_wp2
  rw [← hW]
  clear hW y0 y1 y2 x0 x1 x2 f0
  try simp only [List.append_eq, List.cons_append, List.nil_append]
  refine wp_region_saysK 9 (TurnR wr.heap.size 3 sn (.int .i64 a)) (TurnR.trans) wr (TurnR.of (Nat.le_refl _) (below_drew1 wr)) (by kernel_rfl) (by kernel_rfl) (by kernel_rfl) (by kernel_rfl) (by rfl) ?_
  simp only [List.take_succ_cons, List.take_zero, List.drop_succ_cons, List.drop_zero]
  refine walkK_new (noneV wr.heap.size 3) (by first | exact gs0 rfl | exact gs1 rfl rfl rfl) (fun v x y hb h => noneV_turn v x y hb h) (fun u X hX hd => ⟨_, _, exec_none _ _ _ rfl, TurnR.of (hBX.out X hX) (below_alloc1 _ _), _, rfl, World.ownsRow_lit X #[] 0 (hBX.out X hX) (by decide) rfl⟩) ?_
  apply walkK_norm
  · first | (simp only [List.nil_append]; rfl) | simp only [List.nil_append]
  refine walkK_is ?_ (by first | exact gs0 rfl | exact gs1 rfl rfl rfl) (fun _ => TurnR.refl _) (fun u X hX hd => ?_) ?_
  rotate_left
  · have e2 := (X0.out.below hX.1).cell 2
    have q1 := (I0.out.below hX.1).cell 1
    simp only [List.getElem?_toArray, List.getElem?_cons_zero, List.getElem?_cons_succ] at e2 q1
    try simp at hd
    go_simp
    try rfl
  apply walkK_norm
  · first | (simp only [List.nil_append, List.cons_append]; rfl) | simp only [List.nil_append, List.cons_append]
  refine walkK_is ?_ (by first | exact gs0 rfl | exact gs1 rfl rfl rfl) (fun _ => TurnR.refl _) (fun u X hX hd => ?_) ?_
  rotate_left
  · have e2 := (X0.out.below hX.1).cell 2
    have q1 := (I0.out.below hX.1).cell 1
    simp only [List.getElem?_toArray, List.getElem?_cons_zero, List.getElem?_cons_succ] at e2 q1
    try simp at hd
    go_simp
    try rfl
  apply walkK_norm
  · first | (simp only [List.nil_append, List.cons_append]; rfl) | simp only [List.nil_append, List.cons_append]
  refine walkK_new (listV wr.heap.size 3 sn (st.map (.int .i64))) (by first | exact gs0 rfl | exact gs1 rfl rfl rfl) (fun v x y hb h => listV_turn v x y hb h) (fun u X hX hd => ?_) ?_
  · simp at hd
    obtain ⟨⟨g, hg, ho⟩, h4⟩ := hd
    obtain ⟨v, w', hr, hb, hl⟩ := run_append_none (P := Try.prog) X 23 23 wr.heap.size 3 i0 _ 8 Try.underlying23 hi0 hz0 hz1 hz2 rfl (hBX.out X hX) g ho _ _ _ _ (HM.out.st.below (bnext B0.out hX.1)) (ints_oneC _) (by unfold maxLen; omega) (by omega)
    exact ⟨v, w', exec_append _ _ _ _ _ _ rfl (by go_simp) (by go_simp) hr, TurnR.of (hBX.out X hX) hb, hl⟩
  apply walkK_norm
  · first | (simp only [List.nil_append, List.cons_append]; rfl) | simp only [List.nil_append, List.cons_append]
  refine walkK_is ?_ (by first | exact gs0 rfl | exact gs1 rfl rfl rfl) (fun _ => TurnR.refl _) (fun u X hX hd => ?_) ?_
  rotate_left
  · have e2 := (X0.out.below hX.1).cell 2
    have q1 := (I0.out.below hX.1).cell 1
    simp only [List.getElem?_toArray, List.getElem?_cons_zero, List.getElem?_cons_succ] at e2 q1
    try simp at hd
    go_simp
    try rfl
  apply walkK_norm
  · first | (simp only [List.nil_append, List.cons_append]; rfl) | simp only [List.nil_append, List.cons_append]
  refine walkK_is ?_ (by first | exact gs0 rfl | exact gs1 rfl rfl rfl) (fun _ => TurnR.refl _) (fun u X hX hd => ?_) ?_
  rotate_left
  · have e2 := (X0.out.below hX.1).cell 2
    have q1 := (I0.out.below hX.1).cell 1
    simp only [List.getElem?_toArray, List.getElem?_cons_zero, List.getElem?_cons_succ] at e2 q1
    try simp at hd
    go_simp
    try rfl
  apply walkK_norm
  · first | (simp only [List.nil_append, List.cons_append]; rfl) | simp only [List.nil_append, List.cons_append]
  refine walkK_new (singV wr.heap.size 3 (.int .i64 a)) (by first | exact gs0 rfl | exact gs1 rfl rfl rfl) (fun v x y hb h => singV_turn v x y hb h) (fun u X hX hd => ⟨_, _, exec_sing _ _ _ _ rfl (by (try simp at hd); go_simp; try exact hd), TurnR.of (hBX.out X hX) (below_alloc1 _ _), _, rfl, World.ownsRow_lit X #[.int .i64 a] 1 (hBX.out X hX) (by decide) rfl⟩) ?_
  apply walkK_norm
  · first | (simp only [List.nil_append, List.cons_append]; rfl) | simp only [List.nil_append, List.cons_append]
  refine walkK_new (moreV wr.heap.size 3 sn (st.map (.int .i64)) (.int .i64 a)) (by first | exact gs0 rfl | exact gs1 rfl rfl rfl) (fun v x y hb h => moreV_turn v x y hb h) (fun u X hX hd => ?_) ?_
  · simp at hd
    obtain ⟨⟨A, c, hA, ho, hc⟩, ⟨g, hg, hs⟩, -⟩ := hd
    obtain ⟨v, w', hr, hb, hl⟩ := run_append_sing (P := Try.prog) X 23 23 wr.heap.size 3 i0 _ 8 Try.underlying23 hi0 hz0 hz1 hz2 rfl (hBX.out X hX) A _ c _ ho hc _ g hs rfl (by unfold maxLen; omega) (by omega)
    exact ⟨v, w', exec_append _ _ _ _ _ _ rfl (by go_simp) (by go_simp) hr, hb, hl⟩
  apply walkK_norm
  · first | (simp only [List.nil_append, List.cons_append]; rfl) | simp only [List.nil_append, List.cons_append]
  refine walkK_is ?_ (by first | exact gs0 rfl | exact gs1 rfl rfl rfl) (fun _ => TurnR.refl _) (fun u X hX hd => ?_) ?_
  rotate_left
  · have e2 := (X0.out.below hX.1).cell 2
    have q1 := (I0.out.below hX.1).cell 1
    simp only [List.getElem?_toArray, List.getElem?_cons_zero, List.getElem?_cons_succ] at e2 q1
    try simp at hd
    go_simp
    try rfl
  apply walkK_norm
  · first | (simp only [List.nil_append, List.cons_append]; rfl) | simp only [List.nil_append, List.cons_append]
  intro u X hX hsay
  simp only [sayAll, isV] at hsay
  obtain ⟨⟨g0, v0, -⟩, v1, v2, ⟨A3, c3, v3, -⟩, v4, v5, ⟨g1, v6, -⟩, ⟨g2, c2, v7, ho2⟩, v8, -⟩ := hsay
  have XB := Lib.hid (X0.out.below hX.1)
  have RB := Lib.hid (R0.out.below hX.1)
  have z2 := XB.out.cell 2
  have zf := XB.out.frozen
  have zl := XB.out.lt
  simp only [List.getElem?_toArray, List.getElem?_cons_zero, List.getElem?_cons_succ] at z2
  have X2 : Hid (Bk (X.setCell ⟨w.heap.size + 1, 2, none⟩ (.slice (some ⟨g2, 0, none⟩) (sn + 1) c2)) (w.heap.size + 1) 54 (mC ((i : Int) + 1) (fuel - 1) (.slice (some ⟨g2, 0, none⟩) (sn + 1) c2) r0 r1 r2 r3 (.slice oA on oc) false e0)) := Lib.hid (by simpa using XB.out.set 2 (.slice (some ⟨g2, 0, none⟩) (sn + 1) c2))
  have R2 := Lib.hid (RB.out.far (p := ⟨w.heap.size + 1, 2, none⟩) (by simp) (.slice (some ⟨g2, 0, none⟩) (sn + 1) c2))
  have MX : Hid (MIn X (st ++ [a]) ou own (some ⟨g2, 0, none⟩) (sn + 1) c2 oA on oc bA bn bc) := Lib.hid (by
    have hm := HM.out.below (bnext B0.out hX.1)
    refine ⟨?_, hm.ou, hm.bk⟩
    have := Sl.own' ho2
    simpa using this)
  have OX : Hid (∀ G, G < wr.heap.size → off3 G sA sn oA on bA bn → off3 G (some ⟨g2, 0, none⟩) (sn + 1) oA on bA bn) := Lib.hid (fun G hG h => ⟨own_offA ho2 hG, h.2⟩)
  have BX := Lib.hid (bnext B0.out hX.1)
  simp only [putAll, Act.put, v0, v1, v2, v3, v4, v5, v6, v7, v8, List.setIfInBounds_toArray, List.set_cons_succ, List.set_cons_zero]
  clear ho2 hX v0 v1 v2 v3 v4 v5 v6 v7 v8
  go_wp2_with (first
    | (with_reducible refine ld_mach (w.heap.size + 1) X2.out _ rfl rfl rfl ?_)
    | (with_reducible refine st_mach (w.heap.size + 1 + 1) R2.out rfl rfl _ _ rfl rfl rfl rfl ?_))
  exact bodyPost_ret (v := .tuple #[.agg (mC ((i : Int) + 1) (fuel - 1) (.slice (some ⟨g2, 0, none⟩) (sn + 1) c2) r0 r1 r2 r3 (.slice oA on oc) false e0), .slice bA bn bc]) (res2_mach rfl _ _ (w.heap.size + 1 + 1) _ rfl rfl (Bk.setRow R2.out _)) rfl
    ⟨_, _, _, _, _, _, _, _, _, rfl, (MX.out.setCell (OX.out _ (by omega) (HM.out.offNew (by omega))) _ _).setRow (OX.out _ (by omega) (HM.out.offNew (by omega))) _, below_row (BX.out.setCell (p := ⟨w.heap.size + 1, 2, none⟩) (by simp) _) (by omega) _, fun G hG h => OX.out G (by omega) h⟩

set_option maxHeartbeats 4000000 in
set_option maxRecDepth 100000 in
theorem rstep2 (l : List Ins) (i : Nat) (k : Nat) (b v : Int) (st ou : List Int) (own : Blks) (w : World) (hC : Inss w ca cc l) (hl : l.length = nc) (hi : i < nc) (hic : nc ≤ 1000) (hx : insAt l i = ⟨2, k, b⟩) (hM : MIn w st ou own sA sn sc oA on oc bA bn bc) (hf : fuel ≠ 0) (hf2 : 0 ≤ fuel ∧ fuel ≤ 1000) (hk : k < 4) (hv : [r0, r1, r2, r3][k]? = some v) (hs : sn ≤ 1000) :
    Calls Try.prog 37 #[cmV ra nr rc wa nw wc aa na ac cf ca nc cc, .agg (mC (i : Int) fuel (.slice sA sn sc) r0 r1 r2 r3 (.slice oA on oc) false e0), .slice bA bn bc] w (RSPost ((i : Int) + 1) (fuel - 1) (st ++ [v]) r0 r1 r2 r3 ou false e0 own sA sn oA on bA bn w) := by
  have d3 : (k : Int) < 4 := by omega
  have hreg : Hid (∀ (X : World) (cs : Array Value), Bk X (w.heap.size + 1) 54 cs → cs = (mC ((i : Int) + 1) (fuel - 1) (.slice sA sn sc) r0 r1 r2 r3 (.slice oA on oc) false e0) → X.cell? ⟨w.heap.size + 1, 3 + k, none⟩ = some (.int .i64 v)) := Lib.hid (fun X cs hb he => by
    rw [hb.cell, he]
    rcases (show k = 0 ∨ k = 1 ∨ k = 2 ∨ k = 3 by omega) with rfl | rfl | rfl | rfl <;> (simp at hv; simp [hv]))
  clear hk hv
  obtain ⟨i0, hi0, hz0, hz1, hz2⟩ := infoInt
  obtain ⟨cb, co, rfl, hcb, x0, x1, x2⟩ := hC.cellAt (j := i) (by omega)
  rw [hx] at x0 x1 x2
  simp only at x0 x1 x2
  have hcc := hC.2.1
  rw [hl] at hcc
  have d1 : (i : Int) < (nc : Int) := by omega
  have d2 : (i : Int) < (cc : Int) := by omega
  have f0 : (fuel == 0) = false := by simpa using hf
  have bb := sB_below #[.slice ra nr rc, .slice wa nw wc, .slice aa na ac, .int .i64 cf, .slice (some ⟨cb, co, none⟩) nc cc] (mC (i : Int) (fuel - 1) (.slice sA sn sc) r0 r1 r2 r3 (.slice oA on oc) false e0) w
  have y0 := (bb.cell (p := ⟨cb, co + i * 3, none⟩) hcb).trans x0
  have y1 := (bb.cell (p := ⟨cb, co + i * 3 + 1, none⟩) hcb).trans x1
  have y2 := (bb.cell (p := ⟨cb, co + i * 3 + 2, none⟩) hcb).trans x2
  obtain ⟨wr, hW⟩ : ∃ W, W = (sB #[.slice ra nr rc, .slice wa nw wc, .slice aa na ac, .int .i64 cf, .slice (some ⟨cb, co, none⟩) nc cc] (mC ((i : Int) + 1) (fuel - 1) (.slice sA sn sc) r0 r1 r2 r3 (.slice oA on oc) false e0) w).alloc (.cells #[.int .i64 2, .int .i64 k, .int .i64 b] 51) := ⟨_, rfl⟩
  have B0 : Hid (Below w.heap.size w wr) := Lib.hid (by rw [hW]; exact bnext (sB_below _ _ _) (below_alloc1 _ _))
  have C0 : Hid (Bk wr w.heap.size 26 #[.slice ra nr rc, .slice wa nw wc, .slice aa na ac, .int .i64 cf, .slice (some ⟨cb, co, none⟩) nc cc]) := Lib.hid (by rw [hW]; exact (sB_cmd _ _ _).alloc _)
  have X0 : Hid (Bk wr (w.heap.size + 1) 54 (mC ((i : Int) + 1) (fuel - 1) (.slice sA sn sc) r0 r1 r2 r3 (.slice oA on oc) false e0)) := Lib.hid (by rw [hW]; exact (sB_box _ _ _).alloc _)
  have R0 : Hid (Bk wr (w.heap.size + 1 + 1) 54 mZ) := Lib.hid (by rw [hW]; exact (sB_res _ _ _).alloc _)
  have I0 : Hid (Bk wr (w.heap.size + 1 + 1 + 1) 51 #[.int .i64 2, .int .i64 k, .int .i64 b]) := Lib.hid (by rw [hW]; exact rW_ins _ _ _ _)
  have hBX : Hid (∀ {n : Nat} {u : Value} (X : World), TurnR wr.heap.size 3 n u wr X → wr.heap.size ≤ X.heap.size) := Lib.hid (fun X hX => hX.1.size)
  have hWs : w.heap.size + 1 + 1 + 1 < wr.heap.size := I0.out.lt
  have HM := Lib.hid hM
  clear hC hx hl bb hM
  go_enter Try.func37, Try.ntmps37
  go_wp2
  rw [← hW]
  clear hW y0 y1 y2 x0 x1 x2 f0
  try simp only [List.append_eq, List.cons_append, List.nil_append]
  refine wp_region_saysK 12 (TurnR wr.heap.size 3 sn (.int .i64 v)) (TurnR.trans) wr (TurnR.of (Nat.le_refl _) (below_drew1 wr)) (by kernel_rfl) (by kernel_rfl) (by kernel_rfl) (by kernel_rfl) (by rfl) ?_
  simp only [List.take_succ_cons, List.take_zero, List.drop_succ_cons, List.drop_zero]
  refine walkK_new (noneV wr.heap.size 3) (by first | exact gs0 rfl | exact gs1 rfl rfl rfl) (fun v x y hb h => noneV_turn v x y hb h) (fun u X hX hd => ⟨_, _, exec_none _ _ _ rfl, TurnR.of (hBX.out X hX) (below_alloc1 _ _), _, rfl, World.ownsRow_lit X #[] 0 (hBX.out X hX) (by decide) rfl⟩) ?_
  apply walkK_norm
  · first | (simp only [List.nil_append]; rfl) | simp only [List.nil_append]
  refine walkK_is ?_ (by first | exact gs0 rfl | exact gs1 rfl rfl rfl) (fun _ => TurnR.refl _) (fun u X hX hd => ?_) ?_
  rotate_left
  · have e2 := (X0.out.below hX.1).cell 2
    have q1 := (I0.out.below hX.1).cell 1
    simp only [List.getElem?_toArray, List.getElem?_cons_zero, List.getElem?_cons_succ] at e2 q1
    have q3 := hreg.out X _ (X0.out.below hX.1) rfl
    try simp at hd
    go_simp
    try rfl
  apply walkK_norm
  · first | (simp only [List.nil_append, List.cons_append]; rfl) | simp only [List.nil_append, List.cons_append]
  refine walkK_is ?_ (by first | exact gs0 rfl | exact gs1 rfl rfl rfl) (fun _ => TurnR.refl _) (fun u X hX hd => ?_) ?_
  rotate_left
  · have e2 := (X0.out.below hX.1).cell 2
    have q1 := (I0.out.below hX.1).cell 1
    simp only [List.getElem?_toArray, List.getElem?_cons_zero, List.getElem?_cons_succ] at e2 q1
    have q3 := hreg.out X _ (X0.out.below hX.1) rfl
    try simp at hd
    go_simp
    try rfl
  apply walkK_norm
  · first | (simp only [List.nil_append, List.cons_append]; rfl) | simp only [List.nil_append, List.cons_append]
  refine walkK_new (listV wr.heap.size 3 sn (st.map (.int .i64))) (by first | exact gs0 rfl | exact gs1 rfl rfl rfl) (fun v x y hb h => listV_turn v x y hb h) (fun u X hX hd => ?_) ?_
  · simp at hd
    obtain ⟨⟨g, hg, ho⟩, h4⟩ := hd
    obtain ⟨v, w', hr, hb, hl⟩ := run_append_none (P := Try.prog) X 23 23 wr.heap.size 3 i0 _ 8 Try.underlying23 hi0 hz0 hz1 hz2 rfl (hBX.out X hX) g ho _ _ _ _ (HM.out.st.below (bnext B0.out hX.1)) (ints_oneC _) (by unfold maxLen; omega) (by omega)
    exact ⟨v, w', exec_append _ _ _ _ _ _ rfl (by go_simp) (by go_simp) hr, TurnR.of (hBX.out X hX) hb, hl⟩
  apply walkK_norm
  · first | (simp only [List.nil_append, List.cons_append]; rfl) | simp only [List.nil_append, List.cons_append]
  refine walkK_is ?_ (by first | exact gs0 rfl | exact gs1 rfl rfl rfl) (fun _ => TurnR.refl _) (fun u X hX hd => ?_) ?_
  rotate_left
  · have e2 := (X0.out.below hX.1).cell 2
    have q1 := (I0.out.below hX.1).cell 1
    simp only [List.getElem?_toArray, List.getElem?_cons_zero, List.getElem?_cons_succ] at e2 q1
    have q3 := hreg.out X _ (X0.out.below hX.1) rfl
    try simp at hd
    go_simp
    try rfl
  apply walkK_norm
  · first | (simp only [List.nil_append, List.cons_append]; rfl) | simp only [List.nil_append, List.cons_append]
  refine walkK_is ?_ (by first | exact gs0 rfl | exact gs1 rfl rfl rfl) (fun _ => TurnR.refl _) (fun u X hX hd => ?_) ?_
  rotate_left
  · have e2 := (X0.out.below hX.1).cell 2
    have q1 := (I0.out.below hX.1).cell 1
    simp only [List.getElem?_toArray, List.getElem?_cons_zero, List.getElem?_cons_succ] at e2 q1
    have q3 := hreg.out X _ (X0.out.below hX.1) rfl
    try simp at hd
    go_simp
    try rfl
  apply walkK_norm
  · first | (simp only [List.nil_append, List.cons_append]; rfl) | simp only [List.nil_append, List.cons_append]
  refine walkK_is ?_ (by first | exact gs0 rfl | exact gs1 rfl rfl rfl) (fun _ => TurnR.refl _) (fun u X hX hd => ?_) ?_
  rotate_left
  · have e2 := (X0.out.below hX.1).cell 2
    have q1 := (I0.out.below hX.1).cell 1
    simp only [List.getElem?_toArray, List.getElem?_cons_zero, List.getElem?_cons_succ] at e2 q1
    have q3 := hreg.out X _ (X0.out.below hX.1) rfl
    try simp at hd
    go_simp
    try rfl
  apply walkK_norm
  · first | (simp only [List.nil_append, List.cons_append]; rfl) | simp only [List.nil_append, List.cons_append]
  refine walkK_is ?_ (by first | exact gs0 rfl | exact gs1 rfl rfl rfl) (fun _ => TurnR.refl _) (fun u X hX hd => ?_) ?_
  rotate_left
  · have e2 := (X0.out.below hX.1).cell 2
    have q1 := (I0.out.below hX.1).cell 1
    simp only [List.getElem?_toArray, List.getElem?_cons_zero, List.getElem?_cons_succ] at e2 q1
    have q3 := hreg.out X _ (X0.out.below hX.1) rfl
    try simp at hd
    go_simp
    try rfl
  apply walkK_norm
  · first | (simp only [List.nil_append, List.cons_append]; rfl) | simp only [List.nil_append, List.cons_append]
  refine walkK_is ?_ (by first | exact gs0 rfl | exact gs1 rfl rfl rfl) (fun _ => TurnR.refl _) (fun u X hX hd => ?_) ?_
  rotate_left
  · have e2 := (X0.out.below hX.1).cell 2
    have q1 := (I0.out.below hX.1).cell 1
    simp only [List.getElem?_toArray, List.getElem?_cons_zero, List.getElem?_cons_succ] at e2 q1
    have q3 := hreg.out X _ (X0.out.below hX.1) rfl
    try simp at hd
    go_simp
    try rfl
  apply walkK_norm
  · first | (simp only [List.nil_append, List.cons_append]; rfl) | simp only [List.nil_append, List.cons_append]
  refine walkK_new (singV wr.heap.size 3 (.int .i64 v)) (by first | exact gs0 rfl | exact gs1 rfl rfl rfl) (fun v x y hb h => singV_turn v x y hb h) (fun u X hX hd => ⟨_, _, exec_sing _ _ _ _ rfl (by (try simp at hd); go_simp; try exact hd), TurnR.of (hBX.out X hX) (below_alloc1 _ _), _, rfl, World.ownsRow_lit X #[.int .i64 v] 1 (hBX.out X hX) (by decide) rfl⟩) ?_
  apply walkK_norm
  · first | (simp only [List.nil_append, List.cons_append]; rfl) | simp only [List.nil_append, List.cons_append]
  refine walkK_new (moreV wr.heap.size 3 sn (st.map (.int .i64)) (.int .i64 v)) (by first | exact gs0 rfl | exact gs1 rfl rfl rfl) (fun v x y hb h => moreV_turn v x y hb h) (fun u X hX hd => ?_) ?_
  · simp at hd
    obtain ⟨⟨A, c, hA, ho, hc⟩, ⟨g, hg, hs⟩, -⟩ := hd
    obtain ⟨v, w', hr, hb, hl⟩ := run_append_sing (P := Try.prog) X 23 23 wr.heap.size 3 i0 _ 8 Try.underlying23 hi0 hz0 hz1 hz2 rfl (hBX.out X hX) A _ c _ ho hc _ g hs rfl (by unfold maxLen; omega) (by omega)
    exact ⟨v, w', exec_append _ _ _ _ _ _ rfl (by go_simp) (by go_simp) hr, hb, hl⟩
  apply walkK_norm
  · first | (simp only [List.nil_append, List.cons_append]; rfl) | simp only [List.nil_append, List.cons_append]
  refine walkK_is ?_ (by first | exact gs0 rfl | exact gs1 rfl rfl rfl) (fun _ => TurnR.refl _) (fun u X hX hd => ?_) ?_
  rotate_left
  · have e2 := (X0.out.below hX.1).cell 2
    have q1 := (I0.out.below hX.1).cell 1
    simp only [List.getElem?_toArray, List.getElem?_cons_zero, List.getElem?_cons_succ] at e2 q1
    have q3 := hreg.out X _ (X0.out.below hX.1) rfl
    try simp at hd
    go_simp
    try rfl
  apply walkK_norm
  · first | (simp only [List.nil_append, List.cons_append]; rfl) | simp only [List.nil_append, List.cons_append]
  intro u X hX hsay
  simp only [sayAll, isV] at hsay
  obtain ⟨⟨g0, v0, -⟩, v1, v2, ⟨A3, c3, v3, -⟩, v4, v5, v6, v7, v8, ⟨g1, v9, -⟩, ⟨g2, c2, v10, ho2⟩, v11, -⟩ := hsay
  have XB := Lib.hid (X0.out.below hX.1)
  have RB := Lib.hid (R0.out.below hX.1)
  have z2 := XB.out.cell 2
  have zf := XB.out.frozen
  have zl := XB.out.lt
  simp only [List.getElem?_toArray, List.getElem?_cons_zero, List.getElem?_cons_succ] at z2
  have X2 : Hid (Bk (X.setCell ⟨w.heap.size + 1, 2, none⟩ (.slice (some ⟨g2, 0, none⟩) (sn + 1) c2)) (w.heap.size + 1) 54 (mC ((i : Int) + 1) (fuel - 1) (.slice (some ⟨g2, 0, none⟩) (sn + 1) c2) r0 r1 r2 r3 (.slice oA on oc) false e0)) := Lib.hid (by simpa using XB.out.set 2 (.slice (some ⟨g2, 0, none⟩) (sn + 1) c2))
  have R2 := Lib.hid (RB.out.far (p := ⟨w.heap.size + 1, 2, none⟩) (by simp) (.slice (some ⟨g2, 0, none⟩) (sn + 1) c2))
  have MX : Hid (MIn X (st ++ [v]) ou own (some ⟨g2, 0, none⟩) (sn + 1) c2 oA on oc bA bn bc) := Lib.hid (by
    have hm := HM.out.below (bnext B0.out hX.1)
    refine ⟨?_, hm.ou, hm.bk⟩
    have := Sl.own' ho2
    simpa using this)
  have OX : Hid (∀ G, G < wr.heap.size → off3 G sA sn oA on bA bn → off3 G (some ⟨g2, 0, none⟩) (sn + 1) oA on bA bn) := Lib.hid (fun G hG h => ⟨own_offA ho2 hG, h.2⟩)
  have BX := Lib.hid (bnext B0.out hX.1)
  simp only [putAll, Act.put, v0, v1, v2, v3, v4, v5, v6, v7, v8, v9, v10, v11, List.setIfInBounds_toArray, List.set_cons_succ, List.set_cons_zero]
  clear ho2 hX v0 v1 v2 v3 v4 v5 v6 v7 v8 v9 v10 v11
  go_wp2_with (first
    | (with_reducible refine ld_mach (w.heap.size + 1) X2.out _ rfl rfl rfl ?_)
    | (with_reducible refine st_mach (w.heap.size + 1 + 1) R2.out rfl rfl _ _ rfl rfl rfl rfl ?_))
  exact bodyPost_ret (v := .tuple #[.agg (mC ((i : Int) + 1) (fuel - 1) (.slice (some ⟨g2, 0, none⟩) (sn + 1) c2) r0 r1 r2 r3 (.slice oA on oc) false e0), .slice bA bn bc]) (res2_mach rfl _ _ (w.heap.size + 1 + 1) _ rfl rfl (Bk.setRow R2.out _)) rfl
    ⟨_, _, _, _, _, _, _, _, _, rfl, (MX.out.setCell (OX.out _ (by omega) (HM.out.offNew (by omega))) _ _).setRow (OX.out _ (by omega) (HM.out.offNew (by omega))) _, below_row (BX.out.setCell (p := ⟨w.heap.size + 1, 2, none⟩) (by simp) _) (by omega) _, fun G hG h => OX.out G (by omega) h⟩

set_option maxHeartbeats 4000000 in
set_option maxRecDepth 100000 in
theorem rstep4 (l : List Ins) (i : Nat) (k : Nat) (b : Int) (st ou : List Int) (own : Blks) (w : World) (hC : Inss w ca cc l) (hl : l.length = nc) (hi : i < nc) (hic : nc ≤ 1000) (hx : insAt l i = ⟨4, k, b⟩) (hM : MIn w st ou own sA sn sc oA on oc bA bn bc) (hf : fuel ≠ 0) (hf2 : 0 ≤ fuel ∧ fuel ≤ 1000) (h8 : ∀ b ∈ own, b.length = 8) (hk : k < own.length) (hbn : own.length = bn) (v : Int) (hv : v = getC (own[k]?.getD []) b) (hBs : Blocks w bA bc own) (hs : sn ≤ 1000) :
    Calls Try.prog 37 #[cmV ra nr rc wa nw wc aa na ac cf ca nc cc, .agg (mC (i : Int) fuel (.slice sA sn sc) r0 r1 r2 r3 (.slice oA on oc) false e0), .slice bA bn bc] w (RSPost ((i : Int) + 1) (fuel - 1) (st ++ [v]) r0 r1 r2 r3 ou false e0 own sA sn oA on bA bn w) := by
  have h8' : (own[k]?.getD []).length = 8 := by
    rw [List.getElem?_eq_getElem hk]
    exact h8 _ (List.getElem_mem _)
  obtain ⟨gb, ob, rfl, hlo⟩ := Blocks.load (w := w) (A := bA) (c := bc) (own := own) hBs h8 hk
  have d3 : (k : Int) < (bn : Int) := by omega
  have d4 : (k : Int) < (bc : Int) := by
    have := hBs.2.1
    omega
  have hget := Lib.hid (fun X => rget_any (own[k]?.getD []) h8' b X)
  have HL := Lib.hid hlo
  have hQ2 : Hid (∀ (X : World) (cs : Array Value), Bk X (w.heap.size + 1 + 1 + 1) 51 cs → cs = #[.int .i64 4, .int .i64 (k : Int), .int .i64 b] → X.cell? ⟨w.heap.size + 1 + 1 + 1, 2, none⟩ = some (.int .i64 b)) := Lib.hid (fun X cs hb he => by rw [hb.cell, he]; rfl)
  subst hv
  generalize getC (own[k]?.getD []) b = v at *
  generalize bkC (own[k]?.getD []) = cs at *
  clear hk h8' hlo hbn hBs
  obtain ⟨i0, hi0, hz0, hz1, hz2⟩ := infoInt
  obtain ⟨cb, co, rfl, hcb, x0, x1, x2⟩ := hC.cellAt (j := i) (by omega)
  rw [hx] at x0 x1 x2
  simp only at x0 x1 x2
  have hcc := hC.2.1
  rw [hl] at hcc
  have d1 : (i : Int) < (nc : Int) := by omega
  have d2 : (i : Int) < (cc : Int) := by omega
  have f0 : (fuel == 0) = false := by simpa using hf
  have bb := sB_below #[.slice ra nr rc, .slice wa nw wc, .slice aa na ac, .int .i64 cf, .slice (some ⟨cb, co, none⟩) nc cc] (mC (i : Int) (fuel - 1) (.slice sA sn sc) r0 r1 r2 r3 (.slice oA on oc) false e0) w
  have y0 := (bb.cell (p := ⟨cb, co + i * 3, none⟩) hcb).trans x0
  have y1 := (bb.cell (p := ⟨cb, co + i * 3 + 1, none⟩) hcb).trans x1
  have y2 := (bb.cell (p := ⟨cb, co + i * 3 + 2, none⟩) hcb).trans x2
  obtain ⟨wr, hW⟩ : ∃ W, W = (sB #[.slice ra nr rc, .slice wa nw wc, .slice aa na ac, .int .i64 cf, .slice (some ⟨cb, co, none⟩) nc cc] (mC ((i : Int) + 1) (fuel - 1) (.slice sA sn sc) r0 r1 r2 r3 (.slice oA on oc) false e0) w).alloc (.cells #[.int .i64 4, .int .i64 k, .int .i64 b] 51) := ⟨_, rfl⟩
  have B0 : Hid (Below w.heap.size w wr) := Lib.hid (by rw [hW]; exact bnext (sB_below _ _ _) (below_alloc1 _ _))
  have C0 : Hid (Bk wr w.heap.size 26 #[.slice ra nr rc, .slice wa nw wc, .slice aa na ac, .int .i64 cf, .slice (some ⟨cb, co, none⟩) nc cc]) := Lib.hid (by rw [hW]; exact (sB_cmd _ _ _).alloc _)
  have X0 : Hid (Bk wr (w.heap.size + 1) 54 (mC ((i : Int) + 1) (fuel - 1) (.slice sA sn sc) r0 r1 r2 r3 (.slice oA on oc) false e0)) := Lib.hid (by rw [hW]; exact (sB_box _ _ _).alloc _)
  have R0 : Hid (Bk wr (w.heap.size + 1 + 1) 54 mZ) := Lib.hid (by rw [hW]; exact (sB_res _ _ _).alloc _)
  have I0 : Hid (Bk wr (w.heap.size + 1 + 1 + 1) 51 #[.int .i64 4, .int .i64 k, .int .i64 b]) := Lib.hid (by rw [hW]; exact rW_ins _ _ _ _)
  have hBX : Hid (∀ {n : Nat} {u : Value} (X : World), TurnR wr.heap.size 3 n u wr X → wr.heap.size ≤ X.heap.size) := Lib.hid (fun X hX => hX.1.size)
  have hWs : w.heap.size + 1 + 1 + 1 < wr.heap.size := I0.out.lt
  have HM := Lib.hid hM
  clear hC hx hl bb hM
  go_enter Try.func37, Try.ntmps37
  go_wp2
  rw [← hW]
  clear hW y0 y1 y2 x0 x1 x2 f0
  try simp only [List.append_eq, List.cons_append, List.nil_append]
  refine wp_region_saysK 15 (TurnR wr.heap.size 3 sn (.int .i64 v)) (TurnR.trans) wr (TurnR.of (Nat.le_refl _) (below_drew1 wr)) (by kernel_rfl) (by kernel_rfl) (by kernel_rfl) (by kernel_rfl) (by rfl) ?_
  simp only [List.take_succ_cons, List.take_zero, List.drop_succ_cons, List.drop_zero]
  refine walkK_new (noneV wr.heap.size 3) (by first | exact gs0 rfl | exact gs1 rfl rfl rfl) (fun v x y hb h => noneV_turn v x y hb h) (fun u X hX hd => ⟨_, _, exec_none _ _ _ rfl, TurnR.of (hBX.out X hX) (below_alloc1 _ _), _, rfl, World.ownsRow_lit X #[] 0 (hBX.out X hX) (by decide) rfl⟩) ?_
  apply walkK_norm
  · first | (simp only [List.nil_append]; rfl) | simp only [List.nil_append]
  refine walkK_is ?_ (by first | exact gs0 rfl | exact gs1 rfl rfl rfl) (fun _ => TurnR.refl _) (fun u X hX hd => ?_) ?_
  rotate_left
  · have e2 := (X0.out.below hX.1).cell 2
    have q1 := (I0.out.below hX.1).cell 1
    simp only [List.getElem?_toArray, List.getElem?_cons_zero, List.getElem?_cons_succ] at e2 q1
    have q2 := hQ2.out X _ (I0.out.below hX.1) rfl
    try simp at hd
    go_simp
    try rfl
  apply walkK_norm
  · first | (simp only [List.nil_append, List.cons_append]; rfl) | simp only [List.nil_append, List.cons_append]
  refine walkK_is ?_ (by first | exact gs0 rfl | exact gs1 rfl rfl rfl) (fun _ => TurnR.refl _) (fun u X hX hd => ?_) ?_
  rotate_left
  · have e2 := (X0.out.below hX.1).cell 2
    have q1 := (I0.out.below hX.1).cell 1
    simp only [List.getElem?_toArray, List.getElem?_cons_zero, List.getElem?_cons_succ] at e2 q1
    have q2 := hQ2.out X _ (I0.out.below hX.1) rfl
    try simp at hd
    go_simp
    try rfl
  apply walkK_norm
  · first | (simp only [List.nil_append, List.cons_append]; rfl) | simp only [List.nil_append, List.cons_append]
  refine walkK_new (listV wr.heap.size 3 sn (st.map (.int .i64))) (by first | exact gs0 rfl | exact gs1 rfl rfl rfl) (fun v x y hb h => listV_turn v x y hb h) (fun u X hX hd => ?_) ?_
  · simp at hd
    obtain ⟨⟨g, hg, ho⟩, h4⟩ := hd
    obtain ⟨v, w', hr, hb, hl⟩ := run_append_none (P := Try.prog) X 23 23 wr.heap.size 3 i0 _ 8 Try.underlying23 hi0 hz0 hz1 hz2 rfl (hBX.out X hX) g ho _ _ _ _ (HM.out.st.below (bnext B0.out hX.1)) (ints_oneC _) (by unfold maxLen; omega) (by omega)
    exact ⟨v, w', exec_append _ _ _ _ _ _ rfl (by go_simp) (by go_simp) hr, TurnR.of (hBX.out X hX) hb, hl⟩
  apply walkK_norm
  · first | (simp only [List.nil_append, List.cons_append]; rfl) | simp only [List.nil_append, List.cons_append]
  refine walkK_is ?_ (by first | exact gs0 rfl | exact gs1 rfl rfl rfl) (fun _ => TurnR.refl _) (fun u X hX hd => ?_) ?_
  rotate_left
  · have e2 := (X0.out.below hX.1).cell 2
    have q1 := (I0.out.below hX.1).cell 1
    simp only [List.getElem?_toArray, List.getElem?_cons_zero, List.getElem?_cons_succ] at e2 q1
    have q2 := hQ2.out X _ (I0.out.below hX.1) rfl
    try simp at hd
    go_simp
    try rfl
  apply walkK_norm
  · first | (simp only [List.nil_append, List.cons_append]; rfl) | simp only [List.nil_append, List.cons_append]
  refine walkK_is ?_ (by first | exact gs0 rfl | exact gs1 rfl rfl rfl) (fun _ => TurnR.refl _) (fun u X hX hd => ?_) ?_
  rotate_left
  · have e2 := (X0.out.below hX.1).cell 2
    have q1 := (I0.out.below hX.1).cell 1
    simp only [List.getElem?_toArray, List.getElem?_cons_zero, List.getElem?_cons_succ] at e2 q1
    have q2 := hQ2.out X _ (I0.out.below hX.1) rfl
    try simp at hd
    go_simp
    try rfl
  apply walkK_norm
  · first | (simp only [List.nil_append, List.cons_append]; rfl) | simp only [List.nil_append, List.cons_append]
  refine walkK_is ?_ (by first | exact gs0 rfl | exact gs1 rfl rfl rfl) (fun _ => TurnR.refl _) (fun u X hX hd => ?_) ?_
  rotate_left
  · have e2 := (X0.out.below hX.1).cell 2
    have q1 := (I0.out.below hX.1).cell 1
    simp only [List.getElem?_toArray, List.getElem?_cons_zero, List.getElem?_cons_succ] at e2 q1
    have q2 := hQ2.out X _ (I0.out.below hX.1) rfl
    try simp at hd
    go_simp
    try rfl
  apply walkK_norm
  · first | (simp only [List.nil_append, List.cons_append]; rfl) | simp only [List.nil_append, List.cons_append]
  refine walkK_is ?_ (by first | exact gs0 rfl | exact gs1 rfl rfl rfl) (fun _ => TurnR.refl _) (fun u X hX hd => ?_) ?_
  rotate_left
  · have e2 := (X0.out.below hX.1).cell 2
    have q1 := (I0.out.below hX.1).cell 1
    simp only [List.getElem?_toArray, List.getElem?_cons_zero, List.getElem?_cons_succ] at e2 q1
    have q2 := hQ2.out X _ (I0.out.below hX.1) rfl
    try simp at hd
    go_simp
    try rfl
  apply walkK_norm
  · first | (simp only [List.nil_append, List.cons_append]; rfl) | simp only [List.nil_append, List.cons_append]
  refine walkK_is (.agg cs) (by exact gs0 rfl) (fun _ => TurnR.refl _) (fun u X hX hd => ?_) ?_
  · have hlx := HL.out X (bnext B0.out hX.1)
    try simp at hd
    exact exec_load_at _ _ _ _ _ rfl (by go_simp) hlx
  apply walkK_norm
  · first | (simp only [List.nil_append, List.cons_append]; rfl) | simp only [List.nil_append, List.cons_append]
  refine walkK_is ?_ (by first | exact gs0 rfl | exact gs1 rfl rfl rfl) (fun _ => TurnR.refl _) (fun u X hX hd => ?_) ?_
  rotate_left
  · have e2 := (X0.out.below hX.1).cell 2
    have q1 := (I0.out.below hX.1).cell 1
    simp only [List.getElem?_toArray, List.getElem?_cons_zero, List.getElem?_cons_succ] at e2 q1
    have q2 := hQ2.out X _ (I0.out.below hX.1) rfl
    try simp at hd
    go_simp
    try rfl
  apply walkK_norm
  · first | (simp only [List.nil_append, List.cons_append]; rfl) | simp only [List.nil_append, List.cons_append]
  refine walkK_is ?_ (by first | exact gs0 rfl | exact gs1 rfl rfl rfl) (fun _ => TurnR.refl _) (fun u X hX hd => ?_) ?_
  rotate_left
  · have e2 := (X0.out.below hX.1).cell 2
    have q1 := (I0.out.below hX.1).cell 1
    simp only [List.getElem?_toArray, List.getElem?_cons_zero, List.getElem?_cons_succ] at e2 q1
    have q2 := hQ2.out X _ (I0.out.below hX.1) rfl
    try simp at hd
    go_simp
    try rfl
  apply walkK_norm
  · first | (simp only [List.nil_append, List.cons_append]; rfl) | simp only [List.nil_append, List.cons_append]
  refine walkK_call (isV (.int .i64 v)) 46 ?_ (by first | exact gs0 rfl | exact gs1 rfl rfl rfl) (fun _ _ _ _ h => h) (fun u X hX hd => ?_) (fun X hX => ?_) ?_
  rotate_left
  · have e2 := (X0.out.below hX.1).cell 2
    have q1 := (I0.out.below hX.1).cell 1
    simp only [List.getElem?_toArray, List.getElem?_cons_zero, List.getElem?_cons_succ] at e2 q1
    have q2 := hQ2.out X _ (I0.out.below hX.1) rfl
    try simp at hd
    go_simp
    try rfl
  · exact (hget.out X).mono fun e X' ⟨he, hb⟩ => ⟨_, he, TurnR.of (hBX.out X hX) hb, rfl⟩
  apply walkK_norm
  · first | (simp only [List.nil_append, List.cons_append]; rfl) | simp only [List.nil_append, List.cons_append]
  refine walkK_new (singV wr.heap.size 3 (.int .i64 v)) (by first | exact gs0 rfl | exact gs1 rfl rfl rfl) (fun v x y hb h => singV_turn v x y hb h) (fun u X hX hd => ⟨_, _, exec_sing _ _ _ _ rfl (by (try simp at hd); go_simp; try exact hd), TurnR.of (hBX.out X hX) (below_alloc1 _ _), _, rfl, World.ownsRow_lit X #[.int .i64 v] 1 (hBX.out X hX) (by decide) rfl⟩) ?_
  apply walkK_norm
  · first | (simp only [List.nil_append, List.cons_append]; rfl) | simp only [List.nil_append, List.cons_append]
  refine walkK_new (moreV wr.heap.size 3 sn (st.map (.int .i64)) (.int .i64 v)) (by first | exact gs0 rfl | exact gs1 rfl rfl rfl) (fun v x y hb h => moreV_turn v x y hb h) (fun u X hX hd => ?_) ?_
  · simp at hd
    obtain ⟨⟨A, c, hA, ho, hc⟩, ⟨g, hg, hs⟩, -⟩ := hd
    obtain ⟨v, w', hr, hb, hl⟩ := run_append_sing (P := Try.prog) X 23 23 wr.heap.size 3 i0 _ 8 Try.underlying23 hi0 hz0 hz1 hz2 rfl (hBX.out X hX) A _ c _ ho hc _ g hs rfl (by unfold maxLen; omega) (by omega)
    exact ⟨v, w', exec_append _ _ _ _ _ _ rfl (by go_simp) (by go_simp) hr, hb, hl⟩
  apply walkK_norm
  · first | (simp only [List.nil_append, List.cons_append]; rfl) | simp only [List.nil_append, List.cons_append]
  refine walkK_is ?_ (by first | exact gs0 rfl | exact gs1 rfl rfl rfl) (fun _ => TurnR.refl _) (fun u X hX hd => ?_) ?_
  rotate_left
  · have e2 := (X0.out.below hX.1).cell 2
    have q1 := (I0.out.below hX.1).cell 1
    simp only [List.getElem?_toArray, List.getElem?_cons_zero, List.getElem?_cons_succ] at e2 q1
    have q2 := hQ2.out X _ (I0.out.below hX.1) rfl
    try simp at hd
    go_simp
    try rfl
  apply walkK_norm
  · first | (simp only [List.nil_append, List.cons_append]; rfl) | simp only [List.nil_append, List.cons_append]
  intro u X hX hsay
  simp only [sayAll, isV] at hsay
  obtain ⟨⟨g0, v0, -⟩, v1, v2, ⟨A3, c3, v3, -⟩, v4, v5, v6, v7, v8, v9, v10, v11, ⟨g1, v12, -⟩, ⟨g2, c2, v13, ho2⟩, v14, -⟩ := hsay
  have XB := Lib.hid (X0.out.below hX.1)
  have RB := Lib.hid (R0.out.below hX.1)
  have z2 := XB.out.cell 2
  have zf := XB.out.frozen
  have zl := XB.out.lt
  simp only [List.getElem?_toArray, List.getElem?_cons_zero, List.getElem?_cons_succ] at z2
  have X2 : Hid (Bk (X.setCell ⟨w.heap.size + 1, 2, none⟩ (.slice (some ⟨g2, 0, none⟩) (sn + 1) c2)) (w.heap.size + 1) 54 (mC ((i : Int) + 1) (fuel - 1) (.slice (some ⟨g2, 0, none⟩) (sn + 1) c2) r0 r1 r2 r3 (.slice oA on oc) false e0)) := Lib.hid (by simpa using XB.out.set 2 (.slice (some ⟨g2, 0, none⟩) (sn + 1) c2))
  have R2 := Lib.hid (RB.out.far (p := ⟨w.heap.size + 1, 2, none⟩) (by simp) (.slice (some ⟨g2, 0, none⟩) (sn + 1) c2))
  have MX : Hid (MIn X (st ++ [v]) ou own (some ⟨g2, 0, none⟩) (sn + 1) c2 oA on oc (some ⟨gb, ob, none⟩) bn bc) := Lib.hid (by
    have hm := HM.out.below (bnext B0.out hX.1)
    refine ⟨?_, hm.ou, hm.bk⟩
    have := Sl.own' ho2
    simpa using this)
  have OX : Hid (∀ G, G < wr.heap.size → off3 G sA sn oA on (some ⟨gb, ob, none⟩) bn → off3 G (some ⟨g2, 0, none⟩) (sn + 1) oA on (some ⟨gb, ob, none⟩) bn) := Lib.hid (fun G hG h => ⟨own_offA ho2 hG, h.2⟩)
  have BX := Lib.hid (bnext B0.out hX.1)
  simp only [putAll, Act.put, v0, v1, v2, v3, v4, v5, v6, v7, v8, v9, v10, v11, v12, v13, v14, List.setIfInBounds_toArray, List.set_cons_succ, List.set_cons_zero]
  clear ho2 hX v0 v1 v2 v3 v4 v5 v6 v7 v8 v9 v10 v11 v12 v13 v14
  go_wp2_with (first
    | (with_reducible refine ld_mach (w.heap.size + 1) X2.out _ rfl rfl rfl ?_)
    | (with_reducible refine st_mach (w.heap.size + 1 + 1) R2.out rfl rfl _ _ rfl rfl rfl rfl ?_))
  exact bodyPost_ret (v := .tuple #[.agg (mC ((i : Int) + 1) (fuel - 1) (.slice (some ⟨g2, 0, none⟩) (sn + 1) c2) r0 r1 r2 r3 (.slice oA on oc) false e0), .slice (some ⟨gb, ob, none⟩) bn bc]) (res2_mach rfl _ _ (w.heap.size + 1 + 1) _ rfl rfl (Bk.setRow R2.out _)) rfl
    ⟨_, _, _, _, _, _, _, _, _, rfl, (MX.out.setCell (OX.out _ (by omega) (HM.out.offNew (by omega))) _ _).setRow (OX.out _ (by omega) (HM.out.offNew (by omega))) _, below_row (BX.out.setCell (p := ⟨w.heap.size + 1, 2, none⟩) (by simp) _) (by omega) _, fun G hG h => OX.out G (by omega) h⟩

set_option maxHeartbeats 4000000 in
set_option maxRecDepth 100000 in
theorem rstep6 (l : List Ins) (i : Nat) (k : Nat) (b : Int) (st ou : List Int) (own : Blks) (w : World) (hC : Inss w ca cc l) (hl : l.length = nc) (hi : i < nc) (hic : nc ≤ 1000) (hx : insAt l i = ⟨6, k, b⟩) (hM : MIn w st ou own sA sn sc oA on oc bA bn bc) (hf : fuel ≠ 0) (hf2 : 0 ≤ fuel ∧ fuel ≤ 1000) (args : List Int) (hk : k < args.length) (hna : args.length = na) (v : Int) (hv : v = args[k]?.getD 0) (hA : Ints w aa ac args) (hs : sn ≤ 1000) :
    Calls Try.prog 37 #[cmV ra nr rc wa nw wc aa na ac cf ca nc cc, .agg (mC (i : Int) fuel (.slice sA sn sc) r0 r1 r2 r3 (.slice oA on oc) false e0), .slice bA bn bc] w (RSPost ((i : Int) + 1) (fuel - 1) (st ++ [v]) r0 r1 r2 r3 ou false e0 own sA sn oA on bA bn w) := by
  obtain ⟨ga, oa, rfl, hga, ha0⟩ := hA.cellAt (j := k) (by omega)
  have hac := hA.2.1
  have d3 : (k : Int) < (na : Int) := by omega
  have d4 : (k : Int) < (ac : Int) := by omega
  have harg := Lib.hid (fun X (hX : Below w.heap.size w X) => (hX.cell (p := ⟨ga, oa + k, none⟩) hga).trans ha0)
  have hC2 : Hid (∀ (X : World) (cs : Array Value) (q : Value), Bk X w.heap.size 26 cs → cs[2]? = some q → X.cell? ⟨w.heap.size, 2, none⟩ = some q) := Lib.hid (fun X cs q hb he => by rw [hb.cell, he])
  subst hv
  generalize args[k]?.getD 0 = v at *
  clear hk hna hA hga ha0
  obtain ⟨i0, hi0, hz0, hz1, hz2⟩ := infoInt
  obtain ⟨cb, co, rfl, hcb, x0, x1, x2⟩ := hC.cellAt (j := i) (by omega)
  rw [hx] at x0 x1 x2
  simp only at x0 x1 x2
  have hcc := hC.2.1
  rw [hl] at hcc
  have d1 : (i : Int) < (nc : Int) := by omega
  have d2 : (i : Int) < (cc : Int) := by omega
  have f0 : (fuel == 0) = false := by simpa using hf
  have bb := sB_below #[.slice ra nr rc, .slice wa nw wc, .slice (some ⟨ga, oa, none⟩) na ac, .int .i64 cf, .slice (some ⟨cb, co, none⟩) nc cc] (mC (i : Int) (fuel - 1) (.slice sA sn sc) r0 r1 r2 r3 (.slice oA on oc) false e0) w
  have y0 := (bb.cell (p := ⟨cb, co + i * 3, none⟩) hcb).trans x0
  have y1 := (bb.cell (p := ⟨cb, co + i * 3 + 1, none⟩) hcb).trans x1
  have y2 := (bb.cell (p := ⟨cb, co + i * 3 + 2, none⟩) hcb).trans x2
  obtain ⟨wr, hW⟩ : ∃ W, W = (sB #[.slice ra nr rc, .slice wa nw wc, .slice (some ⟨ga, oa, none⟩) na ac, .int .i64 cf, .slice (some ⟨cb, co, none⟩) nc cc] (mC ((i : Int) + 1) (fuel - 1) (.slice sA sn sc) r0 r1 r2 r3 (.slice oA on oc) false e0) w).alloc (.cells #[.int .i64 6, .int .i64 k, .int .i64 b] 51) := ⟨_, rfl⟩
  have B0 : Hid (Below w.heap.size w wr) := Lib.hid (by rw [hW]; exact bnext (sB_below _ _ _) (below_alloc1 _ _))
  have C0 : Hid (Bk wr w.heap.size 26 #[.slice ra nr rc, .slice wa nw wc, .slice (some ⟨ga, oa, none⟩) na ac, .int .i64 cf, .slice (some ⟨cb, co, none⟩) nc cc]) := Lib.hid (by rw [hW]; exact (sB_cmd _ _ _).alloc _)
  have X0 : Hid (Bk wr (w.heap.size + 1) 54 (mC ((i : Int) + 1) (fuel - 1) (.slice sA sn sc) r0 r1 r2 r3 (.slice oA on oc) false e0)) := Lib.hid (by rw [hW]; exact (sB_box _ _ _).alloc _)
  have R0 : Hid (Bk wr (w.heap.size + 1 + 1) 54 mZ) := Lib.hid (by rw [hW]; exact (sB_res _ _ _).alloc _)
  have I0 : Hid (Bk wr (w.heap.size + 1 + 1 + 1) 51 #[.int .i64 6, .int .i64 k, .int .i64 b]) := Lib.hid (by rw [hW]; exact rW_ins _ _ _ _)
  have hBX : Hid (∀ {n : Nat} {u : Value} (X : World), TurnR wr.heap.size 3 n u wr X → wr.heap.size ≤ X.heap.size) := Lib.hid (fun X hX => hX.1.size)
  have hWs : w.heap.size + 1 + 1 + 1 < wr.heap.size := I0.out.lt
  have HM := Lib.hid hM
  clear hC hx hl bb hM
  go_enter Try.func37, Try.ntmps37
  go_wp2
  rw [← hW]
  clear hW y0 y1 y2 x0 x1 x2 f0
  try simp only [List.append_eq, List.cons_append, List.nil_append]
  refine wp_region_saysK 13 (TurnR wr.heap.size 3 sn (.int .i64 v)) (TurnR.trans) wr (TurnR.of (Nat.le_refl _) (below_drew1 wr)) (by kernel_rfl) (by kernel_rfl) (by kernel_rfl) (by kernel_rfl) (by rfl) ?_
  simp only [List.take_succ_cons, List.take_zero, List.drop_succ_cons, List.drop_zero]
  refine walkK_new (noneV wr.heap.size 3) (by first | exact gs0 rfl | exact gs1 rfl rfl rfl) (fun v x y hb h => noneV_turn v x y hb h) (fun u X hX hd => ⟨_, _, exec_none _ _ _ rfl, TurnR.of (hBX.out X hX) (below_alloc1 _ _), _, rfl, World.ownsRow_lit X #[] 0 (hBX.out X hX) (by decide) rfl⟩) ?_
  apply walkK_norm
  · first | (simp only [List.nil_append]; rfl) | simp only [List.nil_append]
  refine walkK_is ?_ (by first | exact gs0 rfl | exact gs1 rfl rfl rfl) (fun _ => TurnR.refl _) (fun u X hX hd => ?_) ?_
  rotate_left
  · have e2 := (X0.out.below hX.1).cell 2
    have q1 := (I0.out.below hX.1).cell 1
    simp only [List.getElem?_toArray, List.getElem?_cons_zero, List.getElem?_cons_succ] at e2 q1
    have q3 := hC2.out X _ _ (C0.out.below hX.1) rfl
    have q4 := harg.out X (bnext B0.out hX.1)
    try simp at hd
    go_simp
    try rfl
  apply walkK_norm
  · first | (simp only [List.nil_append, List.cons_append]; rfl) | simp only [List.nil_append, List.cons_append]
  refine walkK_is ?_ (by first | exact gs0 rfl | exact gs1 rfl rfl rfl) (fun _ => TurnR.refl _) (fun u X hX hd => ?_) ?_
  rotate_left
  · have e2 := (X0.out.below hX.1).cell 2
    have q1 := (I0.out.below hX.1).cell 1
    simp only [List.getElem?_toArray, List.getElem?_cons_zero, List.getElem?_cons_succ] at e2 q1
    have q3 := hC2.out X _ _ (C0.out.below hX.1) rfl
    have q4 := harg.out X (bnext B0.out hX.1)
    try simp at hd
    go_simp
    try rfl
  apply walkK_norm
  · first | (simp only [List.nil_append, List.cons_append]; rfl) | simp only [List.nil_append, List.cons_append]
  refine walkK_new (listV wr.heap.size 3 sn (st.map (.int .i64))) (by first | exact gs0 rfl | exact gs1 rfl rfl rfl) (fun v x y hb h => listV_turn v x y hb h) (fun u X hX hd => ?_) ?_
  · simp at hd
    obtain ⟨⟨g, hg, ho⟩, h4⟩ := hd
    obtain ⟨v, w', hr, hb, hl⟩ := run_append_none (P := Try.prog) X 23 23 wr.heap.size 3 i0 _ 8 Try.underlying23 hi0 hz0 hz1 hz2 rfl (hBX.out X hX) g ho _ _ _ _ (HM.out.st.below (bnext B0.out hX.1)) (ints_oneC _) (by unfold maxLen; omega) (by omega)
    exact ⟨v, w', exec_append _ _ _ _ _ _ rfl (by go_simp) (by go_simp) hr, TurnR.of (hBX.out X hX) hb, hl⟩
  apply walkK_norm
  · first | (simp only [List.nil_append, List.cons_append]; rfl) | simp only [List.nil_append, List.cons_append]
  refine walkK_is ?_ (by first | exact gs0 rfl | exact gs1 rfl rfl rfl) (fun _ => TurnR.refl _) (fun u X hX hd => ?_) ?_
  rotate_left
  · have e2 := (X0.out.below hX.1).cell 2
    have q1 := (I0.out.below hX.1).cell 1
    simp only [List.getElem?_toArray, List.getElem?_cons_zero, List.getElem?_cons_succ] at e2 q1
    have q3 := hC2.out X _ _ (C0.out.below hX.1) rfl
    have q4 := harg.out X (bnext B0.out hX.1)
    try simp at hd
    go_simp
    try rfl
  apply walkK_norm
  · first | (simp only [List.nil_append, List.cons_append]; rfl) | simp only [List.nil_append, List.cons_append]
  refine walkK_is ?_ (by first | exact gs0 rfl | exact gs1 rfl rfl rfl) (fun _ => TurnR.refl _) (fun u X hX hd => ?_) ?_
  rotate_left
  · have e2 := (X0.out.below hX.1).cell 2
    have q1 := (I0.out.below hX.1).cell 1
    simp only [List.getElem?_toArray, List.getElem?_cons_zero, List.getElem?_cons_succ] at e2 q1
    have q3 := hC2.out X _ _ (C0.out.below hX.1) rfl
    have q4 := harg.out X (bnext B0.out hX.1)
    try simp at hd
    go_simp
    try rfl
  apply walkK_norm
  · first | (simp only [List.nil_append, List.cons_append]; rfl) | simp only [List.nil_append, List.cons_append]
  refine walkK_is ?_ (by first | exact gs0 rfl | exact gs1 rfl rfl rfl) (fun _ => TurnR.refl _) (fun u X hX hd => ?_) ?_
  rotate_left
  · have e2 := (X0.out.below hX.1).cell 2
    have q1 := (I0.out.below hX.1).cell 1
    simp only [List.getElem?_toArray, List.getElem?_cons_zero, List.getElem?_cons_succ] at e2 q1
    have q3 := hC2.out X _ _ (C0.out.below hX.1) rfl
    have q4 := harg.out X (bnext B0.out hX.1)
    try simp at hd
    go_simp
    try rfl
  apply walkK_norm
  · first | (simp only [List.nil_append, List.cons_append]; rfl) | simp only [List.nil_append, List.cons_append]
  refine walkK_is ?_ (by first | exact gs0 rfl | exact gs1 rfl rfl rfl) (fun _ => TurnR.refl _) (fun u X hX hd => ?_) ?_
  rotate_left
  · have e2 := (X0.out.below hX.1).cell 2
    have q1 := (I0.out.below hX.1).cell 1
    simp only [List.getElem?_toArray, List.getElem?_cons_zero, List.getElem?_cons_succ] at e2 q1
    have q3 := hC2.out X _ _ (C0.out.below hX.1) rfl
    have q4 := harg.out X (bnext B0.out hX.1)
    try simp at hd
    go_simp
    try rfl
  apply walkK_norm
  · first | (simp only [List.nil_append, List.cons_append]; rfl) | simp only [List.nil_append, List.cons_append]
  refine walkK_is ?_ (by first | exact gs0 rfl | exact gs1 rfl rfl rfl) (fun _ => TurnR.refl _) (fun u X hX hd => ?_) ?_
  rotate_left
  · have e2 := (X0.out.below hX.1).cell 2
    have q1 := (I0.out.below hX.1).cell 1
    simp only [List.getElem?_toArray, List.getElem?_cons_zero, List.getElem?_cons_succ] at e2 q1
    have q3 := hC2.out X _ _ (C0.out.below hX.1) rfl
    have q4 := harg.out X (bnext B0.out hX.1)
    try simp at hd
    go_simp
    try rfl
  apply walkK_norm
  · first | (simp only [List.nil_append, List.cons_append]; rfl) | simp only [List.nil_append, List.cons_append]
  refine walkK_is ?_ (by first | exact gs0 rfl | exact gs1 rfl rfl rfl) (fun _ => TurnR.refl _) (fun u X hX hd => ?_) ?_
  rotate_left
  · have e2 := (X0.out.below hX.1).cell 2
    have q1 := (I0.out.below hX.1).cell 1
    simp only [List.getElem?_toArray, List.getElem?_cons_zero, List.getElem?_cons_succ] at e2 q1
    have q3 := hC2.out X _ _ (C0.out.below hX.1) rfl
    have q4 := harg.out X (bnext B0.out hX.1)
    try simp at hd
    go_simp
    try rfl
  apply walkK_norm
  · first | (simp only [List.nil_append, List.cons_append]; rfl) | simp only [List.nil_append, List.cons_append]
  refine walkK_new (singV wr.heap.size 3 (.int .i64 v)) (by first | exact gs0 rfl | exact gs1 rfl rfl rfl) (fun v x y hb h => singV_turn v x y hb h) (fun u X hX hd => ⟨_, _, exec_sing _ _ _ _ rfl (by (try simp at hd); go_simp; try exact hd), TurnR.of (hBX.out X hX) (below_alloc1 _ _), _, rfl, World.ownsRow_lit X #[.int .i64 v] 1 (hBX.out X hX) (by decide) rfl⟩) ?_
  apply walkK_norm
  · first | (simp only [List.nil_append, List.cons_append]; rfl) | simp only [List.nil_append, List.cons_append]
  refine walkK_new (moreV wr.heap.size 3 sn (st.map (.int .i64)) (.int .i64 v)) (by first | exact gs0 rfl | exact gs1 rfl rfl rfl) (fun v x y hb h => moreV_turn v x y hb h) (fun u X hX hd => ?_) ?_
  · simp at hd
    obtain ⟨⟨A, c, hA, ho, hc⟩, ⟨g, hg, hs⟩, -⟩ := hd
    obtain ⟨v, w', hr, hb, hl⟩ := run_append_sing (P := Try.prog) X 23 23 wr.heap.size 3 i0 _ 8 Try.underlying23 hi0 hz0 hz1 hz2 rfl (hBX.out X hX) A _ c _ ho hc _ g hs rfl (by unfold maxLen; omega) (by omega)
    exact ⟨v, w', exec_append _ _ _ _ _ _ rfl (by go_simp) (by go_simp) hr, hb, hl⟩
  apply walkK_norm
  · first | (simp only [List.nil_append, List.cons_append]; rfl) | simp only [List.nil_append, List.cons_append]
  refine walkK_is ?_ (by first | exact gs0 rfl | exact gs1 rfl rfl rfl) (fun _ => TurnR.refl _) (fun u X hX hd => ?_) ?_
  rotate_left
  · have e2 := (X0.out.below hX.1).cell 2
    have q1 := (I0.out.below hX.1).cell 1
    simp only [List.getElem?_toArray, List.getElem?_cons_zero, List.getElem?_cons_succ] at e2 q1
    have q3 := hC2.out X _ _ (C0.out.below hX.1) rfl
    have q4 := harg.out X (bnext B0.out hX.1)
    try simp at hd
    go_simp
    try rfl
  apply walkK_norm
  · first | (simp only [List.nil_append, List.cons_append]; rfl) | simp only [List.nil_append, List.cons_append]
  intro u X hX hsay
  simp only [sayAll, isV] at hsay
  obtain ⟨⟨g0, v0, -⟩, v1, v2, ⟨A3, c3, v3, -⟩, v4, v5, v6, v7, v8, v9, ⟨g1, v10, -⟩, ⟨g2, c2, v11, ho2⟩, v12, -⟩ := hsay
  have XB := Lib.hid (X0.out.below hX.1)
  have RB := Lib.hid (R0.out.below hX.1)
  have z2 := XB.out.cell 2
  have zf := XB.out.frozen
  have zl := XB.out.lt
  simp only [List.getElem?_toArray, List.getElem?_cons_zero, List.getElem?_cons_succ] at z2
  have X2 : Hid (Bk (X.setCell ⟨w.heap.size + 1, 2, none⟩ (.slice (some ⟨g2, 0, none⟩) (sn + 1) c2)) (w.heap.size + 1) 54 (mC ((i : Int) + 1) (fuel - 1) (.slice (some ⟨g2, 0, none⟩) (sn + 1) c2) r0 r1 r2 r3 (.slice oA on oc) false e0)) := Lib.hid (by simpa using XB.out.set 2 (.slice (some ⟨g2, 0, none⟩) (sn + 1) c2))
  have R2 := Lib.hid (RB.out.far (p := ⟨w.heap.size + 1, 2, none⟩) (by simp) (.slice (some ⟨g2, 0, none⟩) (sn + 1) c2))
  have MX : Hid (MIn X (st ++ [v]) ou own (some ⟨g2, 0, none⟩) (sn + 1) c2 oA on oc bA bn bc) := Lib.hid (by
    have hm := HM.out.below (bnext B0.out hX.1)
    refine ⟨?_, hm.ou, hm.bk⟩
    have := Sl.own' ho2
    simpa using this)
  have OX : Hid (∀ G, G < wr.heap.size → off3 G sA sn oA on bA bn → off3 G (some ⟨g2, 0, none⟩) (sn + 1) oA on bA bn) := Lib.hid (fun G hG h => ⟨own_offA ho2 hG, h.2⟩)
  have BX := Lib.hid (bnext B0.out hX.1)
  simp only [putAll, Act.put, v0, v1, v2, v3, v4, v5, v6, v7, v8, v9, v10, v11, v12, List.setIfInBounds_toArray, List.set_cons_succ, List.set_cons_zero]
  clear ho2 hX v0 v1 v2 v3 v4 v5 v6 v7 v8 v9 v10 v11 v12
  go_wp2_with (first
    | (with_reducible refine ld_mach (w.heap.size + 1) X2.out _ rfl rfl rfl ?_)
    | (with_reducible refine st_mach (w.heap.size + 1 + 1) R2.out rfl rfl _ _ rfl rfl rfl rfl ?_))
  exact bodyPost_ret (v := .tuple #[.agg (mC ((i : Int) + 1) (fuel - 1) (.slice (some ⟨g2, 0, none⟩) (sn + 1) c2) r0 r1 r2 r3 (.slice oA on oc) false e0), .slice bA bn bc]) (res2_mach rfl _ _ (w.heap.size + 1 + 1) _ rfl rfl (Bk.setRow R2.out _)) rfl
    ⟨_, _, _, _, _, _, _, _, _, rfl, (MX.out.setCell (OX.out _ (by omega) (HM.out.offNew (by omega))) _ _).setRow (OX.out _ (by omega) (HM.out.offNew (by omega))) _, below_row (BX.out.setCell (p := ⟨w.heap.size + 1, 2, none⟩) (by simp) _) (by omega) _, fun G hG h => OX.out G (by omega) h⟩

end
end Go.Proofs.Ytibmfhmeoohdeaa

/-
  What the reference's Step of layer 10 answers, in whatever memory: of a machine that is over, one without fuel, and a go, a stop, an end. No conditions but those that stand there.
-/
namespace Go.Proofs.Ytibmfhmeoohdeaa
open Go.RowKit
attribute [local go_sem] look findAt
attribute [local simp] depsOf isV Region.binds

section
variable (ra : Option Addr) (nr rc : Nat) (wa : Option Addr) (nw wc : Nat) (aa : Option Addr) (na ac : Nat) (cf : Int) (ca : Option Addr) (nc cc : Nat)
variable (fuel : Int) (sA : Option Addr) (sn sc : Nat) (r0 r1 r2 r3 : Int) (oA : Option Addr) (on oc : Nat) (e0 : Int) (bA : Option Addr) (bn bc : Nat)
variable (pc : Int)

set_option maxHeartbeats 2000000 in
set_option maxRecDepth 100000 in
theorem rstep_over (st ou : List Int) (own : Blks) (w : World) (hM : MIn w st ou own sA sn sc oA on oc bA bn bc) :
    Calls Try.prog 37 #[cmV ra nr rc wa nw wc aa na ac cf ca nc cc, .agg (mC pc fuel (.slice sA sn sc) r0 r1 r2 r3 (.slice oA on oc) true e0), .slice bA bn bc] w (RSPost pc fuel st r0 r1 r2 r3 ou true e0 own sA sn oA on bA bn w) := by
  have B0 : Hid (Below w.heap.size w (sB #[.slice ra nr rc, .slice wa nw wc, .slice aa na ac, .int .i64 cf, .slice ca nc cc] (mC pc fuel (.slice sA sn sc) r0 r1 r2 r3 (.slice oA on oc) true e0) w)) := Lib.hid (sB_below _ _ _)
  have X0 : Hid (Bk (sB #[.slice ra nr rc, .slice wa nw wc, .slice aa na ac, .int .i64 cf, .slice ca nc cc] (mC pc fuel (.slice sA sn sc) r0 r1 r2 r3 (.slice oA on oc) true e0) w) (w.heap.size + 1) 54 (mC pc fuel (.slice sA sn sc) r0 r1 r2 r3 (.slice oA on oc) true e0)) := Lib.hid ((sB_box _ _ _))
  have R0 : Hid (Bk (sB #[.slice ra nr rc, .slice wa nw wc, .slice aa na ac, .int .i64 cf, .slice ca nc cc] (mC pc fuel (.slice sA sn sc) r0 r1 r2 r3 (.slice oA on oc) true e0) w) (w.heap.size + 1 + 1) 54 mZ) := Lib.hid ((sB_res _ _ _))
  have HM := Lib.hid hM
  clear hM
  go_enter Try.func37, Try.ntmps37
  go_wp2_with (first
    | (with_reducible refine ld_mach (w.heap.size + 1) X0.out _ rfl rfl rfl ?_)
    | (with_reducible refine st_mach (w.heap.size + 1 + 1) R0.out rfl rfl _ _ rfl rfl rfl rfl ?_))
  exact bodyPost_ret (v := .tuple #[.agg (mC pc fuel (.slice sA sn sc) r0 r1 r2 r3 (.slice oA on oc) true e0), .slice bA bn bc]) (res2_mach rfl _ _ (w.heap.size + 1 + 1) _ rfl rfl (Bk.setRow R0.out _)) rfl
    ⟨_, _, _, _, _, _, _, _, _, rfl, (MIn.setRow (HM.out.below B0.out) (HM.out.offNew (by omega)) _), below_row B0.out (by omega) _, fun G hG h => h⟩

set_option maxHeartbeats 2000000 in
set_option maxRecDepth 100000 in
theorem rstep_nofuel (st ou : List Int) (own : Blks) (w : World) (hM : MIn w st ou own sA sn sc oA on oc bA bn bc) :
    Calls Try.prog 37 #[cmV ra nr rc wa nw wc aa na ac cf ca nc cc, .agg (mC pc 0 (.slice sA sn sc) r0 r1 r2 r3 (.slice oA on oc) false e0), .slice bA bn bc] w (RSPost pc 0 st r0 r1 r2 r3 [] true 11 own sA sn oA on bA bn w) := by
  have hov := Lib.hid (fun W => rover_bad pc 0 sA sn sc r0 r1 r2 r3 oA on oc false e0 11 (by decide) W)
  have B0 : Hid (Below w.heap.size w (sB #[.slice ra nr rc, .slice wa nw wc, .slice aa na ac, .int .i64 cf, .slice ca nc cc] (mC pc 0 (.slice sA sn sc) r0 r1 r2 r3 (.slice oA on oc) false e0) w)) := Lib.hid (sB_below _ _ _)
  have X0 : Hid (Bk (sB #[.slice ra nr rc, .slice wa nw wc, .slice aa na ac, .int .i64 cf, .slice ca nc cc] (mC pc 0 (.slice sA sn sc) r0 r1 r2 r3 (.slice oA on oc) false e0) w) (w.heap.size + 1) 54 (mC pc 0 (.slice sA sn sc) r0 r1 r2 r3 (.slice oA on oc) false e0)) := Lib.hid ((sB_box _ _ _))
  have R0 : Hid (Bk (sB #[.slice ra nr rc, .slice wa nw wc, .slice aa na ac, .int .i64 cf, .slice ca nc cc] (mC pc 0 (.slice sA sn sc) r0 r1 r2 r3 (.slice oA on oc) false e0) w) (w.heap.size + 1 + 1) 54 mZ) := Lib.hid ((sB_res _ _ _))
  have HM := Lib.hid hM
  clear hM
  go_enter Try.func37, Try.ntmps37
  go_wp2_with (first
    | (with_reducible refine ld_mach (w.heap.size + 1) X0.out _ rfl rfl rfl ?_)
    | (go_at_call 45; go_must ((with_reducible refine (hov.out _).mono ?_); rintro e w1 ⟨rfl, hb1⟩; have R1 := Lib.hid (R0.out.below hb1); have B1 := Lib.hid (bnext B0.out hb1); have M1 := Lib.hid ((HM.out.below B0.out).below hb1); clear hb1))
    | (with_reducible refine st_mach (w.heap.size + 1 + 1) R1.out rfl rfl _ _ rfl rfl rfl rfl ?_))
  exact bodyPost_ret (v := .tuple #[.agg (mC pc 0 (.slice sA sn sc) r0 r1 r2 r3 (.slice none 0 0) true 11), .slice bA bn bc]) (res2_mach rfl _ _ (w.heap.size + 1 + 1) _ rfl rfl (Bk.setRow R1.out _)) rfl
    ⟨_, _, _, _, _, _, _, _, _, rfl, (MIn.setRow (⟨M1.out.st, ⟨rfl, Nat.le_refl _, fun _ => ⟨rfl, rfl⟩, fun h => absurd h (by omega)⟩, M1.out.bk⟩) (⟨(HM.out.offNew (by omega)).1, fun h => absurd h (by omega), (HM.out.offNew (by omega)).2.2⟩) _), below_row B1.out (by omega) _, fun G hG h => ⟨h.1, fun h => absurd h (by omega), h.2.2⟩⟩

set_option maxHeartbeats 4000000 in
set_option maxRecDepth 100000 in
theorem rstep14 (l : List Ins) (i : Nat) (a b : Int) (st ou : List Int) (own : Blks) (w : World) (hC : Inss w ca cc l) (hl : l.length = nc) (hi : i < nc) (hic : nc ≤ 1000) (hx : insAt l i = ⟨14, a, b⟩) (hM : MIn w st ou own sA sn sc oA on oc bA bn bc) (hf : fuel ≠ 0) (hf2 : 0 ≤ fuel ∧ fuel ≤ 1000) (ha : 0 ≤ a ∧ a ≤ 1000) :
    Calls Try.prog 37 #[cmV ra nr rc wa nw wc aa na ac cf ca nc cc, .agg (mC (i : Int) fuel (.slice sA sn sc) r0 r1 r2 r3 (.slice oA on oc) false e0), .slice bA bn bc] w (RSPost ((i : Int) + 1 + a) (fuel - 1) st r0 r1 r2 r3 ou false e0 own sA sn oA on bA bn w) := by
  obtain ⟨cb, co, rfl, hcb, x0, x1, x2⟩ := hC.cellAt (j := i) (by omega)
  rw [hx] at x0 x1 x2
  simp only at x0 x1 x2
  have hcc := hC.2.1
  rw [hl] at hcc
  have d1 : (i : Int) < (nc : Int) := by omega
  have d2 : (i : Int) < (cc : Int) := by omega
  have f0 : (fuel == 0) = false := by simpa using hf
  have bb := sB_below #[.slice ra nr rc, .slice wa nw wc, .slice aa na ac, .int .i64 cf, .slice (some ⟨cb, co, none⟩) nc cc] (mC (i : Int) (fuel - 1) (.slice sA sn sc) r0 r1 r2 r3 (.slice oA on oc) false e0) w
  have y0 := (bb.cell (p := ⟨cb, co + i * 3, none⟩) hcb).trans x0
  have y1 := (bb.cell (p := ⟨cb, co + i * 3 + 1, none⟩) hcb).trans x1
  have y2 := (bb.cell (p := ⟨cb, co + i * 3 + 2, none⟩) hcb).trans x2
  have HM := Lib.hid hM
  clear hC hx hl bb hM
  have B0 : Hid (Below w.heap.size w ((sB #[.slice ra nr rc, .slice wa nw wc, .slice aa na ac, .int .i64 cf, .slice (some ⟨cb, co, none⟩) nc cc] (mC ((i : Int) + 1 + a) (fuel - 1) (.slice sA sn sc) r0 r1 r2 r3 (.slice oA on oc) false e0) w).alloc (.cells #[.int .i64 14, .int .i64 a, .int .i64 b] 51))) := Lib.hid (bnext (sB_below _ _ _) (below_alloc1 _ _))
  have X0 : Hid (Bk ((sB #[.slice ra nr rc, .slice wa nw wc, .slice aa na ac, .int .i64 cf, .slice (some ⟨cb, co, none⟩) nc cc] (mC ((i : Int) + 1 + a) (fuel - 1) (.slice sA sn sc) r0 r1 r2 r3 (.slice oA on oc) false e0) w).alloc (.cells #[.int .i64 14, .int .i64 a, .int .i64 b] 51)) (w.heap.size + 1) 54 (mC ((i : Int) + 1 + a) (fuel - 1) (.slice sA sn sc) r0 r1 r2 r3 (.slice oA on oc) false e0)) := Lib.hid ((sB_box _ _ _).alloc _)
  have R0 : Hid (Bk ((sB #[.slice ra nr rc, .slice wa nw wc, .slice aa na ac, .int .i64 cf, .slice (some ⟨cb, co, none⟩) nc cc] (mC ((i : Int) + 1 + a) (fuel - 1) (.slice sA sn sc) r0 r1 r2 r3 (.slice oA on oc) false e0) w).alloc (.cells #[.int .i64 14, .int .i64 a, .int .i64 b] 51)) (w.heap.size + 1 + 1) 54 mZ) := Lib.hid ((sB_res _ _ _).alloc _)
  go_enter Try.func37, Try.ntmps37
  go_wp2_with (first
    | (with_reducible refine ld_mach (w.heap.size + 1) X0.out _ rfl rfl rfl ?_)
    | (with_reducible refine st_mach (w.heap.size + 1 + 1) R0.out rfl rfl _ _ rfl rfl rfl rfl ?_))
  exact bodyPost_ret (v := .tuple #[.agg (mC ((i : Int) + 1 + a) (fuel - 1) (.slice sA sn sc) r0 r1 r2 r3 (.slice oA on oc) false e0), .slice bA bn bc]) (res2_mach rfl _ _ (w.heap.size + 1 + 1) _ rfl rfl (Bk.setRow R0.out _)) rfl
    ⟨_, _, _, _, _, _, _, _, _, rfl, (MIn.setRow (HM.out.below B0.out) (HM.out.offNew (by omega)) _), below_row B0.out (by omega) _, fun G hG h => h⟩

set_option maxHeartbeats 4000000 in
set_option maxRecDepth 100000 in
theorem rstep16 (l : List Ins) (i : Nat) (a b : Int) (st ou : List Int) (own : Blks) (w : World) (hC : Inss w ca cc l) (hl : l.length = nc) (hi : i < nc) (hic : nc ≤ 1000) (hx : insAt l i = ⟨16, a, b⟩) (hM : MIn w st ou own sA sn sc oA on oc bA bn bc) (hf : fuel ≠ 0) (hf2 : 0 ≤ fuel ∧ fuel ≤ 1000) :
    Calls Try.prog 37 #[cmV ra nr rc wa nw wc aa na ac cf ca nc cc, .agg (mC (i : Int) fuel (.slice sA sn sc) r0 r1 r2 r3 (.slice oA on oc) false e0), .slice bA bn bc] w (RSPost ((i : Int) + 1) (fuel - 1) st r0 r1 r2 r3 [] true 13 own sA sn oA on bA bn w) := by
  obtain ⟨cb, co, rfl, hcb, x0, x1, x2⟩ := hC.cellAt (j := i) (by omega)
  rw [hx] at x0 x1 x2
  simp only at x0 x1 x2
  have hcc := hC.2.1
  rw [hl] at hcc
  have d1 : (i : Int) < (nc : Int) := by omega
  have d2 : (i : Int) < (cc : Int) := by omega
  have f0 : (fuel == 0) = false := by simpa using hf
  have bb := sB_below #[.slice ra nr rc, .slice wa nw wc, .slice aa na ac, .int .i64 cf, .slice (some ⟨cb, co, none⟩) nc cc] (mC (i : Int) (fuel - 1) (.slice sA sn sc) r0 r1 r2 r3 (.slice oA on oc) false e0) w
  have y0 := (bb.cell (p := ⟨cb, co + i * 3, none⟩) hcb).trans x0
  have y1 := (bb.cell (p := ⟨cb, co + i * 3 + 1, none⟩) hcb).trans x1
  have y2 := (bb.cell (p := ⟨cb, co + i * 3 + 2, none⟩) hcb).trans x2
  have HM := Lib.hid hM
  clear hC hx hl bb hM
  have hov := Lib.hid (fun W => rover_bad ((i : Int) + 1) (fuel - 1) sA sn sc r0 r1 r2 r3 oA on oc false e0 13 (by decide) W)
  have B0 : Hid (Below w.heap.size w ((sB #[.slice ra nr rc, .slice wa nw wc, .slice aa na ac, .int .i64 cf, .slice (some ⟨cb, co, none⟩) nc cc] (mC ((i : Int) + 1) (fuel - 1) (.slice sA sn sc) r0 r1 r2 r3 (.slice oA on oc) false e0) w).alloc (.cells #[.int .i64 16, .int .i64 a, .int .i64 b] 51))) := Lib.hid (bnext (sB_below _ _ _) (below_alloc1 _ _))
  have X0 : Hid (Bk ((sB #[.slice ra nr rc, .slice wa nw wc, .slice aa na ac, .int .i64 cf, .slice (some ⟨cb, co, none⟩) nc cc] (mC ((i : Int) + 1) (fuel - 1) (.slice sA sn sc) r0 r1 r2 r3 (.slice oA on oc) false e0) w).alloc (.cells #[.int .i64 16, .int .i64 a, .int .i64 b] 51)) (w.heap.size + 1) 54 (mC ((i : Int) + 1) (fuel - 1) (.slice sA sn sc) r0 r1 r2 r3 (.slice oA on oc) false e0)) := Lib.hid ((sB_box _ _ _).alloc _)
  have R0 : Hid (Bk ((sB #[.slice ra nr rc, .slice wa nw wc, .slice aa na ac, .int .i64 cf, .slice (some ⟨cb, co, none⟩) nc cc] (mC ((i : Int) + 1) (fuel - 1) (.slice sA sn sc) r0 r1 r2 r3 (.slice oA on oc) false e0) w).alloc (.cells #[.int .i64 16, .int .i64 a, .int .i64 b] 51)) (w.heap.size + 1 + 1) 54 mZ) := Lib.hid ((sB_res _ _ _).alloc _)
  go_enter Try.func37, Try.ntmps37
  go_wp2_with (first
    | (with_reducible refine ld_mach (w.heap.size + 1) X0.out _ rfl rfl rfl ?_)
    | (go_at_call 45; go_must ((with_reducible refine (hov.out _).mono ?_); rintro e w1 ⟨rfl, hb1⟩; have R1 := Lib.hid (R0.out.below hb1); have B1 := Lib.hid (bnext B0.out hb1); have M1 := Lib.hid ((HM.out.below B0.out).below hb1); clear hb1))
    | (with_reducible refine st_mach (w.heap.size + 1 + 1) R1.out rfl rfl _ _ rfl rfl rfl rfl ?_))
  exact bodyPost_ret (v := .tuple #[.agg (mC ((i : Int) + 1) (fuel - 1) (.slice sA sn sc) r0 r1 r2 r3 (.slice none 0 0) true 13), .slice bA bn bc]) (res2_mach rfl _ _ (w.heap.size + 1 + 1) _ rfl rfl (Bk.setRow R1.out _)) rfl
    ⟨_, _, _, _, _, _, _, _, _, rfl, (MIn.setRow (⟨M1.out.st, ⟨rfl, Nat.le_refl _, fun _ => ⟨rfl, rfl⟩, fun h => absurd h (by omega)⟩, M1.out.bk⟩) (⟨(HM.out.offNew (by omega)).1, fun h => absurd h (by omega), (HM.out.offNew (by omega)).2.2⟩) _), below_row B1.out (by omega) _, fun G hG h => ⟨h.1, fun h => absurd h (by omega), h.2.2⟩⟩

set_option maxHeartbeats 4000000 in
set_option maxRecDepth 100000 in
theorem rstep17 (l : List Ins) (i : Nat) (a b : Int) (st ou : List Int) (own : Blks) (w : World) (hC : Inss w ca cc l) (hl : l.length = nc) (hi : i < nc) (hic : nc ≤ 1000) (hx : insAt l i = ⟨17, a, b⟩) (hM : MIn w st ou own sA sn sc oA on oc bA bn bc) (hf : fuel ≠ 0) (hf2 : 0 ≤ fuel ∧ fuel ≤ 1000) :
    Calls Try.prog 37 #[cmV ra nr rc wa nw wc aa na ac cf ca nc cc, .agg (mC (i : Int) fuel (.slice sA sn sc) r0 r1 r2 r3 (.slice oA on oc) false e0), .slice bA bn bc] w (RSPost ((i : Int) + 1) (fuel - 1) st r0 r1 r2 r3 ou true 0 own sA sn oA on bA bn w) := by
  obtain ⟨cb, co, rfl, hcb, x0, x1, x2⟩ := hC.cellAt (j := i) (by omega)
  rw [hx] at x0 x1 x2
  simp only at x0 x1 x2
  have hcc := hC.2.1
  rw [hl] at hcc
  have d1 : (i : Int) < (nc : Int) := by omega
  have d2 : (i : Int) < (cc : Int) := by omega
  have f0 : (fuel == 0) = false := by simpa using hf
  have bb := sB_below #[.slice ra nr rc, .slice wa nw wc, .slice aa na ac, .int .i64 cf, .slice (some ⟨cb, co, none⟩) nc cc] (mC (i : Int) (fuel - 1) (.slice sA sn sc) r0 r1 r2 r3 (.slice oA on oc) false e0) w
  have y0 := (bb.cell (p := ⟨cb, co + i * 3, none⟩) hcb).trans x0
  have y1 := (bb.cell (p := ⟨cb, co + i * 3 + 1, none⟩) hcb).trans x1
  have y2 := (bb.cell (p := ⟨cb, co + i * 3 + 2, none⟩) hcb).trans x2
  have HM := Lib.hid hM
  clear hC hx hl bb hM
  have hov := Lib.hid (fun W => rover_well ((i : Int) + 1) (fuel - 1) sA sn sc r0 r1 r2 r3 oA on oc false e0 W)
  have B0 : Hid (Below w.heap.size w ((sB #[.slice ra nr rc, .slice wa nw wc, .slice aa na ac, .int .i64 cf, .slice (some ⟨cb, co, none⟩) nc cc] (mC ((i : Int) + 1) (fuel - 1) (.slice sA sn sc) r0 r1 r2 r3 (.slice oA on oc) false e0) w).alloc (.cells #[.int .i64 17, .int .i64 a, .int .i64 b] 51))) := Lib.hid (bnext (sB_below _ _ _) (below_alloc1 _ _))
  have X0 : Hid (Bk ((sB #[.slice ra nr rc, .slice wa nw wc, .slice aa na ac, .int .i64 cf, .slice (some ⟨cb, co, none⟩) nc cc] (mC ((i : Int) + 1) (fuel - 1) (.slice sA sn sc) r0 r1 r2 r3 (.slice oA on oc) false e0) w).alloc (.cells #[.int .i64 17, .int .i64 a, .int .i64 b] 51)) (w.heap.size + 1) 54 (mC ((i : Int) + 1) (fuel - 1) (.slice sA sn sc) r0 r1 r2 r3 (.slice oA on oc) false e0)) := Lib.hid ((sB_box _ _ _).alloc _)
  have R0 : Hid (Bk ((sB #[.slice ra nr rc, .slice wa nw wc, .slice aa na ac, .int .i64 cf, .slice (some ⟨cb, co, none⟩) nc cc] (mC ((i : Int) + 1) (fuel - 1) (.slice sA sn sc) r0 r1 r2 r3 (.slice oA on oc) false e0) w).alloc (.cells #[.int .i64 17, .int .i64 a, .int .i64 b] 51)) (w.heap.size + 1 + 1) 54 mZ) := Lib.hid ((sB_res _ _ _).alloc _)
  go_enter Try.func37, Try.ntmps37
  go_wp2_with (first
    | (with_reducible refine ld_mach (w.heap.size + 1) X0.out _ rfl rfl rfl ?_)
    | (go_at_call 45; go_must ((with_reducible refine (hov.out _).mono ?_); rintro e w1 ⟨rfl, hb1⟩; have R1 := Lib.hid (R0.out.below hb1); have B1 := Lib.hid (bnext B0.out hb1); have M1 := Lib.hid ((HM.out.below B0.out).below hb1); clear hb1))
    | (with_reducible refine st_mach (w.heap.size + 1 + 1) R1.out rfl rfl _ _ rfl rfl rfl rfl ?_))
  exact bodyPost_ret (v := .tuple #[.agg (mC ((i : Int) + 1) (fuel - 1) (.slice sA sn sc) r0 r1 r2 r3 (.slice oA on oc) true 0), .slice bA bn bc]) (res2_mach rfl _ _ (w.heap.size + 1 + 1) _ rfl rfl (Bk.setRow R1.out _)) rfl
    ⟨_, _, _, _, _, _, _, _, _, rfl, (MIn.setRow (M1.out) (HM.out.offNew (by omega)) _), below_row B1.out (by omega) _, fun G hG h => h⟩

end
end Go.Proofs.Ytibmfhmeoohdeaa

/-
  What the reference's Step of layer 10 answers, in whatever memory: of a skip, a keep, an emit. No conditions but those that stand there.
-/
namespace Go.Proofs.Ytibmfhmeoohdeaa
open Go.RowKit
attribute [local go_sem] look findAt
attribute [local simp] depsOf isV Region.binds

/-- rows of one's own where a cell is stored below them. -/
theorem own_cellBelow {w : World} {B n c G : Nat} {e : TypeId} {size : Nat} {A : Option Addr} {xs : List Value} (h : w.ownsRow B e size (.slice A n c) n xs) (hG : G < B) (k : Nat) (u : Value) : (w.setCell ⟨G, k, none⟩ u).ownsRow B e size (.slice A n c) n xs :=
  own_keep h (fun g _ hg => Below.heap_setCell w ⟨G, k, none⟩ u g (by have := own_ge h hg; simp only; omega))

section
variable (ra : Option Addr) (nr rc : Nat) (wa : Option Addr) (nw wc : Nat) (aa : Option Addr) (na ac : Nat) (cf : Int) (ca : Option Addr) (nc cc : Nat)
variable (fuel : Int) (sA : Option Addr) (sn sc : Nat) (r0 r1 r2 r3 : Int) (oA : Option Addr) (on oc : Nat) (e0 : Int) (bA : Option Addr) (bn bc : Nat)

set_option maxHeartbeats 4000000 in
set_option maxRecDepth 100000 in
theorem rstep3_0 (l : List Ins) (i : Nat) (k : Nat) (hk : k ≤ 1000) (b : Int) (st ou : List Int) (own : Blks) (w : World) (hC : Inss w ca cc l) (hl : l.length = nc) (hi : i < nc) (hic : nc ≤ 1000) (hx : insAt l i = ⟨3, 0, b⟩) (hM : MIn w st ou own sA (k + 1) sc oA on oc bA bn bc) (hf : fuel ≠ 0) (hf2 : 0 ≤ fuel ∧ fuel ≤ 1000) :
    Calls Try.prog 37 #[cmV ra nr rc wa nw wc aa na ac cf ca nc cc, .agg (mC (i : Int) fuel (.slice sA (k + 1 : Nat) sc) r0 r1 r2 r3 (.slice oA on oc) false e0), .slice bA bn bc] w (RSPost ((i : Int) + 1) (fuel - 1) (st.take k) (st[k]?.getD 0) r1 r2 r3 ou false e0 own sA (k + 1) oA on bA bn w) := by
  obtain ⟨top, htop⟩ : ∃ x, x = st[k]?.getD 0 := ⟨_, rfl⟩
  try rw [← htop]
  have HT := Lib.hid htop
  clear htop
  obtain ⟨cb, co, rfl, hcb, x0, x1, x2⟩ := hC.cellAt (j := i) (by omega)
  rw [hx] at x0 x1 x2
  simp only at x0 x1 x2
  have hcc := hC.2.1
  rw [hl] at hcc
  have d1 : (i : Int) < (nc : Int) := by omega
  have d2 : (i : Int) < (cc : Int) := by omega
  have f0 : (fuel == 0) = false := by simpa using hf
  have bb := sB_below #[.slice ra nr rc, .slice wa nw wc, .slice aa na ac, .int .i64 cf, .slice (some ⟨cb, co, none⟩) nc cc] (mC (i : Int) (fuel - 1) (.slice sA (k + 1 : Nat) sc) r0 r1 r2 r3 (.slice oA on oc) false e0) w
  have y0 := (bb.cell (p := ⟨cb, co + i * 3, none⟩) hcb).trans x0
  have y1 := (bb.cell (p := ⟨cb, co + i * 3 + 1, none⟩) hcb).trans x1
  have y2 := (bb.cell (p := ⟨cb, co + i * 3 + 2, none⟩) hcb).trans x2
  have HM := Lib.hid hM
  clear hC hx hl bb hM
  obtain ⟨i0, hi0, hz0, hz1, hz2⟩ := infoInt
  obtain ⟨sb, so, rfl, -, -⟩ := HM.out.st.2.2.2 (by omega)
  have B0 : Hid (Below w.heap.size w ((sB #[.slice ra nr rc, .slice wa nw wc, .slice aa na ac, .int .i64 cf, .slice (some ⟨cb, co, none⟩) nc cc] (mC ((i : Int) + 1) (fuel - 1) (.slice (some ⟨sb, so, none⟩) (k + 1 : Nat) sc) r0 r1 r2 r3 (.slice oA on oc) false e0) w).alloc (.cells #[.int .i64 3, .int .i64 0, .int .i64 b] 51))) := Lib.hid (bnext (sB_below _ _ _) (below_alloc1 _ _))
  have X0 : Hid (Bk ((sB #[.slice ra nr rc, .slice wa nw wc, .slice aa na ac, .int .i64 cf, .slice (some ⟨cb, co, none⟩) nc cc] (mC ((i : Int) + 1) (fuel - 1) (.slice (some ⟨sb, so, none⟩) (k + 1 : Nat) sc) r0 r1 r2 r3 (.slice oA on oc) false e0) w).alloc (.cells #[.int .i64 3, .int .i64 0, .int .i64 b] 51)) (w.heap.size + 1) 54 (mC ((i : Int) + 1) (fuel - 1) (.slice (some ⟨sb, so, none⟩) (k + 1 : Nat) sc) r0 r1 r2 r3 (.slice oA on oc) false e0)) := Lib.hid ((sB_box _ _ _).alloc _)
  have R0 : Hid (Bk ((sB #[.slice ra nr rc, .slice wa nw wc, .slice aa na ac, .int .i64 cf, .slice (some ⟨cb, co, none⟩) nc cc] (mC ((i : Int) + 1) (fuel - 1) (.slice (some ⟨sb, so, none⟩) (k + 1 : Nat) sc) r0 r1 r2 r3 (.slice oA on oc) false e0) w).alloc (.cells #[.int .i64 3, .int .i64 0, .int .i64 b] 51)) (w.heap.size + 1 + 1) 54 mZ) := Lib.hid ((sB_res _ _ _).alloc _)
  have I0 : Hid (Bk ((sB #[.slice ra nr rc, .slice wa nw wc, .slice aa na ac, .int .i64 cf, .slice (some ⟨cb, co, none⟩) nc cc] (mC ((i : Int) + 1) (fuel - 1) (.slice (some ⟨sb, so, none⟩) (k + 1 : Nat) sc) r0 r1 r2 r3 (.slice oA on oc) false e0) w).alloc (.cells #[.int .i64 3, .int .i64 0, .int .i64 b] 51)) (w.heap.size + 1 + 1 + 1) 51 #[.int .i64 3, .int .i64 0, .int .i64 b]) := Lib.hid (rW_ins _ _ _ _)
  have hpop := Lib.hid (rpop1 ((i : Int) + 1) (fuel - 1) st r0 r1 r2 r3 false e0 (some ⟨sb, so, none⟩) sc oA on oc k ((sB #[.slice ra nr rc, .slice wa nw wc, .slice aa na ac, .int .i64 cf, .slice (some ⟨cb, co, none⟩) nc cc] (mC ((i : Int) + 1) (fuel - 1) (.slice (some ⟨sb, so, none⟩) (k + 1 : Nat) sc) r0 r1 r2 r3 (.slice oA on oc) false e0) w).alloc (.cells #[.int .i64 3, .int .i64 0, .int .i64 b] 51)) (HM.out.st.below B0.out) hk)
  have hWs : Hid (w.heap.size + 1 + 1 + 1 < ((sB #[.slice ra nr rc, .slice wa nw wc, .slice aa na ac, .int .i64 cf, .slice (some ⟨cb, co, none⟩) nc cc] (mC ((i : Int) + 1) (fuel - 1) (.slice (some ⟨sb, so, none⟩) (k + 1 : Nat) sc) r0 r1 r2 r3 (.slice oA on oc) false e0) w).alloc (.cells #[.int .i64 3, .int .i64 0, .int .i64 b] 51)).heap.size) := Lib.hid I0.out.lt
  go_enter Try.func37, Try.ntmps37
  go_wp2_with (first
    | (with_reducible refine ld_mach (w.heap.size + 1) X0.out _ rfl rfl rfl ?_)
    | (go_at_call 47; go_must ((with_reducible refine hpop.out.mono ?_); rintro e w1 ⟨⟨A, c, A', c', rfl, p1, p2⟩, hb1⟩; have BB : Hid (Below w.heap.size w (w1.setCell ⟨w.heap.size + 1, 2, none⟩ (.slice A' k c'))) := Lib.hid ((bnext B0.out hb1).setCell (p := ⟨w.heap.size + 1, 2, none⟩) (by simp) _); have P1 := Lib.hid (own_cellBelow p1 (G := w.heap.size + 1) (by have := hWs.out; omega) 2 (.slice A' k c')); have P2 := Lib.hid (own_cellBelow p2 (G := w.heap.size + 1) (by have := hWs.out; omega) 2 (.slice A' k c')); have X1 := Lib.hid (X0.out.below hb1); have X2 : Hid (Bk (w1.setCell ⟨w.heap.size + 1, 2, none⟩ (.slice A' k c')) (w.heap.size + 1) 54 (mC ((i : Int) + 1) (fuel - 1) (.slice A' k c') r0 r1 r2 r3 (.slice oA on oc) false e0)) := Lib.hid (by simpa using X1.out.set 2 (.slice A' k c')); have R2 := Lib.hid ((R0.out.below hb1).far (p := ⟨w.heap.size + 1, 2, none⟩) (by simp only; omega) (.slice A' k c')); have I2 := Lib.hid ((I0.out.below hb1).far (p := ⟨w.heap.size + 1, 2, none⟩) (by simp only; omega) (.slice A' k c')); have M2 := Lib.hid (((HM.out.below B0.out).below hb1).setCell (HM.out.offNew (G := w.heap.size + 1) (by omega)) 2 (.slice A' k c')); have z2 := X1.out.cell 2; have zf := X1.out.frozen; have zl := X1.out.lt; have zi := I2.out.cell 0; simp only [List.getElem?_toArray, List.getElem?_cons_zero, List.getElem?_cons_succ] at z2 zi; clear p1 p2 hb1)))
  have hb2 : Hid (w.heap.size + 1 + 1 + 1 < (w1.setCell ⟨w.heap.size + 1, 2, none⟩ (.slice A' k c')).heap.size) := Lib.hid I2.out.lt
  generalize w1.setCell ⟨w.heap.size + 1, 2, none⟩ (.slice A' k c') = wr at *
  have hWr := hb2.out
  have hWz := hWs.out
  try simp only [List.append_eq, List.cons_append, List.nil_append]
  obtain ⟨g, cur, rfl, hgB, hgk, hgc, -, hgs, hgt⟩ := own_pos P1.out (by omega)
  have hg0 : Hid (∀ X, Below wr.heap.size wr X → X.cell? ⟨g, 0, none⟩ = some (.int .i64 top)) := Lib.hid (fun X hX => by
    rw [HT.out, (hgk.below hX).cell 0, ← Array.getElem?_toList]
    have hl := HM.out.st.1
    simp at hl
    have h1 : (cur.toList.take (1 * 1))[0]? = (((st.drop k).map (Value.int .i64)))[0]? := by rw [hgt]
    rw [List.getElem?_take, if_pos (by omega)] at h1
    rw [h1, List.getElem?_map, List.getElem?_drop]
    simp [show k < st.length by omega])
  have hgc1 : (1 : Int) ≤ (c : Int) := by omega
  have hgB2 : w.heap.size + 1 + 1 + 1 < g := by have := hWs.out; omega
  clear hgk hgs hgt
  refine wp_region_saysK 7 (fun x y => Below x.heap.size x y) (fun _ _ _ h k => bnext h k) wr (below_drew1 wr) (by kernel_rfl) (by kernel_rfl) (by kernel_rfl) (by kernel_rfl) (by rfl) ?_
  simp only [List.take_succ_cons, List.take_zero, List.drop_succ_cons, List.drop_zero]
  refine walkK_is ?_ (by first | exact gs0 rfl | exact gs1 rfl rfl rfl) (fun _ => Below.refl _ _) (fun u X hX hd => ?_) ?_
  rotate_left
  · have q1 := (I2.out.below hX).cell 1
    have q2 := hg0.out X hX
    simp only [List.getElem?_toArray, List.getElem?_cons_zero, List.getElem?_cons_succ] at q1
    try simp at hd
    go_simp
    try rfl
  apply walkK_norm
  · first | (simp only [List.nil_append]; rfl) | simp only [List.nil_append]
  refine walkK_is ?_ (by first | exact gs0 rfl | exact gs1 rfl rfl rfl) (fun _ => Below.refl _ _) (fun u X hX hd => ?_) ?_
  rotate_left
  · have q1 := (I2.out.below hX).cell 1
    have q2 := hg0.out X hX
    simp only [List.getElem?_toArray, List.getElem?_cons_zero, List.getElem?_cons_succ] at q1
    try simp at hd
    go_simp
    try rfl
  apply walkK_norm
  · first | (simp only [List.nil_append, List.cons_append]; rfl) | simp only [List.nil_append, List.cons_append]
  refine walkK_is ?_ (by first | exact gs0 rfl | exact gs1 rfl rfl rfl) (fun _ => Below.refl _ _) (fun u X hX hd => ?_) ?_
  rotate_left
  · have q1 := (I2.out.below hX).cell 1
    have q2 := hg0.out X hX
    simp only [List.getElem?_toArray, List.getElem?_cons_zero, List.getElem?_cons_succ] at q1
    try simp at hd
    go_simp
    try rfl
  apply walkK_norm
  · first | (simp only [List.nil_append, List.cons_append]; rfl) | simp only [List.nil_append, List.cons_append]
  refine walkK_is ?_ (by first | exact gs0 rfl | exact gs1 rfl rfl rfl) (fun _ => Below.refl _ _) (fun u X hX hd => ?_) ?_
  rotate_left
  · have q1 := (I2.out.below hX).cell 1
    have q2 := hg0.out X hX
    simp only [List.getElem?_toArray, List.getElem?_cons_zero, List.getElem?_cons_succ] at q1
    try simp at hd
    go_simp
    try rfl
  apply walkK_norm
  · first | (simp only [List.nil_append, List.cons_append]; rfl) | simp only [List.nil_append, List.cons_append]
  refine walkK_is ?_ (by first | exact gs0 rfl | exact gs1 rfl rfl rfl) (fun _ => Below.refl _ _) (fun u X hX hd => ?_) ?_
  rotate_left
  · have q1 := (I2.out.below hX).cell 1
    have q2 := hg0.out X hX
    simp only [List.getElem?_toArray, List.getElem?_cons_zero, List.getElem?_cons_succ] at q1
    try simp at hd
    go_simp
    try rfl
  apply walkK_norm
  · first | (simp only [List.nil_append, List.cons_append]; rfl) | simp only [List.nil_append, List.cons_append]
  refine walkK_is ?_ (by first | exact gs0 rfl | exact gs1 rfl rfl rfl) (fun _ => Below.refl _ _) (fun u X hX hd => ?_) ?_
  rotate_left
  · have q1 := (I2.out.below hX).cell 1
    have q2 := hg0.out X hX
    simp only [List.getElem?_toArray, List.getElem?_cons_zero, List.getElem?_cons_succ] at q1
    try simp at hd
    go_simp
    try rfl
  apply walkK_norm
  · first | (simp only [List.nil_append, List.cons_append]; rfl) | simp only [List.nil_append, List.cons_append]
  refine walkK_is ?_ (by first | exact gs0 rfl | exact gs1 rfl rfl rfl) (fun _ => Below.refl _ _) (fun u X hX hd => ?_) ?_
  rotate_left
  · have q1 := (I2.out.below hX).cell 1
    have q2 := hg0.out X hX
    simp only [List.getElem?_toArray, List.getElem?_cons_zero, List.getElem?_cons_succ] at q1
    try simp at hd
    go_simp
    try rfl
  apply walkK_norm
  · first | (simp only [List.nil_append, List.cons_append]; rfl) | simp only [List.nil_append, List.cons_append]
  intro u X hX hsay
  simp only [sayAll, isV] at hsay
  obtain ⟨v0, v1, v2, v3, v4, v5, v6, -⟩ := hsay
  have XB := Lib.hid (X2.out.below hX)
  have z3 := XB.out.cell 3
  have zg := XB.out.frozen
  have zm := XB.out.lt
  simp only [List.getElem?_toArray, List.getElem?_cons_zero, List.getElem?_cons_succ] at z3
  have X3 : Hid (Bk (X.setCell ⟨w.heap.size + 1, 3, none⟩ (.int .i64 top)) (w.heap.size + 1) 54 (mC ((i : Int) + 1) (fuel - 1) (.slice A' k c') top r1 r2 r3 (.slice oA on oc) false e0)) := Lib.hid (by simpa using XB.out.set 3 (.int .i64 top))
  have R3 := Lib.hid ((R2.out.below hX).far (p := ⟨w.heap.size + 1, 3, none⟩) (by simp) (.int .i64 top))
  have P3 := Lib.hid (own_cellBelow (own_below P2.out hX) (G := w.heap.size + 1) (by omega) 3 (.int .i64 top))
  have M3 := Lib.hid ((M2.out.below hX).setCell (HM.out.offNew (G := w.heap.size + 1) (by omega)) 3 (.int .i64 top))
  have B3 := Lib.hid ((bnext BB.out hX).setCell (p := ⟨w.heap.size + 1, 3, none⟩) (by simp) (.int .i64 top))
  simp only [putAll, Act.put, v0, v1, v2, v3, v4, v5, v6, List.setIfInBounds_toArray, List.set_cons_succ, List.set_cons_zero]
  clear z2 zf zl zi v0 v1 v2 v3 v4 v5 v6
  go_wp2_with (first
    | (with_reducible refine ld_mach (w.heap.size + 1) X3.out _ rfl rfl rfl ?_)
    | (with_reducible refine st_mach (w.heap.size + 1 + 1) R3.out rfl rfl _ _ rfl rfl rfl rfl ?_))
  exact bodyPost_ret (v := .tuple #[.agg (mC ((i : Int) + 1) (fuel - 1) (.slice A' k c') top r1 r2 r3 (.slice oA on oc) false e0), .slice bA bn bc]) (res2_mach rfl _ _ (w.heap.size + 1 + 1) _ rfl rfl (Bk.setRow R3.out _)) rfl
    ⟨_, _, _, _, _, _, _, _, _, rfl, MIn.setRow (⟨by have := Sl.own' P3.out; simpa using this, M3.out.ou, M3.out.bk⟩) (⟨own_offA P3.out (by omega), (HM.out.offNew (by omega)).2⟩) _, below_row B3.out (by omega) _, fun G hG h => ⟨own_offA P3.out (by omega), h.2⟩⟩

set_option maxHeartbeats 4000000 in
set_option maxRecDepth 100000 in
theorem rstep3_1 (l : List Ins) (i : Nat) (k : Nat) (hk : k ≤ 1000) (b : Int) (st ou : List Int) (own : Blks) (w : World) (hC : Inss w ca cc l) (hl : l.length = nc) (hi : i < nc) (hic : nc ≤ 1000) (hx : insAt l i = ⟨3, 1, b⟩) (hM : MIn w st ou own sA (k + 1) sc oA on oc bA bn bc) (hf : fuel ≠ 0) (hf2 : 0 ≤ fuel ∧ fuel ≤ 1000) :
    Calls Try.prog 37 #[cmV ra nr rc wa nw wc aa na ac cf ca nc cc, .agg (mC (i : Int) fuel (.slice sA (k + 1 : Nat) sc) r0 r1 r2 r3 (.slice oA on oc) false e0), .slice bA bn bc] w (RSPost ((i : Int) + 1) (fuel - 1) (st.take k) r0 (st[k]?.getD 0) r2 r3 ou false e0 own sA (k + 1) oA on bA bn w) := by
  obtain ⟨top, htop⟩ : ∃ x, x = st[k]?.getD 0 := ⟨_, rfl⟩
  try rw [← htop]
  have HT := Lib.hid htop
  clear htop
  obtain ⟨cb, co, rfl, hcb, x0, x1, x2⟩ := hC.cellAt (j := i) (by omega)
  rw [hx] at x0 x1 x2
  simp only at x0 x1 x2
  have hcc := hC.2.1
  rw [hl] at hcc
  have d1 : (i : Int) < (nc : Int) := by omega
  have d2 : (i : Int) < (cc : Int) := by omega
  have f0 : (fuel == 0) = false := by simpa using hf
  have bb := sB_below #[.slice ra nr rc, .slice wa nw wc, .slice aa na ac, .int .i64 cf, .slice (some ⟨cb, co, none⟩) nc cc] (mC (i : Int) (fuel - 1) (.slice sA (k + 1 : Nat) sc) r0 r1 r2 r3 (.slice oA on oc) false e0) w
  have y0 := (bb.cell (p := ⟨cb, co + i * 3, none⟩) hcb).trans x0
  have y1 := (bb.cell (p := ⟨cb, co + i * 3 + 1, none⟩) hcb).trans x1
  have y2 := (bb.cell (p := ⟨cb, co + i * 3 + 2, none⟩) hcb).trans x2
  have HM := Lib.hid hM
  clear hC hx hl bb hM
  obtain ⟨i0, hi0, hz0, hz1, hz2⟩ := infoInt
  obtain ⟨sb, so, rfl, -, -⟩ := HM.out.st.2.2.2 (by omega)
  have B0 : Hid (Below w.heap.size w ((sB #[.slice ra nr rc, .slice wa nw wc, .slice aa na ac, .int .i64 cf, .slice (some ⟨cb, co, none⟩) nc cc] (mC ((i : Int) + 1) (fuel - 1) (.slice (some ⟨sb, so, none⟩) (k + 1 : Nat) sc) r0 r1 r2 r3 (.slice oA on oc) false e0) w).alloc (.cells #[.int .i64 3, .int .i64 1, .int .i64 b] 51))) := Lib.hid (bnext (sB_below _ _ _) (below_alloc1 _ _))
  have X0 : Hid (Bk ((sB #[.slice ra nr rc, .slice wa nw wc, .slice aa na ac, .int .i64 cf, .slice (some ⟨cb, co, none⟩) nc cc] (mC ((i : Int) + 1) (fuel - 1) (.slice (some ⟨sb, so, none⟩) (k + 1 : Nat) sc) r0 r1 r2 r3 (.slice oA on oc) false e0) w).alloc (.cells #[.int .i64 3, .int .i64 1, .int .i64 b] 51)) (w.heap.size + 1) 54 (mC ((i : Int) + 1) (fuel - 1) (.slice (some ⟨sb, so, none⟩) (k + 1 : Nat) sc) r0 r1 r2 r3 (.slice oA on oc) false e0)) := Lib.hid ((sB_box _ _ _).alloc _)
  have R0 : Hid (Bk ((sB #[.slice ra nr rc, .slice wa nw wc, .slice aa na ac, .int .i64 cf, .slice (some ⟨cb, co, none⟩) nc cc] (mC ((i : Int) + 1) (fuel - 1) (.slice (some ⟨sb, so, none⟩) (k + 1 : Nat) sc) r0 r1 r2 r3 (.slice oA on oc) false e0) w).alloc (.cells #[.int .i64 3, .int .i64 1, .int .i64 b] 51)) (w.heap.size + 1 + 1) 54 mZ) := Lib.hid ((sB_res _ _ _).alloc _)
  have I0 : Hid (Bk ((sB #[.slice ra nr rc, .slice wa nw wc, .slice aa na ac, .int .i64 cf, .slice (some ⟨cb, co, none⟩) nc cc] (mC ((i : Int) + 1) (fuel - 1) (.slice (some ⟨sb, so, none⟩) (k + 1 : Nat) sc) r0 r1 r2 r3 (.slice oA on oc) false e0) w).alloc (.cells #[.int .i64 3, .int .i64 1, .int .i64 b] 51)) (w.heap.size + 1 + 1 + 1) 51 #[.int .i64 3, .int .i64 1, .int .i64 b]) := Lib.hid (rW_ins _ _ _ _)
  have hpop := Lib.hid (rpop1 ((i : Int) + 1) (fuel - 1) st r0 r1 r2 r3 false e0 (some ⟨sb, so, none⟩) sc oA on oc k ((sB #[.slice ra nr rc, .slice wa nw wc, .slice aa na ac, .int .i64 cf, .slice (some ⟨cb, co, none⟩) nc cc] (mC ((i : Int) + 1) (fuel - 1) (.slice (some ⟨sb, so, none⟩) (k + 1 : Nat) sc) r0 r1 r2 r3 (.slice oA on oc) false e0) w).alloc (.cells #[.int .i64 3, .int .i64 1, .int .i64 b] 51)) (HM.out.st.below B0.out) hk)
  have hWs : Hid (w.heap.size + 1 + 1 + 1 < ((sB #[.slice ra nr rc, .slice wa nw wc, .slice aa na ac, .int .i64 cf, .slice (some ⟨cb, co, none⟩) nc cc] (mC ((i : Int) + 1) (fuel - 1) (.slice (some ⟨sb, so, none⟩) (k + 1 : Nat) sc) r0 r1 r2 r3 (.slice oA on oc) false e0) w).alloc (.cells #[.int .i64 3, .int .i64 1, .int .i64 b] 51)).heap.size) := Lib.hid I0.out.lt
  go_enter Try.func37, Try.ntmps37
  go_wp2_with (first
    | (with_reducible refine ld_mach (w.heap.size + 1) X0.out _ rfl rfl rfl ?_)
    | (go_at_call 47; go_must ((with_reducible refine hpop.out.mono ?_); rintro e w1 ⟨⟨A, c, A', c', rfl, p1, p2⟩, hb1⟩; have BB : Hid (Below w.heap.size w (w1.setCell ⟨w.heap.size + 1, 2, none⟩ (.slice A' k c'))) := Lib.hid ((bnext B0.out hb1).setCell (p := ⟨w.heap.size + 1, 2, none⟩) (by simp) _); have P1 := Lib.hid (own_cellBelow p1 (G := w.heap.size + 1) (by have := hWs.out; omega) 2 (.slice A' k c')); have P2 := Lib.hid (own_cellBelow p2 (G := w.heap.size + 1) (by have := hWs.out; omega) 2 (.slice A' k c')); have X1 := Lib.hid (X0.out.below hb1); have X2 : Hid (Bk (w1.setCell ⟨w.heap.size + 1, 2, none⟩ (.slice A' k c')) (w.heap.size + 1) 54 (mC ((i : Int) + 1) (fuel - 1) (.slice A' k c') r0 r1 r2 r3 (.slice oA on oc) false e0)) := Lib.hid (by simpa using X1.out.set 2 (.slice A' k c')); have R2 := Lib.hid ((R0.out.below hb1).far (p := ⟨w.heap.size + 1, 2, none⟩) (by simp only; omega) (.slice A' k c')); have I2 := Lib.hid ((I0.out.below hb1).far (p := ⟨w.heap.size + 1, 2, none⟩) (by simp only; omega) (.slice A' k c')); have M2 := Lib.hid (((HM.out.below B0.out).below hb1).setCell (HM.out.offNew (G := w.heap.size + 1) (by omega)) 2 (.slice A' k c')); have z2 := X1.out.cell 2; have zf := X1.out.frozen; have zl := X1.out.lt; have zi := I2.out.cell 0; simp only [List.getElem?_toArray, List.getElem?_cons_zero, List.getElem?_cons_succ] at z2 zi; clear p1 p2 hb1)))
  have hb2 : Hid (w.heap.size + 1 + 1 + 1 < (w1.setCell ⟨w.heap.size + 1, 2, none⟩ (.slice A' k c')).heap.size) := Lib.hid I2.out.lt
  generalize w1.setCell ⟨w.heap.size + 1, 2, none⟩ (.slice A' k c') = wr at *
  have hWr := hb2.out
  have hWz := hWs.out
  try simp only [List.append_eq, List.cons_append, List.nil_append]
  obtain ⟨g, cur, rfl, hgB, hgk, hgc, -, hgs, hgt⟩ := own_pos P1.out (by omega)
  have hg0 : Hid (∀ X, Below wr.heap.size wr X → X.cell? ⟨g, 0, none⟩ = some (.int .i64 top)) := Lib.hid (fun X hX => by
    rw [HT.out, (hgk.below hX).cell 0, ← Array.getElem?_toList]
    have hl := HM.out.st.1
    simp at hl
    have h1 : (cur.toList.take (1 * 1))[0]? = (((st.drop k).map (Value.int .i64)))[0]? := by rw [hgt]
    rw [List.getElem?_take, if_pos (by omega)] at h1
    rw [h1, List.getElem?_map, List.getElem?_drop]
    simp [show k < st.length by omega])
  have hgc1 : (1 : Int) ≤ (c : Int) := by omega
  have hgB2 : w.heap.size + 1 + 1 + 1 < g := by have := hWs.out; omega
  clear hgk hgs hgt
  refine wp_region_saysK 7 (fun x y => Below x.heap.size x y) (fun _ _ _ h k => bnext h k) wr (below_drew1 wr) (by kernel_rfl) (by kernel_rfl) (by kernel_rfl) (by kernel_rfl) (by rfl) ?_
  simp only [List.take_succ_cons, List.take_zero, List.drop_succ_cons, List.drop_zero]
  refine walkK_is ?_ (by first | exact gs0 rfl | exact gs1 rfl rfl rfl) (fun _ => Below.refl _ _) (fun u X hX hd => ?_) ?_
  rotate_left
  · have q1 := (I2.out.below hX).cell 1
    have q2 := hg0.out X hX
    simp only [List.getElem?_toArray, List.getElem?_cons_zero, List.getElem?_cons_succ] at q1
    try simp at hd
    go_simp
    try rfl
  apply walkK_norm
  · first | (simp only [List.nil_append]; rfl) | simp only [List.nil_append]
  refine walkK_is ?_ (by first | exact gs0 rfl | exact gs1 rfl rfl rfl) (fun _ => Below.refl _ _) (fun u X hX hd => ?_) ?_
  rotate_left
  · have q1 := (I2.out.below hX).cell 1
    have q2 := hg0.out X hX
    simp only [List.getElem?_toArray, List.getElem?_cons_zero, List.getElem?_cons_succ] at q1
    try simp at hd
    go_simp
    try rfl
  apply walkK_norm
  · first | (simp only [List.nil_append, List.cons_append]; rfl) | simp only [List.nil_append, List.cons_append]
  refine walkK_is ?_ (by first | exact gs0 rfl | exact gs1 rfl rfl rfl) (fun _ => Below.refl _ _) (fun u X hX hd => ?_) ?_
  rotate_left
  · have q1 := (I2.out.below hX).cell 1
    have q2 := hg0.out X hX
    simp only [List.getElem?_toArray, List.getElem?_cons_zero, List.getElem?_cons_succ] at q1
    try simp at hd
    go_simp
    try rfl
  apply walkK_norm
  · first | (simp only [List.nil_append, List.cons_append]; rfl) | simp only [List.nil_append, List.cons_append]
  refine walkK_is ?_ (by first | exact gs0 rfl | exact gs1 rfl rfl rfl) (fun _ => Below.refl _ _) (fun u X hX hd => ?_) ?_
  rotate_left
  · have q1 := (I2.out.below hX).cell 1
    have q2 := hg0.out X hX
    simp only [List.getElem?_toArray, List.getElem?_cons_zero, List.getElem?_cons_succ] at q1
    try simp at hd
    go_simp
    try rfl
  apply walkK_norm
  · first | (simp only [List.nil_append, List.cons_append]; rfl) | simp only [List.nil_append, List.cons_append]
  refine walkK_is ?_ (by first | exact gs0 rfl | exact gs1 rfl rfl rfl) (fun _ => Below.refl _ _) (fun u X hX hd => ?_) ?_
  rotate_left
  · have q1 := (I2.out.below hX).cell 1
    have q2 := hg0.out X hX
    simp only [List.getElem?_toArray, List.getElem?_cons_zero, List.getElem?_cons_succ] at q1
    try simp at hd
    go_simp
    try rfl
  apply walkK_norm
  · first | (simp only [List.nil_append, List.cons_append]; rfl) | simp only [List.nil_append, List.cons_append]
  refine walkK_is ?_ (by first | exact gs0 rfl | exact gs1 rfl rfl rfl) (fun _ => Below.refl _ _) (fun u X hX hd => ?_) ?_
  rotate_left
  · have q1 := (I2.out.below hX).cell 1
    have q2 := hg0.out X hX
    simp only [List.getElem?_toArray, List.getElem?_cons_zero, List.getElem?_cons_succ] at q1
    try simp at hd
    go_simp
    try rfl
  apply walkK_norm
  · first | (simp only [List.nil_append, List.cons_append]; rfl) | simp only [List.nil_append, List.cons_append]
  refine walkK_is ?_ (by first | exact gs0 rfl | exact gs1 rfl rfl rfl) (fun _ => Below.refl _ _) (fun u X hX hd => ?_) ?_
  rotate_left
  · have q1 := (I2.out.below hX).cell 1
    have q2 := hg0.out X hX
    simp only [List.getElem?_toArray, List.getElem?_cons_zero, List.getElem?_cons_succ] at q1
    try simp at hd
    go_simp
    try rfl
  apply walkK_norm
  · first | (simp only [List.nil_append, List.cons_append]; rfl) | simp only [List.nil_append, List.cons_append]
  intro u X hX hsay
  simp only [sayAll, isV] at hsay
  obtain ⟨v0, v1, v2, v3, v4, v5, v6, -⟩ := hsay
  have XB := Lib.hid (X2.out.below hX)
  have z3 := XB.out.cell 4
  have zg := XB.out.frozen
  have zm := XB.out.lt
  simp only [List.getElem?_toArray, List.getElem?_cons_zero, List.getElem?_cons_succ] at z3
  have X3 : Hid (Bk (X.setCell ⟨w.heap.size + 1, 4, none⟩ (.int .i64 top)) (w.heap.size + 1) 54 (mC ((i : Int) + 1) (fuel - 1) (.slice A' k c') r0 top r2 r3 (.slice oA on oc) false e0)) := Lib.hid (by simpa using XB.out.set 4 (.int .i64 top))
  have R3 := Lib.hid ((R2.out.below hX).far (p := ⟨w.heap.size + 1, 4, none⟩) (by simp) (.int .i64 top))
  have P3 := Lib.hid (own_cellBelow (own_below P2.out hX) (G := w.heap.size + 1) (by omega) 4 (.int .i64 top))
  have M3 := Lib.hid ((M2.out.below hX).setCell (HM.out.offNew (G := w.heap.size + 1) (by omega)) 4 (.int .i64 top))
  have B3 := Lib.hid ((bnext BB.out hX).setCell (p := ⟨w.heap.size + 1, 4, none⟩) (by simp) (.int .i64 top))
  simp only [putAll, Act.put, v0, v1, v2, v3, v4, v5, v6, List.setIfInBounds_toArray, List.set_cons_succ, List.set_cons_zero]
  clear z2 zf zl zi v0 v1 v2 v3 v4 v5 v6
  go_wp2_with (first
    | (with_reducible refine ld_mach (w.heap.size + 1) X3.out _ rfl rfl rfl ?_)
    | (with_reducible refine st_mach (w.heap.size + 1 + 1) R3.out rfl rfl _ _ rfl rfl rfl rfl ?_))
  exact bodyPost_ret (v := .tuple #[.agg (mC ((i : Int) + 1) (fuel - 1) (.slice A' k c') r0 top r2 r3 (.slice oA on oc) false e0), .slice bA bn bc]) (res2_mach rfl _ _ (w.heap.size + 1 + 1) _ rfl rfl (Bk.setRow R3.out _)) rfl
    ⟨_, _, _, _, _, _, _, _, _, rfl, MIn.setRow (⟨by have := Sl.own' P3.out; simpa using this, M3.out.ou, M3.out.bk⟩) (⟨own_offA P3.out (by omega), (HM.out.offNew (by omega)).2⟩) _, below_row B3.out (by omega) _, fun G hG h => ⟨own_offA P3.out (by omega), h.2⟩⟩

set_option maxHeartbeats 4000000 in
set_option maxRecDepth 100000 in
theorem rstep3_2 (l : List Ins) (i : Nat) (k : Nat) (hk : k ≤ 1000) (b : Int) (st ou : List Int) (own : Blks) (w : World) (hC : Inss w ca cc l) (hl : l.length = nc) (hi : i < nc) (hic : nc ≤ 1000) (hx : insAt l i = ⟨3, 2, b⟩) (hM : MIn w st ou own sA (k + 1) sc oA on oc bA bn bc) (hf : fuel ≠ 0) (hf2 : 0 ≤ fuel ∧ fuel ≤ 1000) :
    Calls Try.prog 37 #[cmV ra nr rc wa nw wc aa na ac cf ca nc cc, .agg (mC (i : Int) fuel (.slice sA (k + 1 : Nat) sc) r0 r1 r2 r3 (.slice oA on oc) false e0), .slice bA bn bc] w (RSPost ((i : Int) + 1) (fuel - 1) (st.take k) r0 r1 (st[k]?.getD 0) r3 ou false e0 own sA (k + 1) oA on bA bn w) := by
  obtain ⟨top, htop⟩ : ∃ x, x = st[k]?.getD 0 := ⟨_, rfl⟩
  try rw [← htop]
  have HT := Lib.hid htop
  clear htop
  obtain ⟨cb, co, rfl, hcb, x0, x1, x2⟩ := hC.cellAt (j := i) (by omega)
  rw [hx] at x0 x1 x2
  simp only at x0 x1 x2
  have hcc := hC.2.1
  rw [hl] at hcc
  have d1 : (i : Int) < (nc : Int) := by omega
  have d2 : (i : Int) < (cc : Int) := by omega
  have f0 : (fuel == 0) = false := by simpa using hf
  have bb := sB_below #[.slice ra nr rc, .slice wa nw wc, .slice aa na ac, .int .i64 cf, .slice (some ⟨cb, co, none⟩) nc cc] (mC (i : Int) (fuel - 1) (.slice sA (k + 1 : Nat) sc) r0 r1 r2 r3 (.slice oA on oc) false e0) w
  have y0 := (bb.cell (p := ⟨cb, co + i * 3, none⟩) hcb).trans x0
  have y1 := (bb.cell (p := ⟨cb, co + i * 3 + 1, none⟩) hcb).trans x1
  have y2 := (bb.cell (p := ⟨cb, co + i * 3 + 2, none⟩) hcb).trans x2
  have HM := Lib.hid hM
  clear hC hx hl bb hM
  obtain ⟨i0, hi0, hz0, hz1, hz2⟩ := infoInt
  obtain ⟨sb, so, rfl, -, -⟩ := HM.out.st.2.2.2 (by omega)
  have B0 : Hid (Below w.heap.size w ((sB #[.slice ra nr rc, .slice wa nw wc, .slice aa na ac, .int .i64 cf, .slice (some ⟨cb, co, none⟩) nc cc] (mC ((i : Int) + 1) (fuel - 1) (.slice (some ⟨sb, so, none⟩) (k + 1 : Nat) sc) r0 r1 r2 r3 (.slice oA on oc) false e0) w).alloc (.cells #[.int .i64 3, .int .i64 2, .int .i64 b] 51))) := Lib.hid (bnext (sB_below _ _ _) (below_alloc1 _ _))
  have X0 : Hid (Bk ((sB #[.slice ra nr rc, .slice wa nw wc, .slice aa na ac, .int .i64 cf, .slice (some ⟨cb, co, none⟩) nc cc] (mC ((i : Int) + 1) (fuel - 1) (.slice (some ⟨sb, so, none⟩) (k + 1 : Nat) sc) r0 r1 r2 r3 (.slice oA on oc) false e0) w).alloc (.cells #[.int .i64 3, .int .i64 2, .int .i64 b] 51)) (w.heap.size + 1) 54 (mC ((i : Int) + 1) (fuel - 1) (.slice (some ⟨sb, so, none⟩) (k + 1 : Nat) sc) r0 r1 r2 r3 (.slice oA on oc) false e0)) := Lib.hid ((sB_box _ _ _).alloc _)
  have R0 : Hid (Bk ((sB #[.slice ra nr rc, .slice wa nw wc, .slice aa na ac, .int .i64 cf, .slice (some ⟨cb, co, none⟩) nc cc] (mC ((i : Int) + 1) (fuel - 1) (.slice (some ⟨sb, so, none⟩) (k + 1 : Nat) sc) r0 r1 r2 r3 (.slice oA on oc) false e0) w).alloc (.cells #[.int .i64 3, .int .i64 2, .int .i64 b] 51)) (w.heap.size + 1 + 1) 54 mZ) := Lib.hid ((sB_res _ _ _).alloc _)
  have I0 : Hid (Bk ((sB #[.slice ra nr rc, .slice wa nw wc, .slice aa na ac, .int .i64 cf, .slice (some ⟨cb, co, none⟩) nc cc] (mC ((i : Int) + 1) (fuel - 1) (.slice (some ⟨sb, so, none⟩) (k + 1 : Nat) sc) r0 r1 r2 r3 (.slice oA on oc) false e0) w).alloc (.cells #[.int .i64 3, .int .i64 2, .int .i64 b] 51)) (w.heap.size + 1 + 1 + 1) 51 #[.int .i64 3, .int .i64 2, .int .i64 b]) := Lib.hid (rW_ins _ _ _ _)
  have hpop := Lib.hid (rpop1 ((i : Int) + 1) (fuel - 1) st r0 r1 r2 r3 false e0 (some ⟨sb, so, none⟩) sc oA on oc k ((sB #[.slice ra nr rc, .slice wa nw wc, .slice aa na ac, .int .i64 cf, .slice (some ⟨cb, co, none⟩) nc cc] (mC ((i : Int) + 1) (fuel - 1) (.slice (some ⟨sb, so, none⟩) (k + 1 : Nat) sc) r0 r1 r2 r3 (.slice oA on oc) false e0) w).alloc (.cells #[.int .i64 3, .int .i64 2, .int .i64 b] 51)) (HM.out.st.below B0.out) hk)
  have hWs : Hid (w.heap.size + 1 + 1 + 1 < ((sB #[.slice ra nr rc, .slice wa nw wc, .slice aa na ac, .int .i64 cf, .slice (some ⟨cb, co, none⟩) nc cc] (mC ((i : Int) + 1) (fuel - 1) (.slice (some ⟨sb, so, none⟩) (k + 1 : Nat) sc) r0 r1 r2 r3 (.slice oA on oc) false e0) w).alloc (.cells #[.int .i64 3, .int .i64 2, .int .i64 b] 51)).heap.size) := Lib.hid I0.out.lt
  go_enter Try.func37, Try.ntmps37
  go_wp2_with (first
    | (with_reducible refine ld_mach (w.heap.size + 1) X0.out _ rfl rfl rfl ?_)
    | (go_at_call 47; go_must ((with_reducible refine hpop.out.mono ?_); rintro e w1 ⟨⟨A, c, A', c', rfl, p1, p2⟩, hb1⟩; have BB : Hid (Below w.heap.size w (w1.setCell ⟨w.heap.size + 1, 2, none⟩ (.slice A' k c'))) := Lib.hid ((bnext B0.out hb1).setCell (p := ⟨w.heap.size + 1, 2, none⟩) (by simp) _); have P1 := Lib.hid (own_cellBelow p1 (G := w.heap.size + 1) (by have := hWs.out; omega) 2 (.slice A' k c')); have P2 := Lib.hid (own_cellBelow p2 (G := w.heap.size + 1) (by have := hWs.out; omega) 2 (.slice A' k c')); have X1 := Lib.hid (X0.out.below hb1); have X2 : Hid (Bk (w1.setCell ⟨w.heap.size + 1, 2, none⟩ (.slice A' k c')) (w.heap.size + 1) 54 (mC ((i : Int) + 1) (fuel - 1) (.slice A' k c') r0 r1 r2 r3 (.slice oA on oc) false e0)) := Lib.hid (by simpa using X1.out.set 2 (.slice A' k c')); have R2 := Lib.hid ((R0.out.below hb1).far (p := ⟨w.heap.size + 1, 2, none⟩) (by simp only; omega) (.slice A' k c')); have I2 := Lib.hid ((I0.out.below hb1).far (p := ⟨w.heap.size + 1, 2, none⟩) (by simp only; omega) (.slice A' k c')); have M2 := Lib.hid (((HM.out.below B0.out).below hb1).setCell (HM.out.offNew (G := w.heap.size + 1) (by omega)) 2 (.slice A' k c')); have z2 := X1.out.cell 2; have zf := X1.out.frozen; have zl := X1.out.lt; have zi := I2.out.cell 0; simp only [List.getElem?_toArray, List.getElem?_cons_zero, List.getElem?_cons_succ] at z2 zi; clear p1 p2 hb1)))
  have hb2 : Hid (w.heap.size + 1 + 1 + 1 < (w1.setCell ⟨w.heap.size + 1, 2, none⟩ (.slice A' k c')).heap.size) := Lib.hid I2.out.lt
  generalize w1.setCell ⟨w.heap.size + 1, 2, none⟩ (.slice A' k c') = wr at *
  have hWr := hb2.out
  have hWz := hWs.out
  try simp only [List.append_eq, List.cons_append, List.nil_append]
  obtain ⟨g, cur, rfl, hgB, hgk, hgc, -, hgs, hgt⟩ := own_pos P1.out (by omega)
  have hg0 : Hid (∀ X, Below wr.heap.size wr X → X.cell? ⟨g, 0, none⟩ = some (.int .i64 top)) := Lib.hid (fun X hX => by
    rw [HT.out, (hgk.below hX).cell 0, ← Array.getElem?_toList]
    have hl := HM.out.st.1
    simp at hl
    have h1 : (cur.toList.take (1 * 1))[0]? = (((st.drop k).map (Value.int .i64)))[0]? := by rw [hgt]
    rw [List.getElem?_take, if_pos (by omega)] at h1
    rw [h1, List.getElem?_map, List.getElem?_drop]
    simp [show k < st.length by omega])
  have hgc1 : (1 : Int) ≤ (c : Int) := by omega
  have hgB2 : w.heap.size + 1 + 1 + 1 < g := by have := hWs.out; omega
  clear hgk hgs hgt
  refine wp_region_saysK 7 (fun x y => Below x.heap.size x y) (fun _ _ _ h k => bnext h k) wr (below_drew1 wr) (by kernel_rfl) (by kernel_rfl) (by kernel_rfl) (by kernel_rfl) (by rfl) ?_
  simp only [List.take_succ_cons, List.take_zero, List.drop_succ_cons, List.drop_zero]
  refine walkK_is ?_ (by first | exact gs0 rfl | exact gs1 rfl rfl rfl) (fun _ => Below.refl _ _) (fun u X hX hd => ?_) ?_
  rotate_left
  · have q1 := (I2.out.below hX).cell 1
    have q2 := hg0.out X hX
    simp only [List.getElem?_toArray, List.getElem?_cons_zero, List.getElem?_cons_succ] at q1
    try simp at hd
    go_simp
    try rfl
  apply walkK_norm
  · first | (simp only [List.nil_append]; rfl) | simp only [List.nil_append]
  refine walkK_is ?_ (by first | exact gs0 rfl | exact gs1 rfl rfl rfl) (fun _ => Below.refl _ _) (fun u X hX hd => ?_) ?_
  rotate_left
  · have q1 := (I2.out.below hX).cell 1
    have q2 := hg0.out X hX
    simp only [List.getElem?_toArray, List.getElem?_cons_zero, List.getElem?_cons_succ] at q1
    try simp at hd
    go_simp
    try rfl
  apply walkK_norm
  · first | (simp only [List.nil_append, List.cons_append]; rfl) | simp only [List.nil_append, List.cons_append]
  refine walkK_is ?_ (by first | exact gs0 rfl | exact gs1 rfl rfl rfl) (fun _ => Below.refl _ _) (fun u X hX hd => ?_) ?_
  rotate_left
  · have q1 := (I2.out.below hX).cell 1
    have q2 := hg0.out X hX
    simp only [List.getElem?_toArray, List.getElem?_cons_zero, List.getElem?_cons_succ] at q1
    try simp at hd
    go_simp
    try rfl
  apply walkK_norm
  · first | (simp only [List.nil_append, List.cons_append]; rfl) | simp only [List.nil_append, List.cons_append]
  refine walkK_is ?_ (by first | exact gs0 rfl | exact gs1 rfl rfl rfl) (fun _ => Below.refl _ _) (fun u X hX hd => ?_) ?_
  rotate_left
  · have q1 := (I2.out.below hX).cell 1
    have q2 := hg0.out X hX
    simp only [List.getElem?_toArray, List.getElem?_cons_zero, List.getElem?_cons_succ] at q1
    try simp at hd
    go_simp
    try rfl
  apply walkK_norm
  · first | (simp only [List.nil_append, List.cons_append]; rfl) | simp only [List.nil_append, List.cons_append]
  refine walkK_is ?_ (by first | exact gs0 rfl | exact gs1 rfl rfl rfl) (fun _ => Below.refl _ _) (fun u X hX hd => ?_) ?_
  rotate_left
  · have q1 := (I2.out.below hX).cell 1
    have q2 := hg0.out X hX
    simp only [List.getElem?_toArray, List.getElem?_cons_zero, List.getElem?_cons_succ] at q1
    try simp at hd
    go_simp
    try rfl
  apply walkK_norm
  · first | (simp only [List.nil_append, List.cons_append]; rfl) | simp only [List.nil_append, List.cons_append]
  refine walkK_is ?_ (by first | exact gs0 rfl | exact gs1 rfl rfl rfl) (fun _ => Below.refl _ _) (fun u X hX hd => ?_) ?_
  rotate_left
  · have q1 := (I2.out.below hX).cell 1
    have q2 := hg0.out X hX
    simp only [List.getElem?_toArray, List.getElem?_cons_zero, List.getElem?_cons_succ] at q1
    try simp at hd
    go_simp
    try rfl
  apply walkK_norm
  · first | (simp only [List.nil_append, List.cons_append]; rfl) | simp only [List.nil_append, List.cons_append]
  refine walkK_is ?_ (by first | exact gs0 rfl | exact gs1 rfl rfl rfl) (fun _ => Below.refl _ _) (fun u X hX hd => ?_) ?_
  rotate_left
  · have q1 := (I2.out.below hX).cell 1
    have q2 := hg0.out X hX
    simp only [List.getElem?_toArray, List.getElem?_cons_zero, List.getElem?_cons_succ] at q1
    try simp at hd
    go_simp
    try rfl
  apply walkK_norm
  · first | (simp only [List.nil_append, List.cons_append]; rfl) | simp only [List.nil_append, List.cons_append]
  intro u X hX hsay
  simp only [sayAll, isV] at hsay
  obtain ⟨v0, v1, v2, v3, v4, v5, v6, -⟩ := hsay
  have XB := Lib.hid (X2.out.below hX)
  have z3 := XB.out.cell 5
  have zg := XB.out.frozen
  have zm := XB.out.lt
  simp only [List.getElem?_toArray, List.getElem?_cons_zero, List.getElem?_cons_succ] at z3
  have X3 : Hid (Bk (X.setCell ⟨w.heap.size + 1, 5, none⟩ (.int .i64 top)) (w.heap.size + 1) 54 (mC ((i : Int) + 1) (fuel - 1) (.slice A' k c') r0 r1 top r3 (.slice oA on oc) false e0)) := Lib.hid (by simpa using XB.out.set 5 (.int .i64 top))
  have R3 := Lib.hid ((R2.out.below hX).far (p := ⟨w.heap.size + 1, 5, none⟩) (by simp) (.int .i64 top))
  have P3 := Lib.hid (own_cellBelow (own_below P2.out hX) (G := w.heap.size + 1) (by omega) 5 (.int .i64 top))
  have M3 := Lib.hid ((M2.out.below hX).setCell (HM.out.offNew (G := w.heap.size + 1) (by omega)) 5 (.int .i64 top))
  have B3 := Lib.hid ((bnext BB.out hX).setCell (p := ⟨w.heap.size + 1, 5, none⟩) (by simp) (.int .i64 top))
  simp only [putAll, Act.put, v0, v1, v2, v3, v4, v5, v6, List.setIfInBounds_toArray, List.set_cons_succ, List.set_cons_zero]
  clear z2 zf zl zi v0 v1 v2 v3 v4 v5 v6
  go_wp2_with (first
    | (with_reducible refine ld_mach (w.heap.size + 1) X3.out _ rfl rfl rfl ?_)
    | (with_reducible refine st_mach (w.heap.size + 1 + 1) R3.out rfl rfl _ _ rfl rfl rfl rfl ?_))
  exact bodyPost_ret (v := .tuple #[.agg (mC ((i : Int) + 1) (fuel - 1) (.slice A' k c') r0 r1 top r3 (.slice oA on oc) false e0), .slice bA bn bc]) (res2_mach rfl _ _ (w.heap.size + 1 + 1) _ rfl rfl (Bk.setRow R3.out _)) rfl
    ⟨_, _, _, _, _, _, _, _, _, rfl, MIn.setRow (⟨by have := Sl.own' P3.out; simpa using this, M3.out.ou, M3.out.bk⟩) (⟨own_offA P3.out (by omega), (HM.out.offNew (by omega)).2⟩) _, below_row B3.out (by omega) _, fun G hG h => ⟨own_offA P3.out (by omega), h.2⟩⟩

set_option maxHeartbeats 4000000 in
set_option maxRecDepth 100000 in
theorem rstep3_3 (l : List Ins) (i : Nat) (k : Nat) (hk : k ≤ 1000) (b : Int) (st ou : List Int) (own : Blks) (w : World) (hC : Inss w ca cc l) (hl : l.length = nc) (hi : i < nc) (hic : nc ≤ 1000) (hx : insAt l i = ⟨3, 3, b⟩) (hM : MIn w st ou own sA (k + 1) sc oA on oc bA bn bc) (hf : fuel ≠ 0) (hf2 : 0 ≤ fuel ∧ fuel ≤ 1000) :
    Calls Try.prog 37 #[cmV ra nr rc wa nw wc aa na ac cf ca nc cc, .agg (mC (i : Int) fuel (.slice sA (k + 1 : Nat) sc) r0 r1 r2 r3 (.slice oA on oc) false e0), .slice bA bn bc] w (RSPost ((i : Int) + 1) (fuel - 1) (st.take k) r0 r1 r2 (st[k]?.getD 0) ou false e0 own sA (k + 1) oA on bA bn w) := by
  obtain ⟨top, htop⟩ : ∃ x, x = st[k]?.getD 0 := ⟨_, rfl⟩
  try rw [← htop]
  have HT := Lib.hid htop
  clear htop
  obtain ⟨cb, co, rfl, hcb, x0, x1, x2⟩ := hC.cellAt (j := i) (by omega)
  rw [hx] at x0 x1 x2
  simp only at x0 x1 x2
  have hcc := hC.2.1
  rw [hl] at hcc
  have d1 : (i : Int) < (nc : Int) := by omega
  have d2 : (i : Int) < (cc : Int) := by omega
  have f0 : (fuel == 0) = false := by simpa using hf
  have bb := sB_below #[.slice ra nr rc, .slice wa nw wc, .slice aa na ac, .int .i64 cf, .slice (some ⟨cb, co, none⟩) nc cc] (mC (i : Int) (fuel - 1) (.slice sA (k + 1 : Nat) sc) r0 r1 r2 r3 (.slice oA on oc) false e0) w
  have y0 := (bb.cell (p := ⟨cb, co + i * 3, none⟩) hcb).trans x0
  have y1 := (bb.cell (p := ⟨cb, co + i * 3 + 1, none⟩) hcb).trans x1
  have y2 := (bb.cell (p := ⟨cb, co + i * 3 + 2, none⟩) hcb).trans x2
  have HM := Lib.hid hM
  clear hC hx hl bb hM
  obtain ⟨i0, hi0, hz0, hz1, hz2⟩ := infoInt
  obtain ⟨sb, so, rfl, -, -⟩ := HM.out.st.2.2.2 (by omega)
  have B0 : Hid (Below w.heap.size w ((sB #[.slice ra nr rc, .slice wa nw wc, .slice aa na ac, .int .i64 cf, .slice (some ⟨cb, co, none⟩) nc cc] (mC ((i : Int) + 1) (fuel - 1) (.slice (some ⟨sb, so, none⟩) (k + 1 : Nat) sc) r0 r1 r2 r3 (.slice oA on oc) false e0) w).alloc (.cells #[.int .i64 3, .int .i64 3, .int .i64 b] 51))) := Lib.hid (bnext (sB_below _ _ _) (below_alloc1 _ _))
  have X0 : Hid (Bk ((sB #[.slice ra nr rc, .slice wa nw wc, .slice aa na ac, .int .i64 cf, .slice (some ⟨cb, co, none⟩) nc cc] (mC ((i : Int) + 1) (fuel - 1) (.slice (some ⟨sb, so, none⟩) (k + 1 : Nat) sc) r0 r1 r2 r3 (.slice oA on oc) false e0) w).alloc (.cells #[.int .i64 3, .int .i64 3, .int .i64 b] 51)) (w.heap.size + 1) 54 (mC ((i : Int) + 1) (fuel - 1) (.slice (some ⟨sb, so, none⟩) (k + 1 : Nat) sc) r0 r1 r2 r3 (.slice oA on oc) false e0)) := Lib.hid ((sB_box _ _ _).alloc _)
  have R0 : Hid (Bk ((sB #[.slice ra nr rc, .slice wa nw wc, .slice aa na ac, .int .i64 cf, .slice (some ⟨cb, co, none⟩) nc cc] (mC ((i : Int) + 1) (fuel - 1) (.slice (some ⟨sb, so, none⟩) (k + 1 : Nat) sc) r0 r1 r2 r3 (.slice oA on oc) false e0) w).alloc (.cells #[.int .i64 3, .int .i64 3, .int .i64 b] 51)) (w.heap.size + 1 + 1) 54 mZ) := Lib.hid ((sB_res _ _ _).alloc _)
  have I0 : Hid (Bk ((sB #[.slice ra nr rc, .slice wa nw wc, .slice aa na ac, .int .i64 cf, .slice (some ⟨cb, co, none⟩) nc cc] (mC ((i : Int) + 1) (fuel - 1) (.slice (some ⟨sb, so, none⟩) (k + 1 : Nat) sc) r0 r1 r2 r3 (.slice oA on oc) false e0) w).alloc (.cells #[.int .i64 3, .int .i64 3, .int .i64 b] 51)) (w.heap.size + 1 + 1 + 1) 51 #[.int .i64 3, .int .i64 3, .int .i64 b]) := Lib.hid (rW_ins _ _ _ _)
  have hpop := Lib.hid (rpop1 ((i : Int) + 1) (fuel - 1) st r0 r1 r2 r3 false e0 (some ⟨sb, so, none⟩) sc oA on oc k ((sB #[.slice ra nr rc, .slice wa nw wc, .slice aa na ac, .int .i64 cf, .slice (some ⟨cb, co, none⟩) nc cc] (mC ((i : Int) + 1) (fuel - 1) (.slice (some ⟨sb, so, none⟩) (k + 1 : Nat) sc) r0 r1 r2 r3 (.slice oA on oc) false e0) w).alloc (.cells #[.int .i64 3, .int .i64 3, .int .i64 b] 51)) (HM.out.st.below B0.out) hk)
  have hWs : Hid (w.heap.size + 1 + 1 + 1 < ((sB #[.slice ra nr rc, .slice wa nw wc, .slice aa na ac, .int .i64 cf, .slice (some ⟨cb, co, none⟩) nc cc] (mC ((i : Int) + 1) (fuel - 1) (.slice (some ⟨sb, so, none⟩) (k + 1 : Nat) sc) r0 r1 r2 r3 (.slice oA on oc) false e0) w).alloc (.cells #[.int .i64 3, .int .i64 3, .int .i64 b] 51)).heap.size) := Lib.hid I0.out.lt
  go_enter Try.func37, Try.ntmps37
  go_wp2_with (first
    | (with_reducible refine ld_mach (w.heap.size + 1) X0.out _ rfl rfl rfl ?_)
    | (go_at_call 47; go_must ((with_reducible refine hpop.out.mono ?_); rintro e w1 ⟨⟨A, c, A', c', rfl, p1, p2⟩, hb1⟩; have BB : Hid (Below w.heap.size w (w1.setCell ⟨w.heap.size + 1, 2, none⟩ (.slice A' k c'))) := Lib.hid ((bnext B0.out hb1).setCell (p := ⟨w.heap.size + 1, 2, none⟩) (by simp) _); have P1 := Lib.hid (own_cellBelow p1 (G := w.heap.size + 1) (by have := hWs.out; omega) 2 (.slice A' k c')); have P2 := Lib.hid (own_cellBelow p2 (G := w.heap.size + 1) (by have := hWs.out; omega) 2 (.slice A' k c')); have X1 := Lib.hid (X0.out.below hb1); have X2 : Hid (Bk (w1.setCell ⟨w.heap.size + 1, 2, none⟩ (.slice A' k c')) (w.heap.size + 1) 54 (mC ((i : Int) + 1) (fuel - 1) (.slice A' k c') r0 r1 r2 r3 (.slice oA on oc) false e0)) := Lib.hid (by simpa using X1.out.set 2 (.slice A' k c')); have R2 := Lib.hid ((R0.out.below hb1).far (p := ⟨w.heap.size + 1, 2, none⟩) (by simp only; omega) (.slice A' k c')); have I2 := Lib.hid ((I0.out.below hb1).far (p := ⟨w.heap.size + 1, 2, none⟩) (by simp only; omega) (.slice A' k c')); have M2 := Lib.hid (((HM.out.below B0.out).below hb1).setCell (HM.out.offNew (G := w.heap.size + 1) (by omega)) 2 (.slice A' k c')); have z2 := X1.out.cell 2; have zf := X1.out.frozen; have zl := X1.out.lt; have zi := I2.out.cell 0; simp only [List.getElem?_toArray, List.getElem?_cons_zero, List.getElem?_cons_succ] at z2 zi; clear p1 p2 hb1)))
  have hb2 : Hid (w.heap.size + 1 + 1 + 1 < (w1.setCell ⟨w.heap.size + 1, 2, none⟩ (.slice A' k c')).heap.size) := Lib.hid I2.out.lt
  generalize w1.setCell ⟨w.heap.size + 1, 2, none⟩ (.slice A' k c') = wr at *
  have hWr := hb2.out
  have hWz := hWs.out
  try simp only [List.append_eq, List.cons_append, List.nil_append]
  obtain ⟨g, cur, rfl, hgB, hgk, hgc, -, hgs, hgt⟩ := own_pos P1.out (by omega)
  have hg0 : Hid (∀ X, Below wr.heap.size wr X → X.cell? ⟨g, 0, none⟩ = some (.int .i64 top)) := Lib.hid (fun X hX => by
    rw [HT.out, (hgk.below hX).cell 0, ← Array.getElem?_toList]
    have hl := HM.out.st.1
    simp at hl
    have h1 : (cur.toList.take (1 * 1))[0]? = (((st.drop k).map (Value.int .i64)))[0]? := by rw [hgt]
    rw [List.getElem?_take, if_pos (by omega)] at h1
    rw [h1, List.getElem?_map, List.getElem?_drop]
    simp [show k < st.length by omega])
  have hgc1 : (1 : Int) ≤ (c : Int) := by omega
  have hgB2 : w.heap.size + 1 + 1 + 1 < g := by have := hWs.out; omega
  clear hgk hgs hgt
  refine wp_region_saysK 7 (fun x y => Below x.heap.size x y) (fun _ _ _ h k => bnext h k) wr (below_drew1 wr) (by kernel_rfl) (by kernel_rfl) (by kernel_rfl) (by kernel_rfl) (by rfl) ?_
  simp only [List.take_succ_cons, List.take_zero, List.drop_succ_cons, List.drop_zero]
  refine walkK_is ?_ (by first | exact gs0 rfl | exact gs1 rfl rfl rfl) (fun _ => Below.refl _ _) (fun u X hX hd => ?_) ?_
  rotate_left
  · have q1 := (I2.out.below hX).cell 1
    have q2 := hg0.out X hX
    simp only [List.getElem?_toArray, List.getElem?_cons_zero, List.getElem?_cons_succ] at q1
    try simp at hd
    go_simp
    try rfl
  apply walkK_norm
  · first | (simp only [List.nil_append]; rfl) | simp only [List.nil_append]
  refine walkK_is ?_ (by first | exact gs0 rfl | exact gs1 rfl rfl rfl) (fun _ => Below.refl _ _) (fun u X hX hd => ?_) ?_
  rotate_left
  · have q1 := (I2.out.below hX).cell 1
    have q2 := hg0.out X hX
    simp only [List.getElem?_toArray, List.getElem?_cons_zero, List.getElem?_cons_succ] at q1
    try simp at hd
    go_simp
    try rfl
  apply walkK_norm
  · first | (simp only [List.nil_append, List.cons_append]; rfl) | simp only [List.nil_append, List.cons_append]
  refine walkK_is ?_ (by first | exact gs0 rfl | exact gs1 rfl rfl rfl) (fun _ => Below.refl _ _) (fun u X hX hd => ?_) ?_
  rotate_left
  · have q1 := (I2.out.below hX).cell 1
    have q2 := hg0.out X hX
    simp only [List.getElem?_toArray, List.getElem?_cons_zero, List.getElem?_cons_succ] at q1
    try simp at hd
    go_simp
    try rfl
  apply walkK_norm
  · first | (simp only [List.nil_append, List.cons_append]; rfl) | simp only [List.nil_append, List.cons_append]
  refine walkK_is ?_ (by first | exact gs0 rfl | exact gs1 rfl rfl rfl) (fun _ => Below.refl _ _) (fun u X hX hd => ?_) ?_
  rotate_left
  · have q1 := (I2.out.below hX).cell 1
    have q2 := hg0.out X hX
    simp only [List.getElem?_toArray, List.getElem?_cons_zero, List.getElem?_cons_succ] at q1
    try simp at hd
    go_simp
    try rfl
  apply walkK_norm
  · first | (simp only [List.nil_append, List.cons_append]; rfl) | simp only [List.nil_append, List.cons_append]
  refine walkK_is ?_ (by first | exact gs0 rfl | exact gs1 rfl rfl rfl) (fun _ => Below.refl _ _) (fun u X hX hd => ?_) ?_
  rotate_left
  · have q1 := (I2.out.below hX).cell 1
    have q2 := hg0.out X hX
    simp only [List.getElem?_toArray, List.getElem?_cons_zero, List.getElem?_cons_succ] at q1
    try simp at hd
    go_simp
    try rfl
  apply walkK_norm
  · first | (simp only [List.nil_append, List.cons_append]; rfl) | simp only [List.nil_append, List.cons_append]
  refine walkK_is ?_ (by first | exact gs0 rfl | exact gs1 rfl rfl rfl) (fun _ => Below.refl _ _) (fun u X hX hd => ?_) ?_
  rotate_left
  · have q1 := (I2.out.below hX).cell 1
    have q2 := hg0.out X hX
    simp only [List.getElem?_toArray, List.getElem?_cons_zero, List.getElem?_cons_succ] at q1
    try simp at hd
    go_simp
    try rfl
  apply walkK_norm
  · first | (simp only [List.nil_append, List.cons_append]; rfl) | simp only [List.nil_append, List.cons_append]
  refine walkK_is ?_ (by first | exact gs0 rfl | exact gs1 rfl rfl rfl) (fun _ => Below.refl _ _) (fun u X hX hd => ?_) ?_
  rotate_left
  · have q1 := (I2.out.below hX).cell 1
    have q2 := hg0.out X hX
    simp only [List.getElem?_toArray, List.getElem?_cons_zero, List.getElem?_cons_succ] at q1
    try simp at hd
    go_simp
    try rfl
  apply walkK_norm
  · first | (simp only [List.nil_append, List.cons_append]; rfl) | simp only [List.nil_append, List.cons_append]
  intro u X hX hsay
  simp only [sayAll, isV] at hsay
  obtain ⟨v0, v1, v2, v3, v4, v5, v6, -⟩ := hsay
  have XB := Lib.hid (X2.out.below hX)
  have z3 := XB.out.cell 6
  have zg := XB.out.frozen
  have zm := XB.out.lt
  simp only [List.getElem?_toArray, List.getElem?_cons_zero, List.getElem?_cons_succ] at z3
  have X3 : Hid (Bk (X.setCell ⟨w.heap.size + 1, 6, none⟩ (.int .i64 top)) (w.heap.size + 1) 54 (mC ((i : Int) + 1) (fuel - 1) (.slice A' k c') r0 r1 r2 top (.slice oA on oc) false e0)) := Lib.hid (by simpa using XB.out.set 6 (.int .i64 top))
  have R3 := Lib.hid ((R2.out.below hX).far (p := ⟨w.heap.size + 1, 6, none⟩) (by simp) (.int .i64 top))
  have P3 := Lib.hid (own_cellBelow (own_below P2.out hX) (G := w.heap.size + 1) (by omega) 6 (.int .i64 top))
  have M3 := Lib.hid ((M2.out.below hX).setCell (HM.out.offNew (G := w.heap.size + 1) (by omega)) 6 (.int .i64 top))
  have B3 := Lib.hid ((bnext BB.out hX).setCell (p := ⟨w.heap.size + 1, 6, none⟩) (by simp) (.int .i64 top))
  simp only [putAll, Act.put, v0, v1, v2, v3, v4, v5, v6, List.setIfInBounds_toArray, List.set_cons_succ, List.set_cons_zero]
  clear z2 zf zl zi v0 v1 v2 v3 v4 v5 v6
  go_wp2_with (first
    | (with_reducible refine ld_mach (w.heap.size + 1) X3.out _ rfl rfl rfl ?_)
    | (with_reducible refine st_mach (w.heap.size + 1 + 1) R3.out rfl rfl _ _ rfl rfl rfl rfl ?_))
  exact bodyPost_ret (v := .tuple #[.agg (mC ((i : Int) + 1) (fuel - 1) (.slice A' k c') r0 r1 r2 top (.slice oA on oc) false e0), .slice bA bn bc]) (res2_mach rfl _ _ (w.heap.size + 1 + 1) _ rfl rfl (Bk.setRow R3.out _)) rfl
    ⟨_, _, _, _, _, _, _, _, _, rfl, MIn.setRow (⟨by have := Sl.own' P3.out; simpa using this, M3.out.ou, M3.out.bk⟩) (⟨own_offA P3.out (by omega), (HM.out.offNew (by omega)).2⟩) _, below_row B3.out (by omega) _, fun G hG h => ⟨own_offA P3.out (by omega), h.2⟩⟩

set_option maxHeartbeats 4000000 in
set_option maxRecDepth 100000 in
theorem rstep13_0 (l : List Ins) (i : Nat) (k : Nat) (hk : k ≤ 1000) (a b : Int) (st ou : List Int) (own : Blks) (w : World) (hC : Inss w ca cc l) (hl : l.length = nc) (hi : i < nc) (hic : nc ≤ 1000) (hx : insAt l i = ⟨13, a, b⟩) (hM : MIn w st ou own sA (k + 1) sc oA on oc bA bn bc) (hf : fuel ≠ 0) (hf2 : 0 ≤ fuel ∧ fuel ≤ 1000) (h0 : st[k]?.getD 0 = 0) (ha : 0 ≤ a ∧ a ≤ 1000) :
    Calls Try.prog 37 #[cmV ra nr rc wa nw wc aa na ac cf ca nc cc, .agg (mC (i : Int) fuel (.slice sA (k + 1 : Nat) sc) r0 r1 r2 r3 (.slice oA on oc) false e0), .slice bA bn bc] w (RSPost ((i : Int) + 1 + a) (fuel - 1) (st.take k) r0 r1 r2 r3 ou false e0 own sA (k + 1) oA on bA bn w) := by
  obtain ⟨top, htop⟩ : ∃ x, x = st[k]?.getD 0 := ⟨_, rfl⟩
  try rw [← htop]
  rw [← htop] at h0
  have htt : (top == 0) = true := by simpa using h0
  clear h0
  have HT := Lib.hid htop
  clear htop
  obtain ⟨cb, co, rfl, hcb, x0, x1, x2⟩ := hC.cellAt (j := i) (by omega)
  rw [hx] at x0 x1 x2
  simp only at x0 x1 x2
  have hcc := hC.2.1
  rw [hl] at hcc
  have d1 : (i : Int) < (nc : Int) := by omega
  have d2 : (i : Int) < (cc : Int) := by omega
  have f0 : (fuel == 0) = false := by simpa using hf
  have bb := sB_below #[.slice ra nr rc, .slice wa nw wc, .slice aa na ac, .int .i64 cf, .slice (some ⟨cb, co, none⟩) nc cc] (mC (i : Int) (fuel - 1) (.slice sA (k + 1 : Nat) sc) r0 r1 r2 r3 (.slice oA on oc) false e0) w
  have y0 := (bb.cell (p := ⟨cb, co + i * 3, none⟩) hcb).trans x0
  have y1 := (bb.cell (p := ⟨cb, co + i * 3 + 1, none⟩) hcb).trans x1
  have y2 := (bb.cell (p := ⟨cb, co + i * 3 + 2, none⟩) hcb).trans x2
  have HM := Lib.hid hM
  clear hC hx hl bb hM
  obtain ⟨i0, hi0, hz0, hz1, hz2⟩ := infoInt
  obtain ⟨sb, so, rfl, -, -⟩ := HM.out.st.2.2.2 (by omega)
  have B0 : Hid (Below w.heap.size w ((sB #[.slice ra nr rc, .slice wa nw wc, .slice aa na ac, .int .i64 cf, .slice (some ⟨cb, co, none⟩) nc cc] (mC ((i : Int) + 1) (fuel - 1) (.slice (some ⟨sb, so, none⟩) (k + 1 : Nat) sc) r0 r1 r2 r3 (.slice oA on oc) false e0) w).alloc (.cells #[.int .i64 13, .int .i64 a, .int .i64 b] 51))) := Lib.hid (bnext (sB_below _ _ _) (below_alloc1 _ _))
  have X0 : Hid (Bk ((sB #[.slice ra nr rc, .slice wa nw wc, .slice aa na ac, .int .i64 cf, .slice (some ⟨cb, co, none⟩) nc cc] (mC ((i : Int) + 1) (fuel - 1) (.slice (some ⟨sb, so, none⟩) (k + 1 : Nat) sc) r0 r1 r2 r3 (.slice oA on oc) false e0) w).alloc (.cells #[.int .i64 13, .int .i64 a, .int .i64 b] 51)) (w.heap.size + 1) 54 (mC ((i : Int) + 1) (fuel - 1) (.slice (some ⟨sb, so, none⟩) (k + 1 : Nat) sc) r0 r1 r2 r3 (.slice oA on oc) false e0)) := Lib.hid ((sB_box _ _ _).alloc _)
  have R0 : Hid (Bk ((sB #[.slice ra nr rc, .slice wa nw wc, .slice aa na ac, .int .i64 cf, .slice (some ⟨cb, co, none⟩) nc cc] (mC ((i : Int) + 1) (fuel - 1) (.slice (some ⟨sb, so, none⟩) (k + 1 : Nat) sc) r0 r1 r2 r3 (.slice oA on oc) false e0) w).alloc (.cells #[.int .i64 13, .int .i64 a, .int .i64 b] 51)) (w.heap.size + 1 + 1) 54 mZ) := Lib.hid ((sB_res _ _ _).alloc _)
  have I0 : Hid (Bk ((sB #[.slice ra nr rc, .slice wa nw wc, .slice aa na ac, .int .i64 cf, .slice (some ⟨cb, co, none⟩) nc cc] (mC ((i : Int) + 1) (fuel - 1) (.slice (some ⟨sb, so, none⟩) (k + 1 : Nat) sc) r0 r1 r2 r3 (.slice oA on oc) false e0) w).alloc (.cells #[.int .i64 13, .int .i64 a, .int .i64 b] 51)) (w.heap.size + 1 + 1 + 1) 51 #[.int .i64 13, .int .i64 a, .int .i64 b]) := Lib.hid (rW_ins _ _ _ _)
  have hpop := Lib.hid (rpop1 ((i : Int) + 1) (fuel - 1) st r0 r1 r2 r3 false e0 (some ⟨sb, so, none⟩) sc oA on oc k ((sB #[.slice ra nr rc, .slice wa nw wc, .slice aa na ac, .int .i64 cf, .slice (some ⟨cb, co, none⟩) nc cc] (mC ((i : Int) + 1) (fuel - 1) (.slice (some ⟨sb, so, none⟩) (k + 1 : Nat) sc) r0 r1 r2 r3 (.slice oA on oc) false e0) w).alloc (.cells #[.int .i64 13, .int .i64 a, .int .i64 b] 51)) (HM.out.st.below B0.out) hk)
  have hWs : Hid (w.heap.size + 1 + 1 + 1 < ((sB #[.slice ra nr rc, .slice wa nw wc, .slice aa na ac, .int .i64 cf, .slice (some ⟨cb, co, none⟩) nc cc] (mC ((i : Int) + 1) (fuel - 1) (.slice (some ⟨sb, so, none⟩) (k + 1 : Nat) sc) r0 r1 r2 r3 (.slice oA on oc) false e0) w).alloc (.cells #[.int .i64 13, .int .i64 a, .int .i64 b] 51)).heap.size) := Lib.hid I0.out.lt
  go_enter Try.func37, Try.ntmps37
  go_wp2_with (first
    | (with_reducible refine ld_mach (w.heap.size + 1) X0.out _ rfl rfl rfl ?_)
    | (go_at_call 47; go_must ((with_reducible refine hpop.out.mono ?_); rintro e w1 ⟨⟨A, c, A', c', rfl, p1, p2⟩, hb1⟩; have BB : Hid (Below w.heap.size w (w1.setCell ⟨w.heap.size + 1, 2, none⟩ (.slice A' k c'))) := Lib.hid ((bnext B0.out hb1).setCell (p := ⟨w.heap.size + 1, 2, none⟩) (by simp) _); have P1 := Lib.hid (own_cellBelow p1 (G := w.heap.size + 1) (by have := hWs.out; omega) 2 (.slice A' k c')); have P2 := Lib.hid (own_cellBelow p2 (G := w.heap.size + 1) (by have := hWs.out; omega) 2 (.slice A' k c')); have X1 := Lib.hid (X0.out.below hb1); have X2 : Hid (Bk (w1.setCell ⟨w.heap.size + 1, 2, none⟩ (.slice A' k c')) (w.heap.size + 1) 54 (mC ((i : Int) + 1) (fuel - 1) (.slice A' k c') r0 r1 r2 r3 (.slice oA on oc) false e0)) := Lib.hid (by simpa using X1.out.set 2 (.slice A' k c')); have R2 := Lib.hid ((R0.out.below hb1).far (p := ⟨w.heap.size + 1, 2, none⟩) (by simp only; omega) (.slice A' k c')); have I2 := Lib.hid ((I0.out.below hb1).far (p := ⟨w.heap.size + 1, 2, none⟩) (by simp only; omega) (.slice A' k c')); have M2 := Lib.hid (((HM.out.below B0.out).below hb1).setCell (HM.out.offNew (G := w.heap.size + 1) (by omega)) 2 (.slice A' k c')); have z2 := X1.out.cell 2; have zf := X1.out.frozen; have zl := X1.out.lt; have zi := I2.out.cell 0; simp only [List.getElem?_toArray, List.getElem?_cons_zero, List.getElem?_cons_succ] at z2 zi; obtain ⟨g, cur, rfl, hgB, hgk, -, -, -, hgt⟩ := own_pos p1 (by omega); have hgb : w.heap.size + 1 < g := (by have := hWs.out; omega); have gf : (w1.setCell ⟨w.heap.size + 1, 2, none⟩ (.slice A' k c')).cell? ⟨g, 0, none⟩ = some (.int .i64 top) := (by rw [HT.out, (hgk.far (p := ⟨w.heap.size + 1, 2, none⟩) (by simp; omega) (.slice A' k c')).cell 0, ← Array.getElem?_toList]; have hl := HM.out.st.1; simp at hl; have h1 : (cur.toList.take (1 * 1))[0]? = (((st.drop k).map (Value.int .i64)))[0]? := (by rw [hgt]); rw [List.getElem?_take, if_pos (by omega)] at h1; rw [h1, List.getElem?_map, List.getElem?_drop]; simp [show k < st.length by omega]); have gc := (hgk.far (p := ⟨w.heap.size + 1, 2, none⟩) (by simp; omega) (.slice A' k c')).lt; have i1 := I2.out.cell 1; have x0 := X2.out.cell 0; have xf := X2.out.frozen; have xl := X2.out.lt; have il := I2.out.lt; simp only [List.getElem?_toArray, List.getElem?_cons_zero, List.getElem?_cons_succ] at i1 x0; have X3 : Hid (Bk ((w1.setCell ⟨w.heap.size + 1, 2, none⟩ (.slice A' k c')).setCell ⟨w.heap.size + 1, 0, none⟩ (.int .i64 ((i : Int) + 1 + a))) (w.heap.size + 1) 54 (mC ((i : Int) + 1 + a) (fuel - 1) (.slice A' k c') r0 r1 r2 r3 (.slice oA on oc) false e0)) := Lib.hid (by simpa using X2.out.set 0 (.int .i64 ((i : Int) + 1 + a))); have R3 := Lib.hid (R2.out.far (p := ⟨w.heap.size + 1, 0, none⟩) (by simp) (.int .i64 ((i : Int) + 1 + a))); have P3 := Lib.hid (own_cellBelow P2.out (G := w.heap.size + 1) (by have := hWs.out; omega) 0 (.int .i64 ((i : Int) + 1 + a))); have M3 := Lib.hid (M2.out.setCell (HM.out.offNew (G := w.heap.size + 1) (by omega)) 0 (.int .i64 ((i : Int) + 1 + a))); have B3 := Lib.hid (BB.out.setCell (p := ⟨w.heap.size + 1, 0, none⟩) (by simp) (.int .i64 ((i : Int) + 1 + a))); clear hgk hgt; clear p1 p2 hb1))
    | (with_reducible refine ld_mach (w.heap.size + 1) X3.out _ rfl rfl rfl ?_)
    | (with_reducible refine st_mach (w.heap.size + 1 + 1) R3.out rfl rfl _ _ rfl rfl rfl rfl ?_))
  have hWz := hWs.out
  exact bodyPost_ret (v := .tuple #[.agg (mC ((i : Int) + 1 + a) (fuel - 1) (.slice A' k c') r0 r1 r2 r3 (.slice oA on oc) false e0), .slice bA bn bc]) (res2_mach rfl _ _ (w.heap.size + 1 + 1) _ rfl rfl (Bk.setRow R3.out _)) rfl
    ⟨_, _, _, _, _, _, _, _, _, rfl, MIn.setRow (⟨by have := Sl.own' P3.out; simpa using this, M3.out.ou, M3.out.bk⟩) (⟨own_offA P3.out (by omega), (HM.out.offNew (by omega)).2⟩) _, below_row B3.out (by omega) _, fun G hG h => ⟨own_offA P3.out (by omega), h.2⟩⟩

set_option maxHeartbeats 4000000 in
set_option maxRecDepth 100000 in
theorem rstep13_1 (l : List Ins) (i : Nat) (k : Nat) (hk : k ≤ 1000) (a b : Int) (st ou : List Int) (own : Blks) (w : World) (hC : Inss w ca cc l) (hl : l.length = nc) (hi : i < nc) (hic : nc ≤ 1000) (hx : insAt l i = ⟨13, a, b⟩) (hM : MIn w st ou own sA (k + 1) sc oA on oc bA bn bc) (hf : fuel ≠ 0) (hf2 : 0 ≤ fuel ∧ fuel ≤ 1000) (h0 : st[k]?.getD 0 ≠ 0) :
    Calls Try.prog 37 #[cmV ra nr rc wa nw wc aa na ac cf ca nc cc, .agg (mC (i : Int) fuel (.slice sA (k + 1 : Nat) sc) r0 r1 r2 r3 (.slice oA on oc) false e0), .slice bA bn bc] w (RSPost ((i : Int) + 1) (fuel - 1) (st.take k) r0 r1 r2 r3 ou false e0 own sA (k + 1) oA on bA bn w) := by
  obtain ⟨top, htop⟩ : ∃ x, x = st[k]?.getD 0 := ⟨_, rfl⟩
  try rw [← htop]
  rw [← htop] at h0
  have htt : (top == 0) = false := by simpa using h0
  clear h0
  have HT := Lib.hid htop
  clear htop
  obtain ⟨cb, co, rfl, hcb, x0, x1, x2⟩ := hC.cellAt (j := i) (by omega)
  rw [hx] at x0 x1 x2
  simp only at x0 x1 x2
  have hcc := hC.2.1
  rw [hl] at hcc
  have d1 : (i : Int) < (nc : Int) := by omega
  have d2 : (i : Int) < (cc : Int) := by omega
  have f0 : (fuel == 0) = false := by simpa using hf
  have bb := sB_below #[.slice ra nr rc, .slice wa nw wc, .slice aa na ac, .int .i64 cf, .slice (some ⟨cb, co, none⟩) nc cc] (mC (i : Int) (fuel - 1) (.slice sA (k + 1 : Nat) sc) r0 r1 r2 r3 (.slice oA on oc) false e0) w
  have y0 := (bb.cell (p := ⟨cb, co + i * 3, none⟩) hcb).trans x0
  have y1 := (bb.cell (p := ⟨cb, co + i * 3 + 1, none⟩) hcb).trans x1
  have y2 := (bb.cell (p := ⟨cb, co + i * 3 + 2, none⟩) hcb).trans x2
  have HM := Lib.hid hM
  clear hC hx hl bb hM
  obtain ⟨i0, hi0, hz0, hz1, hz2⟩ := infoInt
  obtain ⟨sb, so, rfl, -, -⟩ := HM.out.st.2.2.2 (by omega)
  have B0 : Hid (Below w.heap.size w ((sB #[.slice ra nr rc, .slice wa nw wc, .slice aa na ac, .int .i64 cf, .slice (some ⟨cb, co, none⟩) nc cc] (mC ((i : Int) + 1) (fuel - 1) (.slice (some ⟨sb, so, none⟩) (k + 1 : Nat) sc) r0 r1 r2 r3 (.slice oA on oc) false e0) w).alloc (.cells #[.int .i64 13, .int .i64 a, .int .i64 b] 51))) := Lib.hid (bnext (sB_below _ _ _) (below_alloc1 _ _))
  have X0 : Hid (Bk ((sB #[.slice ra nr rc, .slice wa nw wc, .slice aa na ac, .int .i64 cf, .slice (some ⟨cb, co, none⟩) nc cc] (mC ((i : Int) + 1) (fuel - 1) (.slice (some ⟨sb, so, none⟩) (k + 1 : Nat) sc) r0 r1 r2 r3 (.slice oA on oc) false e0) w).alloc (.cells #[.int .i64 13, .int .i64 a, .int .i64 b] 51)) (w.heap.size + 1) 54 (mC ((i : Int) + 1) (fuel - 1) (.slice (some ⟨sb, so, none⟩) (k + 1 : Nat) sc) r0 r1 r2 r3 (.slice oA on oc) false e0)) := Lib.hid ((sB_box _ _ _).alloc _)
  have R0 : Hid (Bk ((sB #[.slice ra nr rc, .slice wa nw wc, .slice aa na ac, .int .i64 cf, .slice (some ⟨cb, co, none⟩) nc cc] (mC ((i : Int) + 1) (fuel - 1) (.slice (some ⟨sb, so, none⟩) (k + 1 : Nat) sc) r0 r1 r2 r3 (.slice oA on oc) false e0) w).alloc (.cells #[.int .i64 13, .int .i64 a, .int .i64 b] 51)) (w.heap.size + 1 + 1) 54 mZ) := Lib.hid ((sB_res _ _ _).alloc _)
  have I0 : Hid (Bk ((sB #[.slice ra nr rc, .slice wa nw wc, .slice aa na ac, .int .i64 cf, .slice (some ⟨cb, co, none⟩) nc cc] (mC ((i : Int) + 1) (fuel - 1) (.slice (some ⟨sb, so, none⟩) (k + 1 : Nat) sc) r0 r1 r2 r3 (.slice oA on oc) false e0) w).alloc (.cells #[.int .i64 13, .int .i64 a, .int .i64 b] 51)) (w.heap.size + 1 + 1 + 1) 51 #[.int .i64 13, .int .i64 a, .int .i64 b]) := Lib.hid (rW_ins _ _ _ _)
  have hpop := Lib.hid (rpop1 ((i : Int) + 1) (fuel - 1) st r0 r1 r2 r3 false e0 (some ⟨sb, so, none⟩) sc oA on oc k ((sB #[.slice ra nr rc, .slice wa nw wc, .slice aa na ac, .int .i64 cf, .slice (some ⟨cb, co, none⟩) nc cc] (mC ((i : Int) + 1) (fuel - 1) (.slice (some ⟨sb, so, none⟩) (k + 1 : Nat) sc) r0 r1 r2 r3 (.slice oA on oc) false e0) w).alloc (.cells #[.int .i64 13, .int .i64 a, .int .i64 b] 51)) (HM.out.st.below B0.out) hk)
  have hWs : Hid (w.heap.size + 1 + 1 + 1 < ((sB #[.slice ra nr rc, .slice wa nw wc, .slice aa na ac, .int .i64 cf, .slice (some ⟨cb, co, none⟩) nc cc] (mC ((i : Int) + 1) (fuel - 1) (.slice (some ⟨sb, so, none⟩) (k + 1 : Nat) sc) r0 r1 r2 r3 (.slice oA on oc) false e0) w).alloc (.cells #[.int .i64 13, .int .i64 a, .int .i64 b] 51)).heap.size) := Lib.hid I0.out.lt
  go_enter Try.func37, Try.ntmps37
  go_wp2_with (first
    | (with_reducible refine ld_mach (w.heap.size + 1) X0.out _ rfl rfl rfl ?_)
    | (go_at_call 47; go_must ((with_reducible refine hpop.out.mono ?_); rintro e w1 ⟨⟨A, c, A', c', rfl, p1, p2⟩, hb1⟩; have BB : Hid (Below w.heap.size w (w1.setCell ⟨w.heap.size + 1, 2, none⟩ (.slice A' k c'))) := Lib.hid ((bnext B0.out hb1).setCell (p := ⟨w.heap.size + 1, 2, none⟩) (by simp) _); have P1 := Lib.hid (own_cellBelow p1 (G := w.heap.size + 1) (by have := hWs.out; omega) 2 (.slice A' k c')); have P2 := Lib.hid (own_cellBelow p2 (G := w.heap.size + 1) (by have := hWs.out; omega) 2 (.slice A' k c')); have X1 := Lib.hid (X0.out.below hb1); have X2 : Hid (Bk (w1.setCell ⟨w.heap.size + 1, 2, none⟩ (.slice A' k c')) (w.heap.size + 1) 54 (mC ((i : Int) + 1) (fuel - 1) (.slice A' k c') r0 r1 r2 r3 (.slice oA on oc) false e0)) := Lib.hid (by simpa using X1.out.set 2 (.slice A' k c')); have R2 := Lib.hid ((R0.out.below hb1).far (p := ⟨w.heap.size + 1, 2, none⟩) (by simp only; omega) (.slice A' k c')); have I2 := Lib.hid ((I0.out.below hb1).far (p := ⟨w.heap.size + 1, 2, none⟩) (by simp only; omega) (.slice A' k c')); have M2 := Lib.hid (((HM.out.below B0.out).below hb1).setCell (HM.out.offNew (G := w.heap.size + 1) (by omega)) 2 (.slice A' k c')); have z2 := X1.out.cell 2; have zf := X1.out.frozen; have zl := X1.out.lt; have zi := I2.out.cell 0; simp only [List.getElem?_toArray, List.getElem?_cons_zero, List.getElem?_cons_succ] at z2 zi; obtain ⟨g, cur, rfl, hgB, hgk, -, -, -, hgt⟩ := own_pos p1 (by omega); have hgb : w.heap.size + 1 < g := (by have := hWs.out; omega); have gf : (w1.setCell ⟨w.heap.size + 1, 2, none⟩ (.slice A' k c')).cell? ⟨g, 0, none⟩ = some (.int .i64 top) := (by rw [HT.out, (hgk.far (p := ⟨w.heap.size + 1, 2, none⟩) (by simp; omega) (.slice A' k c')).cell 0, ← Array.getElem?_toList]; have hl := HM.out.st.1; simp at hl; have h1 : (cur.toList.take (1 * 1))[0]? = (((st.drop k).map (Value.int .i64)))[0]? := (by rw [hgt]); rw [List.getElem?_take, if_pos (by omega)] at h1; rw [h1, List.getElem?_map, List.getElem?_drop]; simp [show k < st.length by omega]); have gc := (hgk.far (p := ⟨w.heap.size + 1, 2, none⟩) (by simp; omega) (.slice A' k c')).lt; have i1 := I2.out.cell 1; have x0 := X2.out.cell 0; have xf := X2.out.frozen; have xl := X2.out.lt; have il := I2.out.lt; simp only [List.getElem?_toArray, List.getElem?_cons_zero, List.getElem?_cons_succ] at i1 x0; clear hgk hgt; clear p1 p2 hb1))
    | (with_reducible refine ld_mach (w.heap.size + 1) X2.out _ rfl rfl rfl ?_)
    | (with_reducible refine st_mach (w.heap.size + 1 + 1) R2.out rfl rfl _ _ rfl rfl rfl rfl ?_))
  have hWz := hWs.out
  exact bodyPost_ret (v := .tuple #[.agg (mC ((i : Int) + 1) (fuel - 1) (.slice A' k c') r0 r1 r2 r3 (.slice oA on oc) false e0), .slice bA bn bc]) (res2_mach rfl _ _ (w.heap.size + 1 + 1) _ rfl rfl (Bk.setRow R2.out _)) rfl
    ⟨_, _, _, _, _, _, _, _, _, rfl, MIn.setRow (⟨by have := Sl.own' P2.out; simpa using this, M2.out.ou, M2.out.bk⟩) (⟨own_offA P2.out (by omega), (HM.out.offNew (by omega)).2⟩) _, below_row BB.out (by omega) _, fun G hG h => ⟨own_offA P2.out (by omega), h.2⟩⟩

set_option maxHeartbeats 4000000 in
set_option maxRecDepth 100000 in
theorem rstep15 (l : List Ins) (i : Nat) (k : Nat) (hk : k ≤ 1000) (a b : Int) (st ou : List Int) (own : Blks) (w : World) (hC : Inss w ca cc l) (hl : l.length = nc) (hi : i < nc) (hic : nc ≤ 1000) (hx : insAt l i = ⟨15, a, b⟩) (hM : MIn w st ou own sA (k + 1) sc oA on oc bA bn bc) (hf : fuel ≠ 0) (hf2 : 0 ≤ fuel ∧ fuel ≤ 1000) (hon : on ≤ 1000) :
    Calls Try.prog 37 #[cmV ra nr rc wa nw wc aa na ac cf ca nc cc, .agg (mC (i : Int) fuel (.slice sA (k + 1 : Nat) sc) r0 r1 r2 r3 (.slice oA on oc) false e0), .slice bA bn bc] w (RSPost ((i : Int) + 1) (fuel - 1) (st.take k) r0 r1 r2 r3 (ou ++ [st[k]?.getD 0]) false e0 own sA (k + 1) oA on bA bn w) := by
  obtain ⟨top, htop⟩ : ∃ x, x = st[k]?.getD 0 := ⟨_, rfl⟩
  try rw [← htop]
  have HT := Lib.hid htop
  clear htop
  obtain ⟨cb, co, rfl, hcb, x0, x1, x2⟩ := hC.cellAt (j := i) (by omega)
  rw [hx] at x0 x1 x2
  simp only at x0 x1 x2
  have hcc := hC.2.1
  rw [hl] at hcc
  have d1 : (i : Int) < (nc : Int) := by omega
  have d2 : (i : Int) < (cc : Int) := by omega
  have f0 : (fuel == 0) = false := by simpa using hf
  have bb := sB_below #[.slice ra nr rc, .slice wa nw wc, .slice aa na ac, .int .i64 cf, .slice (some ⟨cb, co, none⟩) nc cc] (mC (i : Int) (fuel - 1) (.slice sA (k + 1 : Nat) sc) r0 r1 r2 r3 (.slice oA on oc) false e0) w
  have y0 := (bb.cell (p := ⟨cb, co + i * 3, none⟩) hcb).trans x0
  have y1 := (bb.cell (p := ⟨cb, co + i * 3 + 1, none⟩) hcb).trans x1
  have y2 := (bb.cell (p := ⟨cb, co + i * 3 + 2, none⟩) hcb).trans x2
  have HM := Lib.hid hM
  clear hC hx hl bb hM
  obtain ⟨i0, hi0, hz0, hz1, hz2⟩ := infoInt
  obtain ⟨sb, so, rfl, -, -⟩ := HM.out.st.2.2.2 (by omega)
  have B0 : Hid (Below w.heap.size w ((sB #[.slice ra nr rc, .slice wa nw wc, .slice aa na ac, .int .i64 cf, .slice (some ⟨cb, co, none⟩) nc cc] (mC ((i : Int) + 1) (fuel - 1) (.slice (some ⟨sb, so, none⟩) (k + 1 : Nat) sc) r0 r1 r2 r3 (.slice oA on oc) false e0) w).alloc (.cells #[.int .i64 15, .int .i64 a, .int .i64 b] 51))) := Lib.hid (bnext (sB_below _ _ _) (below_alloc1 _ _))
  have X0 : Hid (Bk ((sB #[.slice ra nr rc, .slice wa nw wc, .slice aa na ac, .int .i64 cf, .slice (some ⟨cb, co, none⟩) nc cc] (mC ((i : Int) + 1) (fuel - 1) (.slice (some ⟨sb, so, none⟩) (k + 1 : Nat) sc) r0 r1 r2 r3 (.slice oA on oc) false e0) w).alloc (.cells #[.int .i64 15, .int .i64 a, .int .i64 b] 51)) (w.heap.size + 1) 54 (mC ((i : Int) + 1) (fuel - 1) (.slice (some ⟨sb, so, none⟩) (k + 1 : Nat) sc) r0 r1 r2 r3 (.slice oA on oc) false e0)) := Lib.hid ((sB_box _ _ _).alloc _)
  have R0 : Hid (Bk ((sB #[.slice ra nr rc, .slice wa nw wc, .slice aa na ac, .int .i64 cf, .slice (some ⟨cb, co, none⟩) nc cc] (mC ((i : Int) + 1) (fuel - 1) (.slice (some ⟨sb, so, none⟩) (k + 1 : Nat) sc) r0 r1 r2 r3 (.slice oA on oc) false e0) w).alloc (.cells #[.int .i64 15, .int .i64 a, .int .i64 b] 51)) (w.heap.size + 1 + 1) 54 mZ) := Lib.hid ((sB_res _ _ _).alloc _)
  have I0 : Hid (Bk ((sB #[.slice ra nr rc, .slice wa nw wc, .slice aa na ac, .int .i64 cf, .slice (some ⟨cb, co, none⟩) nc cc] (mC ((i : Int) + 1) (fuel - 1) (.slice (some ⟨sb, so, none⟩) (k + 1 : Nat) sc) r0 r1 r2 r3 (.slice oA on oc) false e0) w).alloc (.cells #[.int .i64 15, .int .i64 a, .int .i64 b] 51)) (w.heap.size + 1 + 1 + 1) 51 #[.int .i64 15, .int .i64 a, .int .i64 b]) := Lib.hid (rW_ins _ _ _ _)
  have hpop := Lib.hid (rpop1 ((i : Int) + 1) (fuel - 1) st r0 r1 r2 r3 false e0 (some ⟨sb, so, none⟩) sc oA on oc k ((sB #[.slice ra nr rc, .slice wa nw wc, .slice aa na ac, .int .i64 cf, .slice (some ⟨cb, co, none⟩) nc cc] (mC ((i : Int) + 1) (fuel - 1) (.slice (some ⟨sb, so, none⟩) (k + 1 : Nat) sc) r0 r1 r2 r3 (.slice oA on oc) false e0) w).alloc (.cells #[.int .i64 15, .int .i64 a, .int .i64 b] 51)) (HM.out.st.below B0.out) hk)
  have hWs : Hid (w.heap.size + 1 + 1 + 1 < ((sB #[.slice ra nr rc, .slice wa nw wc, .slice aa na ac, .int .i64 cf, .slice (some ⟨cb, co, none⟩) nc cc] (mC ((i : Int) + 1) (fuel - 1) (.slice (some ⟨sb, so, none⟩) (k + 1 : Nat) sc) r0 r1 r2 r3 (.slice oA on oc) false e0) w).alloc (.cells #[.int .i64 15, .int .i64 a, .int .i64 b] 51)).heap.size) := Lib.hid I0.out.lt
  go_enter Try.func37, Try.ntmps37
  go_wp2_with (first
    | (with_reducible refine ld_mach (w.heap.size + 1) X0.out _ rfl rfl rfl ?_)
    | (go_at_call 47; go_must ((with_reducible refine hpop.out.mono ?_); rintro e w1 ⟨⟨A, c, A', c', rfl, p1, p2⟩, hb1⟩; have BB : Hid (Below w.heap.size w (w1.setCell ⟨w.heap.size + 1, 2, none⟩ (.slice A' k c'))) := Lib.hid ((bnext B0.out hb1).setCell (p := ⟨w.heap.size + 1, 2, none⟩) (by simp) _); have P1 := Lib.hid (own_cellBelow p1 (G := w.heap.size + 1) (by have := hWs.out; omega) 2 (.slice A' k c')); have P2 := Lib.hid (own_cellBelow p2 (G := w.heap.size + 1) (by have := hWs.out; omega) 2 (.slice A' k c')); have X1 := Lib.hid (X0.out.below hb1); have X2 : Hid (Bk (w1.setCell ⟨w.heap.size + 1, 2, none⟩ (.slice A' k c')) (w.heap.size + 1) 54 (mC ((i : Int) + 1) (fuel - 1) (.slice A' k c') r0 r1 r2 r3 (.slice oA on oc) false e0)) := Lib.hid (by simpa using X1.out.set 2 (.slice A' k c')); have R2 := Lib.hid ((R0.out.below hb1).far (p := ⟨w.heap.size + 1, 2, none⟩) (by simp only; omega) (.slice A' k c')); have I2 := Lib.hid ((I0.out.below hb1).far (p := ⟨w.heap.size + 1, 2, none⟩) (by simp only; omega) (.slice A' k c')); have M2 := Lib.hid (((HM.out.below B0.out).below hb1).setCell (HM.out.offNew (G := w.heap.size + 1) (by omega)) 2 (.slice A' k c')); have z2 := X1.out.cell 2; have zf := X1.out.frozen; have zl := X1.out.lt; have zi := I2.out.cell 0; simp only [List.getElem?_toArray, List.getElem?_cons_zero, List.getElem?_cons_succ] at z2 zi; clear p1 p2 hb1)))
  have hb2 : Hid (w.heap.size + 1 + 1 + 1 < (w1.setCell ⟨w.heap.size + 1, 2, none⟩ (.slice A' k c')).heap.size) := Lib.hid I2.out.lt
  generalize w1.setCell ⟨w.heap.size + 1, 2, none⟩ (.slice A' k c') = wr at *
  have hWr := hb2.out
  have hWz := hWs.out
  try simp only [List.append_eq, List.cons_append, List.nil_append]
  obtain ⟨g, cur, rfl, hgB, hgk, hgc, -, hgs, hgt⟩ := own_pos P1.out (by omega)
  have hg0 : Hid (∀ X, Below wr.heap.size wr X → X.cell? ⟨g, 0, none⟩ = some (.int .i64 top)) := Lib.hid (fun X hX => by
    rw [HT.out, (hgk.below hX).cell 0, ← Array.getElem?_toList]
    have hl := HM.out.st.1
    simp at hl
    have h1 : (cur.toList.take (1 * 1))[0]? = (((st.drop k).map (Value.int .i64)))[0]? := by rw [hgt]
    rw [List.getElem?_take, if_pos (by omega)] at h1
    rw [h1, List.getElem?_map, List.getElem?_drop]
    simp [show k < st.length by omega])
  have hgc1 : (1 : Int) ≤ (c : Int) := by omega
  have hgB2 : w.heap.size + 1 + 1 + 1 < g := by have := hWs.out; omega
  clear hgk hgs hgt
  have hBX : Hid (∀ {n : Nat} {u : Value} (X : World), TurnR wr.heap.size 3 n u wr X → wr.heap.size ≤ X.heap.size) := Lib.hid (fun X hX => hX.1.size)
  refine wp_region_saysK 10 (TurnR wr.heap.size 3 on (.int .i64 top)) (TurnR.trans) wr (TurnR.of (Nat.le_refl _) (below_drew1 wr)) (by kernel_rfl) (by kernel_rfl) (by kernel_rfl) (by kernel_rfl) (by rfl) ?_
  simp only [List.take_succ_cons, List.take_zero, List.drop_succ_cons, List.drop_zero]
  refine walkK_new (noneV wr.heap.size 3) (by first | exact gs0 rfl | exact gs1 rfl rfl rfl) (fun v x y hb h => noneV_turn v x y hb h) (fun u X hX hd => ⟨_, _, exec_none _ _ _ rfl, TurnR.of (hBX.out X hX) (below_alloc1 _ _), _, rfl, World.ownsRow_lit X #[] 0 (hBX.out X hX) (by decide) rfl⟩) ?_
  apply walkK_norm
  · first | (simp only [List.nil_append]; rfl) | simp only [List.nil_append]
  refine walkK_is ?_ (by first | exact gs0 rfl | exact gs1 rfl rfl rfl) (fun _ => TurnR.refl _) (fun u X hX hd => ?_) ?_
  rotate_left
  · have q1 := (X2.out.below hX.1).cell 7
    have q2 := hg0.out X hX.1
    simp only [List.getElem?_toArray, List.getElem?_cons_zero, List.getElem?_cons_succ] at q1
    try simp at hd
    go_simp
    try rfl
  apply walkK_norm
  · first | (simp only [List.nil_append, List.cons_append]; rfl) | simp only [List.nil_append, List.cons_append]
  refine walkK_is ?_ (by first | exact gs0 rfl | exact gs1 rfl rfl rfl) (fun _ => TurnR.refl _) (fun u X hX hd => ?_) ?_
  rotate_left
  · have q1 := (X2.out.below hX.1).cell 7
    have q2 := hg0.out X hX.1
    simp only [List.getElem?_toArray, List.getElem?_cons_zero, List.getElem?_cons_succ] at q1
    try simp at hd
    go_simp
    try rfl
  apply walkK_norm
  · first | (simp only [List.nil_append, List.cons_append]; rfl) | simp only [List.nil_append, List.cons_append]
  refine walkK_new (listV wr.heap.size 3 on (ou.map (.int .i64))) (by first | exact gs0 rfl | exact gs1 rfl rfl rfl) (fun v x y hb h => listV_turn v x y hb h) (fun u X hX hd => ?_) ?_
  · simp at hd
    obtain ⟨⟨g, hg, ho⟩, h4⟩ := hd
    obtain ⟨v, w', hr, hb, hl⟩ := run_append_none (P := Try.prog) X 23 23 wr.heap.size 3 i0 _ 8 Try.underlying23 hi0 hz0 hz1 hz2 rfl (hBX.out X hX) g ho _ _ _ _ (M2.out.ou.below hX.1) (ints_oneC _) (by unfold maxLen; omega) (by omega)
    exact ⟨v, w', exec_append _ _ _ _ _ _ rfl (by go_simp) (by go_simp) hr, TurnR.of (hBX.out X hX) hb, hl⟩
  apply walkK_norm
  · first | (simp only [List.nil_append, List.cons_append]; rfl) | simp only [List.nil_append, List.cons_append]
  refine walkK_is ?_ (by first | exact gs0 rfl | exact gs1 rfl rfl rfl) (fun _ => TurnR.refl _) (fun u X hX hd => ?_) ?_
  rotate_left
  · have q1 := (X2.out.below hX.1).cell 7
    have q2 := hg0.out X hX.1
    simp only [List.getElem?_toArray, List.getElem?_cons_zero, List.getElem?_cons_succ] at q1
    try simp at hd
    go_simp
    try rfl
  apply walkK_norm
  · first | (simp only [List.nil_append, List.cons_append]; rfl) | simp only [List.nil_append, List.cons_append]
  refine walkK_is ?_ (by first | exact gs0 rfl | exact gs1 rfl rfl rfl) (fun _ => TurnR.refl _) (fun u X hX hd => ?_) ?_
  rotate_left
  · have q1 := (X2.out.below hX.1).cell 7
    have q2 := hg0.out X hX.1
    simp only [List.getElem?_toArray, List.getElem?_cons_zero, List.getElem?_cons_succ] at q1
    try simp at hd
    go_simp
    try rfl
  apply walkK_norm
  · first | (simp only [List.nil_append, List.cons_append]; rfl) | simp only [List.nil_append, List.cons_append]
  refine walkK_is ?_ (by first | exact gs0 rfl | exact gs1 rfl rfl rfl) (fun _ => TurnR.refl _) (fun u X hX hd => ?_) ?_
  rotate_left
  · have q1 := (X2.out.below hX.1).cell 7
    have q2 := hg0.out X hX.1
    simp only [List.getElem?_toArray, List.getElem?_cons_zero, List.getElem?_cons_succ] at q1
    try simp at hd
    go_simp
    try rfl
  apply walkK_norm
  · first | (simp only [List.nil_append, List.cons_append]; rfl) | simp only [List.nil_append, List.cons_append]
  refine walkK_new (singV wr.heap.size 3 (.int .i64 top)) (by first | exact gs0 rfl | exact gs1 rfl rfl rfl) (fun v x y hb h => singV_turn v x y hb h) (fun u X hX hd => ⟨_, _, exec_sing _ _ _ _ rfl (by (try simp at hd); go_simp; try exact hd), TurnR.of (hBX.out X hX) (below_alloc1 _ _), _, rfl, World.ownsRow_lit X #[.int .i64 top] 1 (hBX.out X hX) (by decide) rfl⟩) ?_
  apply walkK_norm
  · first | (simp only [List.nil_append, List.cons_append]; rfl) | simp only [List.nil_append, List.cons_append]
  refine walkK_new (moreV wr.heap.size 3 on (ou.map (.int .i64)) (.int .i64 top)) (by first | exact gs0 rfl | exact gs1 rfl rfl rfl) (fun v x y hb h => moreV_turn v x y hb h) (fun u X hX hd => ?_) ?_
  · simp at hd
    obtain ⟨⟨A, c, hA, ho, hc⟩, ⟨g, hg, hs⟩, -⟩ := hd
    obtain ⟨v, w', hr, hb, hl⟩ := run_append_sing (P := Try.prog) X 23 23 wr.heap.size 3 i0 _ 8 Try.underlying23 hi0 hz0 hz1 hz2 rfl (hBX.out X hX) A _ c _ ho hc _ g hs rfl (by unfold maxLen; omega) (by omega)
    exact ⟨v, w', exec_append _ _ _ _ _ _ rfl (by go_simp) (by go_simp) hr, hb, hl⟩
  apply walkK_norm
  · first | (simp only [List.nil_append, List.cons_append]; rfl) | simp only [List.nil_append, List.cons_append]
  refine walkK_is ?_ (by first | exact gs0 rfl | exact gs1 rfl rfl rfl) (fun _ => TurnR.refl _) (fun u X hX hd => ?_) ?_
  rotate_left
  · have q1 := (X2.out.below hX.1).cell 7
    have q2 := hg0.out X hX.1
    simp only [List.getElem?_toArray, List.getElem?_cons_zero, List.getElem?_cons_succ] at q1
    try simp at hd
    go_simp
    try rfl
  apply walkK_norm
  · first | (simp only [List.nil_append, List.cons_append]; rfl) | simp only [List.nil_append, List.cons_append]
  intro u X hX hsay
  simp only [sayAll, isV] at hsay
  obtain ⟨⟨g0, v0, -⟩, v1, v2, ⟨A3, c3, v3, -⟩, v4, v5, v6, ⟨g1, v7, -⟩, ⟨g2, c2, v8, ho2⟩, v9, -⟩ := hsay
  have XB := Lib.hid (X2.out.below hX.1)
  have z3 := XB.out.cell 7
  have zg := XB.out.frozen
  have zm := XB.out.lt
  simp only [List.getElem?_toArray, List.getElem?_cons_zero, List.getElem?_cons_succ] at z3
  have X3 : Hid (Bk (X.setCell ⟨w.heap.size + 1, 7, none⟩ (.slice (some ⟨g2, 0, none⟩) (on + 1) c2)) (w.heap.size + 1) 54 (mC ((i : Int) + 1) (fuel - 1) (.slice A' k c') r0 r1 r2 r3 (.slice (some ⟨g2, 0, none⟩) (on + 1) c2) false e0)) := Lib.hid (by simpa using XB.out.set 7 (.slice (some ⟨g2, 0, none⟩) (on + 1) c2))
  have R3 := Lib.hid ((R2.out.below hX.1).far (p := ⟨w.heap.size + 1, 7, none⟩) (by simp) (.slice (some ⟨g2, 0, none⟩) (on + 1) c2))
  have P3 := Lib.hid (own_cellBelow (own_below P2.out hX.1) (G := w.heap.size + 1) (by omega) 7 (.slice (some ⟨g2, 0, none⟩) (on + 1) c2))
  have Q3 := Lib.hid (own_cellBelow ho2 (G := w.heap.size + 1) (by omega) 7 (.slice (some ⟨g2, 0, none⟩) (on + 1) c2))
  have M3 := Lib.hid ((M2.out.below hX.1).setCell (HM.out.offNew (G := w.heap.size + 1) (by omega)) 7 (.slice (some ⟨g2, 0, none⟩) (on + 1) c2))
  have B3 := Lib.hid ((bnext BB.out hX.1).setCell (p := ⟨w.heap.size + 1, 7, none⟩) (by simp) (.slice (some ⟨g2, 0, none⟩) (on + 1) c2))
  simp only [putAll, Act.put, v0, v1, v2, v3, v4, v5, v6, v7, v8, v9, List.setIfInBounds_toArray, List.set_cons_succ, List.set_cons_zero]
  clear z2 zf zl zi ho2 v0 v1 v2 v3 v4 v5 v6 v7 v8 v9
  go_wp2_with (first
    | (with_reducible refine ld_mach (w.heap.size + 1) X3.out _ rfl rfl rfl ?_)
    | (with_reducible refine st_mach (w.heap.size + 1 + 1) R3.out rfl rfl _ _ rfl rfl rfl rfl ?_))
  exact bodyPost_ret (v := .tuple #[.agg (mC ((i : Int) + 1) (fuel - 1) (.slice A' k c') r0 r1 r2 r3 (.slice (some ⟨g2, 0, none⟩) (on + 1) c2) false e0), .slice bA bn bc]) (res2_mach rfl _ _ (w.heap.size + 1 + 1) _ rfl rfl (Bk.setRow R3.out _)) rfl
    ⟨_, _, _, _, _, _, _, _, _, rfl, MIn.setRow (⟨by have := Sl.own' P3.out; simpa using this, by have := Sl.own' Q3.out; simpa using this, M3.out.bk⟩) (⟨own_offA P3.out (by omega), own_offA Q3.out (by omega), (HM.out.offNew (by omega)).2.2⟩) _, below_row B3.out (by omega) _, fun G hG h => ⟨own_offA P3.out (by omega), own_offA Q3.out (by omega), h.2.2⟩⟩

end
end Go.Proofs.Ytibmfhmeoohdeaa

/-
  What the reference's Step of layer 10 answers, in whatever memory: of two numbers. No conditions but those that stand there.
-/
namespace Go.Proofs.Ytibmfhmeoohdeaa
open Go.RowKit
attribute [local go_sem] look findAt
attribute [local simp] depsOf isV Region.binds

theorem rtwo_any (op a b : Int) (h : 7 ≤ op ∧ op ≤ 12) (w : World) : Calls Try.prog 49 #[.int .i64 op, .int .i64 a, .int .i64 b] w fun e w' => e = .returned (madeV op a b) ∧ w = w' := by
  rcases (show op = 7 ∨ op = 8 ∨ op = 9 ∨ op = 10 ∨ op = 11 ∨ op = 12 by omega) with rfl | rfl | rfl | rfl | rfl | rfl
  · go_enter Try.func49, Try.ntmps49
    go_wp2
    go_ret2
    exact ⟨rfl, rfl⟩
  · go_enter Try.func49, Try.ntmps49
    go_wp2
    go_ret2
    exact ⟨rfl, rfl⟩
  · go_enter Try.func49, Try.ntmps49
    go_wp2
    go_ret2
    exact ⟨rfl, rfl⟩
  · by_cases hb : b = 0
    · subst hb
      go_enter Try.func49, Try.ntmps49
      go_wp2
      go_ret2
      exact ⟨rfl, rfl⟩
    · have hb' : (b == 0) = false := by simpa using hb
      have hm : Hid (madeV 10 a b = .tuple #[.int .i64 (wrap64 (a.tdiv b)), .int .i64 0]) := Lib.hid (by simp [madeV, twoN, hb])
      go_enter Try.func49, Try.ntmps49
      go_wp2
      go_ret2
      exact ⟨by rw [hm.out]; rfl, rfl⟩
  · by_cases hc : a < b
    · have hm : Hid (madeV 11 a b = .tuple #[.int .i64 1, .int .i64 0]) := Lib.hid (by simp [madeV, twoN, hc])
      go_enter Try.func49, Try.ntmps49
      go_wp2
      go_ret2
      exact ⟨by rw [hm.out]; rfl, rfl⟩
    · have hm : Hid (madeV 11 a b = .tuple #[.int .i64 0, .int .i64 0]) := Lib.hid (by simp [madeV, twoN, hc])
      go_enter Try.func49, Try.ntmps49
      go_wp2
      go_ret2
      exact ⟨by rw [hm.out]; rfl, rfl⟩
  · by_cases hc : a = b
    · have hm : Hid (madeV 12 a b = .tuple #[.int .i64 1, .int .i64 0]) := Lib.hid (by simp [madeV, twoN, hc])
      have hd : (a == b) = true := by simpa using hc
      clear hc
      go_enter Try.func49, Try.ntmps49
      go_wp2
      go_ret2
      exact ⟨by rw [hm.out]; rfl, rfl⟩
    · have hm : Hid (madeV 12 a b = .tuple #[.int .i64 0, .int .i64 0]) := Lib.hid (by simp [madeV, twoN, hc])
      have hd : (a == b) = false := by simpa using hc
      clear hc
      go_enter Try.func49, Try.ntmps49
      go_wp2
      go_ret2
      exact ⟨by rw [hm.out]; rfl, rfl⟩

section
variable (ra : Option Addr) (nr rc : Nat) (wa : Option Addr) (nw wc : Nat) (aa : Option Addr) (na ac : Nat) (cf : Int) (ca : Option Addr) (nc cc : Nat)
variable (fuel : Int) (sA : Option Addr) (sn sc : Nat) (r0 r1 r2 r3 : Int) (oA : Option Addr) (on oc : Nat) (e0 : Int) (bA : Option Addr) (bn bc : Nat)

set_option maxHeartbeats 4000000 in
set_option maxRecDepth 100000 in
theorem rstep_nought (l : List Ins) (i : Nat) (k : Nat) (hk : k ≤ 1000) (op a b : Int) (st ou : List Int) (own : Blks) (w : World) (hC : Inss w ca cc l) (hl : l.length = nc) (hi : i < nc) (hic : nc ≤ 1000) (hx : insAt l i = ⟨op, a, b⟩) (hM : MIn w st ou own sA (k + 2) sc oA on oc bA bn bc) (hf : fuel ≠ 0) (hf2 : 0 ≤ fuel ∧ fuel ≤ 1000) (hop : 7 ≤ op ∧ op ≤ 12) (ht : twoN op (st[k]?.getD 0) (st[k + 1]?.getD 0) = none) :
    Calls Try.prog 37 #[cmV ra nr rc wa nw wc aa na ac cf ca nc cc, .agg (mC (i : Int) fuel (.slice sA (k + 2 : Nat) sc) r0 r1 r2 r3 (.slice oA on oc) false e0), .slice bA bn bc] w (RSPost ((i : Int) + 1) (fuel - 1) st r0 r1 r2 r3 [] true 12 own sA (k + 2) oA on bA bn w) := by
  obtain ⟨lo, hlo⟩ : ∃ x, x = st[k]?.getD 0 := ⟨_, rfl⟩
  obtain ⟨up, hup⟩ : ∃ x, x = st[k + 1]?.getD 0 := ⟨_, rfl⟩
  rw [← hlo, ← hup] at ht
  have HLO := Lib.hid hlo
  have HUP := Lib.hid hup
  have hrt : Hid (∀ X, Calls Try.prog 49 #[.int .i64 op, .int .i64 lo, .int .i64 up] X fun e w' => e = .returned (.tuple #[.int .i64 0, .int .i64 12]) ∧ Below X.heap.size X w') := Lib.hid (fun X => (rtwo_any op lo up hop X).mono fun e w' ⟨he, hw⟩ => ⟨by rw [he, madeV, ht], by rw [← hw]; exact Below.refl _ _⟩)
  have q1 : (op == 1) = false := by simp; omega
  have q2 : (op == 2) = false := by simp; omega
  have q4 : (op == 4) = false := by simp; omega
  have q6 : (op == 6) = false := by simp; omega
  have q14 : (op == 14) = false := by simp; omega
  have q16 : (op == 16) = false := by simp; omega
  have q17 : (op == 17) = false := by simp; omega
  have q3 : (op == 3) = false := by simp; omega
  have q5 : (op == 5) = false := by simp; omega
  have q13 : (op == 13) = false := by simp; omega
  have q15 : (op == 15) = false := by simp; omega
  clear hop ht hlo hup
  have hov := Lib.hid (fun sA W => rover_bad ((i : Int) + 1) (fuel - 1) sA (k + 2) sc r0 r1 r2 r3 oA on oc false e0 12 (by decide) W)
  obtain ⟨cb, co, rfl, hcb, x0, x1, x2⟩ := hC.cellAt (j := i) (by omega)
  rw [hx] at x0 x1 x2
  simp only at x0 x1 x2
  have hcc := hC.2.1
  rw [hl] at hcc
  have d1 : (i : Int) < (nc : Int) := by omega
  have d2 : (i : Int) < (cc : Int) := by omega
  have f0 : (fuel == 0) = false := by simpa using hf
  have bb := sB_below #[.slice ra nr rc, .slice wa nw wc, .slice aa na ac, .int .i64 cf, .slice (some ⟨cb, co, none⟩) nc cc] (mC (i : Int) (fuel - 1) (.slice sA (k + 2 : Nat) sc) r0 r1 r2 r3 (.slice oA on oc) false e0) w
  have y0 := (bb.cell (p := ⟨cb, co + i * 3, none⟩) hcb).trans x0
  have y1 := (bb.cell (p := ⟨cb, co + i * 3 + 1, none⟩) hcb).trans x1
  have y2 := (bb.cell (p := ⟨cb, co + i * 3 + 2, none⟩) hcb).trans x2
  have HM := Lib.hid hM
  clear hC hx hl bb hM
  obtain ⟨i0, hi0, hz0, hz1, hz2⟩ := infoInt
  obtain ⟨sb, so, rfl, -, -⟩ := HM.out.st.2.2.2 (by omega)
  have B0 : Hid (Below w.heap.size w ((sB #[.slice ra nr rc, .slice wa nw wc, .slice aa na ac, .int .i64 cf, .slice (some ⟨cb, co, none⟩) nc cc] (mC ((i : Int) + 1) (fuel - 1) (.slice (some ⟨sb, so, none⟩) (k + 2 : Nat) sc) r0 r1 r2 r3 (.slice oA on oc) false e0) w).alloc (.cells #[.int .i64 op, .int .i64 a, .int .i64 b] 51))) := Lib.hid (bnext (sB_below _ _ _) (below_alloc1 _ _))
  have X0 : Hid (Bk ((sB #[.slice ra nr rc, .slice wa nw wc, .slice aa na ac, .int .i64 cf, .slice (some ⟨cb, co, none⟩) nc cc] (mC ((i : Int) + 1) (fuel - 1) (.slice (some ⟨sb, so, none⟩) (k + 2 : Nat) sc) r0 r1 r2 r3 (.slice oA on oc) false e0) w).alloc (.cells #[.int .i64 op, .int .i64 a, .int .i64 b] 51)) (w.heap.size + 1) 54 (mC ((i : Int) + 1) (fuel - 1) (.slice (some ⟨sb, so, none⟩) (k + 2 : Nat) sc) r0 r1 r2 r3 (.slice oA on oc) false e0)) := Lib.hid ((sB_box _ _ _).alloc _)
  have R0 : Hid (Bk ((sB #[.slice ra nr rc, .slice wa nw wc, .slice aa na ac, .int .i64 cf, .slice (some ⟨cb, co, none⟩) nc cc] (mC ((i : Int) + 1) (fuel - 1) (.slice (some ⟨sb, so, none⟩) (k + 2 : Nat) sc) r0 r1 r2 r3 (.slice oA on oc) false e0) w).alloc (.cells #[.int .i64 op, .int .i64 a, .int .i64 b] 51)) (w.heap.size + 1 + 1) 54 mZ) := Lib.hid ((sB_res _ _ _).alloc _)
  have I0 : Hid (Bk ((sB #[.slice ra nr rc, .slice wa nw wc, .slice aa na ac, .int .i64 cf, .slice (some ⟨cb, co, none⟩) nc cc] (mC ((i : Int) + 1) (fuel - 1) (.slice (some ⟨sb, so, none⟩) (k + 2 : Nat) sc) r0 r1 r2 r3 (.slice oA on oc) false e0) w).alloc (.cells #[.int .i64 op, .int .i64 a, .int .i64 b] 51)) (w.heap.size + 1 + 1 + 1) 51 #[.int .i64 op, .int .i64 a, .int .i64 b]) := Lib.hid (rW_ins _ _ _ _)
  have hpop := Lib.hid (rpop2 ((i : Int) + 1) (fuel - 1) st r0 r1 r2 r3 false e0 (some ⟨sb, so, none⟩) sc oA on oc k ((sB #[.slice ra nr rc, .slice wa nw wc, .slice aa na ac, .int .i64 cf, .slice (some ⟨cb, co, none⟩) nc cc] (mC ((i : Int) + 1) (fuel - 1) (.slice (some ⟨sb, so, none⟩) (k + 2 : Nat) sc) r0 r1 r2 r3 (.slice oA on oc) false e0) w).alloc (.cells #[.int .i64 op, .int .i64 a, .int .i64 b] 51)) (HM.out.st.below B0.out) hk)
  have hWs : Hid (w.heap.size + 1 + 1 + 1 < ((sB #[.slice ra nr rc, .slice wa nw wc, .slice aa na ac, .int .i64 cf, .slice (some ⟨cb, co, none⟩) nc cc] (mC ((i : Int) + 1) (fuel - 1) (.slice (some ⟨sb, so, none⟩) (k + 2 : Nat) sc) r0 r1 r2 r3 (.slice oA on oc) false e0) w).alloc (.cells #[.int .i64 op, .int .i64 a, .int .i64 b] 51)).heap.size) := Lib.hid I0.out.lt
  go_enter Try.func37, Try.ntmps37
  go_wp2_with (first
    | (with_reducible refine ld_mach (w.heap.size + 1) X0.out _ rfl rfl rfl ?_)
    | (go_at_call 47; go_must ((with_reducible refine hpop.out.mono ?_); rintro e w1 ⟨⟨A, c, A', c', rfl, p1, p2⟩, hb1⟩; have BB := Lib.hid (bnext B0.out hb1); have P1 := Lib.hid p1; have P2 := Lib.hid p2; have X1 := Lib.hid (X0.out.below hb1); have R1 := Lib.hid (R0.out.below hb1); have I1 := Lib.hid (I0.out.below hb1); have M1 := Lib.hid ((HM.out.below B0.out).below hb1); clear p1 p2 hb1)))
  have hb2 := I1.out.lt
  have hWz := hWs.out
  try simp only [List.append_eq, List.cons_append, List.nil_append]
  obtain ⟨g, cur, rfl, hgB, hgk, hgc, -, hgs, hgt⟩ := own_pos P1.out (by omega)
  have hg0 : Hid (∀ X, Below w1.heap.size w1 X → X.cell? ⟨g, 0, none⟩ = some (.int .i64 lo) ∧ X.cell? ⟨g, 1, none⟩ = some (.int .i64 up)) := Lib.hid (fun X hX => by
    have hl := HM.out.st.1
    simp at hl
    have key : ∀ j, j < 2 → X.cell? ⟨g, j, none⟩ = some (.int .i64 (st[k + j]?.getD 0)) := fun j hj => by
      rw [(hgk.below hX).cell j, ← Array.getElem?_toList]
      have h1 : (cur.toList.take (2 * 1))[j]? = (((st.drop k).map (Value.int .i64)))[j]? := by rw [hgt]
      rw [List.getElem?_take, if_pos (by omega)] at h1
      rw [h1, List.getElem?_map, List.getElem?_drop]
      simp [show k + j < st.length by omega]
    exact ⟨by rw [HLO.out]; exact key 0 (by omega), by rw [HUP.out]; exact key 1 (by omega)⟩)
  have hgc1 : (2 : Int) ≤ (c : Int) := by omega
  have hgB2 : w.heap.size + 1 + 1 + 1 < g := by omega
  clear hgk hgs hgt
  refine wp_region_saysK 13 (fun x y => Below x.heap.size x y) (fun _ _ _ h k => bnext h k) w1 (below_drew1 w1) (by kernel_rfl) (by kernel_rfl) (by kernel_rfl) (by kernel_rfl) (by rfl) ?_
  simp only [List.take_succ_cons, List.take_zero, List.drop_succ_cons, List.drop_zero]
  refine walkK_is ?_ (by first | exact gs0 rfl | exact gs1 rfl rfl rfl) (fun _ => Below.refl _ _) (fun u X hX hd => ?_) ?_
  rotate_left
  · have q0 := (I1.out.below hX).cell 0
    obtain ⟨z1, z2⟩ := hg0.out X hX
    simp only [List.getElem?_toArray, List.getElem?_cons_zero] at q0
    try simp at hd
    go_simp
    try rfl
  apply walkK_norm
  · first | (simp only [List.nil_append]; rfl) | simp only [List.nil_append]
  refine walkK_is ?_ (by first | exact gs0 rfl | exact gs1 rfl rfl rfl) (fun _ => Below.refl _ _) (fun u X hX hd => ?_) ?_
  rotate_left
  · have q0 := (I1.out.below hX).cell 0
    obtain ⟨z1, z2⟩ := hg0.out X hX
    simp only [List.getElem?_toArray, List.getElem?_cons_zero] at q0
    try simp at hd
    go_simp
    try rfl
  apply walkK_norm
  · first | (simp only [List.nil_append, List.cons_append]; rfl) | simp only [List.nil_append, List.cons_append]
  refine walkK_is ?_ (by first | exact gs0 rfl | exact gs1 rfl rfl rfl) (fun _ => Below.refl _ _) (fun u X hX hd => ?_) ?_
  rotate_left
  · have q0 := (I1.out.below hX).cell 0
    obtain ⟨z1, z2⟩ := hg0.out X hX
    simp only [List.getElem?_toArray, List.getElem?_cons_zero] at q0
    try simp at hd
    go_simp
    try rfl
  apply walkK_norm
  · first | (simp only [List.nil_append, List.cons_append]; rfl) | simp only [List.nil_append, List.cons_append]
  refine walkK_is ?_ (by first | exact gs0 rfl | exact gs1 rfl rfl rfl) (fun _ => Below.refl _ _) (fun u X hX hd => ?_) ?_
  rotate_left
  · have q0 := (I1.out.below hX).cell 0
    obtain ⟨z1, z2⟩ := hg0.out X hX
    simp only [List.getElem?_toArray, List.getElem?_cons_zero] at q0
    try simp at hd
    go_simp
    try rfl
  apply walkK_norm
  · first | (simp only [List.nil_append, List.cons_append]; rfl) | simp only [List.nil_append, List.cons_append]
  refine walkK_is ?_ (by first | exact gs0 rfl | exact gs1 rfl rfl rfl) (fun _ => Below.refl _ _) (fun u X hX hd => ?_) ?_
  rotate_left
  · have q0 := (I1.out.below hX).cell 0
    obtain ⟨z1, z2⟩ := hg0.out X hX
    simp only [List.getElem?_toArray, List.getElem?_cons_zero] at q0
    try simp at hd
    go_simp
    try rfl
  apply walkK_norm
  · first | (simp only [List.nil_append, List.cons_append]; rfl) | simp only [List.nil_append, List.cons_append]
  refine walkK_is ?_ (by first | exact gs0 rfl | exact gs1 rfl rfl rfl) (fun _ => Below.refl _ _) (fun u X hX hd => ?_) ?_
  rotate_left
  · have q0 := (I1.out.below hX).cell 0
    obtain ⟨z1, z2⟩ := hg0.out X hX
    simp only [List.getElem?_toArray, List.getElem?_cons_zero] at q0
    try simp at hd
    go_simp
    try rfl
  apply walkK_norm
  · first | (simp only [List.nil_append, List.cons_append]; rfl) | simp only [List.nil_append, List.cons_append]
  refine walkK_is ?_ (by first | exact gs0 rfl | exact gs1 rfl rfl rfl) (fun _ => Below.refl _ _) (fun u X hX hd => ?_) ?_
  rotate_left
  · have q0 := (I1.out.below hX).cell 0
    obtain ⟨z1, z2⟩ := hg0.out X hX
    simp only [List.getElem?_toArray, List.getElem?_cons_zero] at q0
    try simp at hd
    go_simp
    try rfl
  apply walkK_norm
  · first | (simp only [List.nil_append, List.cons_append]; rfl) | simp only [List.nil_append, List.cons_append]
  refine walkK_is ?_ (by first | exact gs0 rfl | exact gs1 rfl rfl rfl) (fun _ => Below.refl _ _) (fun u X hX hd => ?_) ?_
  rotate_left
  · have q0 := (I1.out.below hX).cell 0
    obtain ⟨z1, z2⟩ := hg0.out X hX
    simp only [List.getElem?_toArray, List.getElem?_cons_zero] at q0
    try simp at hd
    go_simp
    try rfl
  apply walkK_norm
  · first | (simp only [List.nil_append, List.cons_append]; rfl) | simp only [List.nil_append, List.cons_append]
  refine walkK_call (isV (.tuple #[.int .i64 0, .int .i64 12])) 49 ?_ (by first | exact gs0 rfl | exact gs1 rfl rfl rfl) (fun _ _ _ _ h => h) (fun u X hX hd => ?_) (fun X hX => ?_) ?_
  rotate_left
  · have q0 := (I1.out.below hX).cell 0
    obtain ⟨z1, z2⟩ := hg0.out X hX
    simp only [List.getElem?_toArray, List.getElem?_cons_zero] at q0
    try simp at hd
    go_simp
    try rfl
  · exact (hrt.out X).mono fun e X' ⟨he, hb⟩ => ⟨_, he, hb, rfl⟩
  apply walkK_norm
  · first | (simp only [List.nil_append, List.cons_append]; rfl) | simp only [List.nil_append, List.cons_append]
  refine walkK_is ?_ (by first | exact gs0 rfl | exact gs1 rfl rfl rfl) (fun _ => Below.refl _ _) (fun u X hX hd => ?_) ?_
  rotate_left
  · have q0 := (I1.out.below hX).cell 0
    obtain ⟨z1, z2⟩ := hg0.out X hX
    simp only [List.getElem?_toArray, List.getElem?_cons_zero] at q0
    try simp at hd
    go_simp
    try rfl
  apply walkK_norm
  · first | (simp only [List.nil_append, List.cons_append]; rfl) | simp only [List.nil_append, List.cons_append]
  refine walkK_is ?_ (by first | exact gs0 rfl | exact gs1 rfl rfl rfl) (fun _ => Below.refl _ _) (fun u X hX hd => ?_) ?_
  rotate_left
  · have q0 := (I1.out.below hX).cell 0
    obtain ⟨z1, z2⟩ := hg0.out X hX
    simp only [List.getElem?_toArray, List.getElem?_cons_zero] at q0
    try simp at hd
    go_simp
    try rfl
  apply walkK_norm
  · first | (simp only [List.nil_append, List.cons_append]; rfl) | simp only [List.nil_append, List.cons_append]
  refine walkK_is ?_ (by first | exact gs0 rfl | exact gs1 rfl rfl rfl) (fun _ => Below.refl _ _) (fun u X hX hd => ?_) ?_
  rotate_left
  · have q0 := (I1.out.below hX).cell 0
    obtain ⟨z1, z2⟩ := hg0.out X hX
    simp only [List.getElem?_toArray, List.getElem?_cons_zero] at q0
    try simp at hd
    go_simp
    try rfl
  apply walkK_norm
  · first | (simp only [List.nil_append, List.cons_append]; rfl) | simp only [List.nil_append, List.cons_append]
  refine walkK_is ?_ (by first | exact gs0 rfl | exact gs1 rfl rfl rfl) (fun _ => Below.refl _ _) (fun u X hX hd => ?_) ?_
  rotate_left
  · have q0 := (I1.out.below hX).cell 0
    obtain ⟨z1, z2⟩ := hg0.out X hX
    simp only [List.getElem?_toArray, List.getElem?_cons_zero] at q0
    try simp at hd
    go_simp
    try rfl
  apply walkK_norm
  · first | (simp only [List.nil_append, List.cons_append]; rfl) | simp only [List.nil_append, List.cons_append]
  intro u X hX hsay
  simp only [sayAll, isV] at hsay
  obtain ⟨v0, v1, v2, v3, v4, v5, v6, v7, v8, v9, v10, v11, v12, -⟩ := hsay
  have X2 := Lib.hid (X1.out.below hX)
  have R2 := Lib.hid (R1.out.below hX)
  have P3 := Lib.hid (own_below P2.out hX)
  have M2 := Lib.hid (M1.out.below hX)
  have B2 := Lib.hid (bnext BB.out hX)
  have hXs := hX.size
  simp only [putAll, Act.put, v0, v1, v2, v3, v4, v5, v6, v7, v8, v9, v10, v11, v12, List.setIfInBounds_toArray, List.set_cons_succ, List.set_cons_zero]
  clear hX v0 v1 v2 v3 v4 v5 v6 v7 v8 v9 v10 v11 v12
  go_wp2_with (first
    | (with_reducible refine ld_mach (w.heap.size + 1) X2.out _ rfl rfl rfl ?_)
    | (go_at_call 45; go_must ((with_reducible refine (hov.out _ _).mono ?_); rintro e w4 ⟨rfl, hb4⟩; have R4 := Lib.hid (R2.out.below hb4); have B4 := Lib.hid (bnext B2.out hb4); have M4 := Lib.hid (M2.out.below hb4); clear hb4))
    | (with_reducible refine st_mach (w.heap.size + 1 + 1) R4.out rfl rfl _ _ rfl rfl rfl rfl ?_))
  exact bodyPost_ret (v := .tuple #[.agg (mC ((i : Int) + 1) (fuel - 1) (.slice (some ⟨sb, so, none⟩) (k + 2 : Nat) sc) r0 r1 r2 r3 (.slice none 0 0) true 12), .slice bA bn bc]) (res2_mach rfl _ _ (w.heap.size + 1 + 1) _ rfl rfl (Bk.setRow R4.out _)) rfl
    ⟨_, _, _, _, _, _, _, _, _, rfl, MIn.setRow (⟨M4.out.st, ⟨rfl, Nat.le_refl _, fun _ => ⟨rfl, rfl⟩, fun h => absurd h (by omega)⟩, M4.out.bk⟩) (⟨(HM.out.offNew (by omega)).1, fun h => absurd h (by omega), (HM.out.offNew (by omega)).2.2⟩) _, below_row B4.out (by omega) _, fun G hG h => ⟨h.1, fun h => absurd h (by omega), h.2.2⟩⟩

set_option maxHeartbeats 4000000 in
set_option maxRecDepth 100000 in
theorem rstep_two (l : List Ins) (i : Nat) (k : Nat) (hk : k ≤ 1000) (op a b : Int) (st ou : List Int) (own : Blks) (w : World) (hC : Inss w ca cc l) (hl : l.length = nc) (hi : i < nc) (hic : nc ≤ 1000) (hx : insAt l i = ⟨op, a, b⟩) (hM : MIn w st ou own sA (k + 2) sc oA on oc bA bn bc) (hf : fuel ≠ 0) (hf2 : 0 ≤ fuel ∧ fuel ≤ 1000) (hop : 7 ≤ op ∧ op ≤ 12) (n : Int) (ht : twoN op (st[k]?.getD 0) (st[k + 1]?.getD 0) = some n) :
    Calls Try.prog 37 #[cmV ra nr rc wa nw wc aa na ac cf ca nc cc, .agg (mC (i : Int) fuel (.slice sA (k + 2 : Nat) sc) r0 r1 r2 r3 (.slice oA on oc) false e0), .slice bA bn bc] w (RSPost ((i : Int) + 1) (fuel - 1) (st.take k ++ [n]) r0 r1 r2 r3 ou false e0 own sA (k + 2) oA on bA bn w) := by
  obtain ⟨lo, hlo⟩ : ∃ x, x = st[k]?.getD 0 := ⟨_, rfl⟩
  obtain ⟨up, hup⟩ : ∃ x, x = st[k + 1]?.getD 0 := ⟨_, rfl⟩
  rw [← hlo, ← hup] at ht
  have HLO := Lib.hid hlo
  have HUP := Lib.hid hup
  have hrt : Hid (∀ X, Calls Try.prog 49 #[.int .i64 op, .int .i64 lo, .int .i64 up] X fun e w' => e = .returned (.tuple #[.int .i64 n, .int .i64 0]) ∧ Below X.heap.size X w') := Lib.hid (fun X => (rtwo_any op lo up hop X).mono fun e w' ⟨he, hw⟩ => ⟨by rw [he, madeV, ht], by rw [← hw]; exact Below.refl _ _⟩)
  have q1 : (op == 1) = false := by simp; omega
  have q2 : (op == 2) = false := by simp; omega
  have q4 : (op == 4) = false := by simp; omega
  have q6 : (op == 6) = false := by simp; omega
  have q14 : (op == 14) = false := by simp; omega
  have q16 : (op == 16) = false := by simp; omega
  have q17 : (op == 17) = false := by simp; omega
  have q3 : (op == 3) = false := by simp; omega
  have q5 : (op == 5) = false := by simp; omega
  have q13 : (op == 13) = false := by simp; omega
  have q15 : (op == 15) = false := by simp; omega
  clear hop ht hlo hup
  obtain ⟨cb, co, rfl, hcb, x0, x1, x2⟩ := hC.cellAt (j := i) (by omega)
  rw [hx] at x0 x1 x2
  simp only at x0 x1 x2
  have hcc := hC.2.1
  rw [hl] at hcc
  have d1 : (i : Int) < (nc : Int) := by omega
  have d2 : (i : Int) < (cc : Int) := by omega
  have f0 : (fuel == 0) = false := by simpa using hf
  have bb := sB_below #[.slice ra nr rc, .slice wa nw wc, .slice aa na ac, .int .i64 cf, .slice (some ⟨cb, co, none⟩) nc cc] (mC (i : Int) (fuel - 1) (.slice sA (k + 2 : Nat) sc) r0 r1 r2 r3 (.slice oA on oc) false e0) w
  have y0 := (bb.cell (p := ⟨cb, co + i * 3, none⟩) hcb).trans x0
  have y1 := (bb.cell (p := ⟨cb, co + i * 3 + 1, none⟩) hcb).trans x1
  have y2 := (bb.cell (p := ⟨cb, co + i * 3 + 2, none⟩) hcb).trans x2
  have HM := Lib.hid hM
  clear hC hx hl bb hM
  obtain ⟨i0, hi0, hz0, hz1, hz2⟩ := infoInt
  obtain ⟨sb, so, rfl, -, -⟩ := HM.out.st.2.2.2 (by omega)
  have B0 : Hid (Below w.heap.size w ((sB #[.slice ra nr rc, .slice wa nw wc, .slice aa na ac, .int .i64 cf, .slice (some ⟨cb, co, none⟩) nc cc] (mC ((i : Int) + 1) (fuel - 1) (.slice (some ⟨sb, so, none⟩) (k + 2 : Nat) sc) r0 r1 r2 r3 (.slice oA on oc) false e0) w).alloc (.cells #[.int .i64 op, .int .i64 a, .int .i64 b] 51))) := Lib.hid (bnext (sB_below _ _ _) (below_alloc1 _ _))
  have X0 : Hid (Bk ((sB #[.slice ra nr rc, .slice wa nw wc, .slice aa na ac, .int .i64 cf, .slice (some ⟨cb, co, none⟩) nc cc] (mC ((i : Int) + 1) (fuel - 1) (.slice (some ⟨sb, so, none⟩) (k + 2 : Nat) sc) r0 r1 r2 r3 (.slice oA on oc) false e0) w).alloc (.cells #[.int .i64 op, .int .i64 a, .int .i64 b] 51)) (w.heap.size + 1) 54 (mC ((i : Int) + 1) (fuel - 1) (.slice (some ⟨sb, so, none⟩) (k + 2 : Nat) sc) r0 r1 r2 r3 (.slice oA on oc) false e0)) := Lib.hid ((sB_box _ _ _).alloc _)
  have R0 : Hid (Bk ((sB #[.slice ra nr rc, .slice wa nw wc, .slice aa na ac, .int .i64 cf, .slice (some ⟨cb, co, none⟩) nc cc] (mC ((i : Int) + 1) (fuel - 1) (.slice (some ⟨sb, so, none⟩) (k + 2 : Nat) sc) r0 r1 r2 r3 (.slice oA on oc) false e0) w).alloc (.cells #[.int .i64 op, .int .i64 a, .int .i64 b] 51)) (w.heap.size + 1 + 1) 54 mZ) := Lib.hid ((sB_res _ _ _).alloc _)
  have I0 : Hid (Bk ((sB #[.slice ra nr rc, .slice wa nw wc, .slice aa na ac, .int .i64 cf, .slice (some ⟨cb, co, none⟩) nc cc] (mC ((i : Int) + 1) (fuel - 1) (.slice (some ⟨sb, so, none⟩) (k + 2 : Nat) sc) r0 r1 r2 r3 (.slice oA on oc) false e0) w).alloc (.cells #[.int .i64 op, .int .i64 a, .int .i64 b] 51)) (w.heap.size + 1 + 1 + 1) 51 #[.int .i64 op, .int .i64 a, .int .i64 b]) := Lib.hid (rW_ins _ _ _ _)
  have hpop := Lib.hid (rpop2 ((i : Int) + 1) (fuel - 1) st r0 r1 r2 r3 false e0 (some ⟨sb, so, none⟩) sc oA on oc k ((sB #[.slice ra nr rc, .slice wa nw wc, .slice aa na ac, .int .i64 cf, .slice (some ⟨cb, co, none⟩) nc cc] (mC ((i : Int) + 1) (fuel - 1) (.slice (some ⟨sb, so, none⟩) (k + 2 : Nat) sc) r0 r1 r2 r3 (.slice oA on oc) false e0) w).alloc (.cells #[.int .i64 op, .int .i64 a, .int .i64 b] 51)) (HM.out.st.below B0.out) hk)
  have hWs : Hid (w.heap.size + 1 + 1 + 1 < ((sB #[.slice ra nr rc, .slice wa nw wc, .slice aa na ac, .int .i64 cf, .slice (some ⟨cb, co, none⟩) nc cc] (mC ((i : Int) + 1) (fuel - 1) (.slice (some ⟨sb, so, none⟩) (k + 2 : Nat) sc) r0 r1 r2 r3 (.slice oA on oc) false e0) w).alloc (.cells #[.int .i64 op, .int .i64 a, .int .i64 b] 51)).heap.size) := Lib.hid I0.out.lt
  go_enter Try.func37, Try.ntmps37
  go_wp2_with (first
    | (with_reducible refine ld_mach (w.heap.size + 1) X0.out _ rfl rfl rfl ?_)
    | (go_at_call 47; go_must ((with_reducible refine hpop.out.mono ?_); rintro e w1 ⟨⟨A, c, A', c', rfl, p1, p2⟩, hb1⟩; have BB := Lib.hid (bnext B0.out hb1); have BWW := Lib.hid hb1.size; have P1 := Lib.hid p1; have P2 := Lib.hid p2; have X1 := Lib.hid (X0.out.below hb1); have R1 := Lib.hid (R0.out.below hb1); have I1 := Lib.hid (I0.out.below hb1); have M1 := Lib.hid ((HM.out.below B0.out).below hb1); clear p1 p2 hb1)))
  have hb2 := I1.out.lt
  have hWz := hWs.out
  try simp only [List.append_eq, List.cons_append, List.nil_append]
  obtain ⟨g, cur, rfl, hgB, hgk, hgc, -, hgs, hgt⟩ := own_pos P1.out (by omega)
  have hg0 : Hid (∀ X, Below w1.heap.size w1 X → X.cell? ⟨g, 0, none⟩ = some (.int .i64 lo) ∧ X.cell? ⟨g, 1, none⟩ = some (.int .i64 up)) := Lib.hid (fun X hX => by
    have hl := HM.out.st.1
    simp at hl
    have key : ∀ j, j < 2 → X.cell? ⟨g, j, none⟩ = some (.int .i64 (st[k + j]?.getD 0)) := fun j hj => by
      rw [(hgk.below hX).cell j, ← Array.getElem?_toList]
      have h1 : (cur.toList.take (2 * 1))[j]? = (((st.drop k).map (Value.int .i64)))[j]? := by rw [hgt]
      rw [List.getElem?_take, if_pos (by omega)] at h1
      rw [h1, List.getElem?_map, List.getElem?_drop]
      simp [show k + j < st.length by omega]
    exact ⟨by rw [HLO.out]; exact key 0 (by omega), by rw [HUP.out]; exact key 1 (by omega)⟩)
  have hgc1 : (2 : Int) ≤ (c : Int) := by omega
  have hgB2 : w.heap.size + 1 + 1 + 1 < g := by omega
  clear hgk hgs hgt
  refine wp_region_saysK 13 (fun x y => Below x.heap.size x y) (fun _ _ _ h k => bnext h k) w1 (below_drew1 w1) (by kernel_rfl) (by kernel_rfl) (by kernel_rfl) (by kernel_rfl) (by rfl) ?_
  simp only [List.take_succ_cons, List.take_zero, List.drop_succ_cons, List.drop_zero]
  refine walkK_is ?_ (by first | exact gs0 rfl | exact gs1 rfl rfl rfl) (fun _ => Below.refl _ _) (fun u X hX hd => ?_) ?_
  rotate_left
  · have q0 := (I1.out.below hX).cell 0
    obtain ⟨z1, z2⟩ := hg0.out X hX
    simp only [List.getElem?_toArray, List.getElem?_cons_zero] at q0
    try simp at hd
    go_simp
    try rfl
  apply walkK_norm
  · first | (simp only [List.nil_append]; rfl) | simp only [List.nil_append]
  refine walkK_is ?_ (by first | exact gs0 rfl | exact gs1 rfl rfl rfl) (fun _ => Below.refl _ _) (fun u X hX hd => ?_) ?_
  rotate_left
  · have q0 := (I1.out.below hX).cell 0
    obtain ⟨z1, z2⟩ := hg0.out X hX
    simp only [List.getElem?_toArray, List.getElem?_cons_zero] at q0
    try simp at hd
    go_simp
    try rfl
  apply walkK_norm
  · first | (simp only [List.nil_append, List.cons_append]; rfl) | simp only [List.nil_append, List.cons_append]
  refine walkK_is ?_ (by first | exact gs0 rfl | exact gs1 rfl rfl rfl) (fun _ => Below.refl _ _) (fun u X hX hd => ?_) ?_
  rotate_left
  · have q0 := (I1.out.below hX).cell 0
    obtain ⟨z1, z2⟩ := hg0.out X hX
    simp only [List.getElem?_toArray, List.getElem?_cons_zero] at q0
    try simp at hd
    go_simp
    try rfl
  apply walkK_norm
  · first | (simp only [List.nil_append, List.cons_append]; rfl) | simp only [List.nil_append, List.cons_append]
  refine walkK_is ?_ (by first | exact gs0 rfl | exact gs1 rfl rfl rfl) (fun _ => Below.refl _ _) (fun u X hX hd => ?_) ?_
  rotate_left
  · have q0 := (I1.out.below hX).cell 0
    obtain ⟨z1, z2⟩ := hg0.out X hX
    simp only [List.getElem?_toArray, List.getElem?_cons_zero] at q0
    try simp at hd
    go_simp
    try rfl
  apply walkK_norm
  · first | (simp only [List.nil_append, List.cons_append]; rfl) | simp only [List.nil_append, List.cons_append]
  refine walkK_is ?_ (by first | exact gs0 rfl | exact gs1 rfl rfl rfl) (fun _ => Below.refl _ _) (fun u X hX hd => ?_) ?_
  rotate_left
  · have q0 := (I1.out.below hX).cell 0
    obtain ⟨z1, z2⟩ := hg0.out X hX
    simp only [List.getElem?_toArray, List.getElem?_cons_zero] at q0
    try simp at hd
    go_simp
    try rfl
  apply walkK_norm
  · first | (simp only [List.nil_append, List.cons_append]; rfl) | simp only [List.nil_append, List.cons_append]
  refine walkK_is ?_ (by first | exact gs0 rfl | exact gs1 rfl rfl rfl) (fun _ => Below.refl _ _) (fun u X hX hd => ?_) ?_
  rotate_left
  · have q0 := (I1.out.below hX).cell 0
    obtain ⟨z1, z2⟩ := hg0.out X hX
    simp only [List.getElem?_toArray, List.getElem?_cons_zero] at q0
    try simp at hd
    go_simp
    try rfl
  apply walkK_norm
  · first | (simp only [List.nil_append, List.cons_append]; rfl) | simp only [List.nil_append, List.cons_append]
  refine walkK_is ?_ (by first | exact gs0 rfl | exact gs1 rfl rfl rfl) (fun _ => Below.refl _ _) (fun u X hX hd => ?_) ?_
  rotate_left
  · have q0 := (I1.out.below hX).cell 0
    obtain ⟨z1, z2⟩ := hg0.out X hX
    simp only [List.getElem?_toArray, List.getElem?_cons_zero] at q0
    try simp at hd
    go_simp
    try rfl
  apply walkK_norm
  · first | (simp only [List.nil_append, List.cons_append]; rfl) | simp only [List.nil_append, List.cons_append]
  refine walkK_is ?_ (by first | exact gs0 rfl | exact gs1 rfl rfl rfl) (fun _ => Below.refl _ _) (fun u X hX hd => ?_) ?_
  rotate_left
  · have q0 := (I1.out.below hX).cell 0
    obtain ⟨z1, z2⟩ := hg0.out X hX
    simp only [List.getElem?_toArray, List.getElem?_cons_zero] at q0
    try simp at hd
    go_simp
    try rfl
  apply walkK_norm
  · first | (simp only [List.nil_append, List.cons_append]; rfl) | simp only [List.nil_append, List.cons_append]
  refine walkK_call (isV (.tuple #[.int .i64 n, .int .i64 0])) 49 ?_ (by first | exact gs0 rfl | exact gs1 rfl rfl rfl) (fun _ _ _ _ h => h) (fun u X hX hd => ?_) (fun X hX => ?_) ?_
  rotate_left
  · have q0 := (I1.out.below hX).cell 0
    obtain ⟨z1, z2⟩ := hg0.out X hX
    simp only [List.getElem?_toArray, List.getElem?_cons_zero] at q0
    try simp at hd
    go_simp
    try rfl
  · exact (hrt.out X).mono fun e X' ⟨he, hb⟩ => ⟨_, he, hb, rfl⟩
  apply walkK_norm
  · first | (simp only [List.nil_append, List.cons_append]; rfl) | simp only [List.nil_append, List.cons_append]
  refine walkK_is ?_ (by first | exact gs0 rfl | exact gs1 rfl rfl rfl) (fun _ => Below.refl _ _) (fun u X hX hd => ?_) ?_
  rotate_left
  · have q0 := (I1.out.below hX).cell 0
    obtain ⟨z1, z2⟩ := hg0.out X hX
    simp only [List.getElem?_toArray, List.getElem?_cons_zero] at q0
    try simp at hd
    go_simp
    try rfl
  apply walkK_norm
  · first | (simp only [List.nil_append, List.cons_append]; rfl) | simp only [List.nil_append, List.cons_append]
  refine walkK_is ?_ (by first | exact gs0 rfl | exact gs1 rfl rfl rfl) (fun _ => Below.refl _ _) (fun u X hX hd => ?_) ?_
  rotate_left
  · have q0 := (I1.out.below hX).cell 0
    obtain ⟨z1, z2⟩ := hg0.out X hX
    simp only [List.getElem?_toArray, List.getElem?_cons_zero] at q0
    try simp at hd
    go_simp
    try rfl
  apply walkK_norm
  · first | (simp only [List.nil_append, List.cons_append]; rfl) | simp only [List.nil_append, List.cons_append]
  refine walkK_is ?_ (by first | exact gs0 rfl | exact gs1 rfl rfl rfl) (fun _ => Below.refl _ _) (fun u X hX hd => ?_) ?_
  rotate_left
  · have q0 := (I1.out.below hX).cell 0
    obtain ⟨z1, z2⟩ := hg0.out X hX
    simp only [List.getElem?_toArray, List.getElem?_cons_zero] at q0
    try simp at hd
    go_simp
    try rfl
  apply walkK_norm
  · first | (simp only [List.nil_append, List.cons_append]; rfl) | simp only [List.nil_append, List.cons_append]
  refine walkK_is ?_ (by first | exact gs0 rfl | exact gs1 rfl rfl rfl) (fun _ => Below.refl _ _) (fun u X hX hd => ?_) ?_
  rotate_left
  · have q0 := (I1.out.below hX).cell 0
    obtain ⟨z1, z2⟩ := hg0.out X hX
    simp only [List.getElem?_toArray, List.getElem?_cons_zero] at q0
    try simp at hd
    go_simp
    try rfl
  apply walkK_norm
  · first | (simp only [List.nil_append, List.cons_append]; rfl) | simp only [List.nil_append, List.cons_append]
  intro u X hX hsay
  simp only [sayAll, isV] at hsay
  obtain ⟨v0, v1, v2, v3, v4, v5, v6, v7, v8, v9, v10, v11, v12, -⟩ := hsay
  have X2 := Lib.hid (X1.out.below hX)
  have R2 := Lib.hid (R1.out.below hX)
  have P3 := Lib.hid (own_below P2.out hX)
  have M2 := Lib.hid (M1.out.below hX)
  have B2 := Lib.hid (bnext BB.out hX)
  have hXs := hX.size
  simp only [putAll, Act.put, v0, v1, v2, v3, v4, v5, v6, v7, v8, v9, v10, v11, v12, List.setIfInBounds_toArray, List.set_cons_succ, List.set_cons_zero]
  clear hX v0 v1 v2 v3 v4 v5 v6 v7 v8 v9 v10 v11 v12
  have BW : Hid (((sB #[.slice ra nr rc, .slice wa nw wc, .slice aa na ac, .int .i64 cf, .slice (some ⟨cb, co, none⟩) nc cc] (mC ((i : Int) + 1) (fuel - 1) (.slice (some ⟨sb, so, none⟩) (k + 2 : Nat) sc) r0 r1 r2 r3 (.slice oA on oc) false e0) w).alloc (.cells #[.int .i64 op, .int .i64 a, .int .i64 b] 51)).heap.size ≤ X.heap.size) := Lib.hid (by have := BB.out.size; have := hgB; have := P2.out; have := hXs; have := hb2; exact Nat.le_trans BWW.out hXs)
  go_wp2_with (first
    | (with_reducible refine ld_mach (w.heap.size + 1) X5.out _ rfl rfl rfl ?_)
    | (at_builtin; go_must (refine append_rowH rfl (.tmp 64) (.tmp 66) _ rfl ((sB #[.slice ra nr rc, .slice wa nw wc, .slice aa na ac, .int .i64 cf, .slice (some ⟨cb, co, none⟩) nc cc] (mC ((i : Int) + 1) (fuel - 1) (.slice (some ⟨sb, so, none⟩) (k + 2 : Nat) sc) r0 r1 r2 r3 (.slice oA on oc) false e0) w).alloc (.cells #[.int .i64 op, .int .i64 a, .int .i64 b] 51)).heap.size 3 i0 _ 1 8 Try.underlying23 hi0 hz0 hz1 hz2 rfl (by decide) (.slice A' k c') k ((st.take k).map (.int .i64)) rfl (own_below P3.out (below_alloc1 _ _)) X.heap.size #[.int .i64 n] rfl (Bk.new _ _ _) rfl rfl (by unfold maxLen; omega) (by omega) (Nat.le_trans BW.out (by simp)) ?_; intro g2 cap w5 ho2 hg2 hl2; have hro : ∀ G, G ≤ w.heap.size + 1 + 1 → some G ≠ (Value.slice A' k c').ownBlock := (fun G hG e => by have := own_ge P3.out e.symm; omega); have X4 := Lib.hid ((X2.out.alloc (.cells #[.int .i64 n] 3)).grown hg2 (hro _ (by omega))); have R4 := Lib.hid ((R2.out.alloc (.cells #[.int .i64 n] 3)).grown hg2 (hro _ (by omega))); have B4 : Hid (Below w.heap.size w w5) := Lib.hid ((bnext B2.out (below_alloc1 _ _)).grown hg2 (Nat.le_trans B2.out.size (by simp)) (fun k hk => by have := own_ge P3.out hk; omega)); have M4 : Hid (MIn w5 st ou own (some ⟨sb, so, none⟩) (k + 2) sc oA on oc bA bn bc) := Lib.hid (HM.out.below B4.out); have Q4 := Lib.hid ho2; have y2 := X4.out.cell 2; have yf := X4.out.frozen; have yl := X4.out.lt; simp only [List.getElem?_toArray, List.getElem?_cons_zero, List.getElem?_cons_succ] at y2; have X5 : Hid (Bk (w5.setCell ⟨w.heap.size + 1, 2, none⟩ (.slice (some ⟨g2, 0, none⟩) (k + 1) cap)) (w.heap.size + 1) 54 (mC ((i : Int) + 1) (fuel - 1) (.slice (some ⟨g2, 0, none⟩) (k + 1) cap) r0 r1 r2 r3 (.slice oA on oc) false e0)) := Lib.hid (by simpa using X4.out.set 2 (.slice (some ⟨g2, 0, none⟩) (k + 1) cap)); have R5 := Lib.hid (R4.out.far (p := ⟨w.heap.size + 1, 2, none⟩) (by simp only; omega) (.slice (some ⟨g2, 0, none⟩) (k + 1) cap)); clear ho2 hg2 hl2 hro))
    | (with_reducible refine st_mach (w.heap.size + 1 + 1) R5.out rfl rfl _ _ rfl rfl rfl rfl ?_))
  have P5 := Lib.hid (own_cellBelow Q4.out (G := w.heap.size + 1) (by omega) 2 (.slice (some ⟨g2, 0, none⟩) (k + 1) cap))
  have M5 := Lib.hid (M4.out.setCell (HM.out.offNew (G := w.heap.size + 1) (by omega)) 2 (.slice (some ⟨g2, 0, none⟩) (k + 1) cap))
  exact bodyPost_ret (v := .tuple #[.agg (mC ((i : Int) + 1) (fuel - 1) (.slice (some ⟨g2, 0, none⟩) (k + 1) cap) r0 r1 r2 r3 (.slice oA on oc) false e0), .slice bA bn bc]) (res2_mach rfl _ _ (w.heap.size + 1 + 1) _ rfl rfl (Bk.setRow R5.out _)) rfl
    ⟨_, _, _, _, _, _, _, _, _, rfl, MIn.setRow (⟨by have := Sl.own' P5.out; simpa using this, M5.out.ou, M5.out.bk⟩) (⟨own_offA P5.out (by omega), (HM.out.offNew (by omega)).2⟩) _, below_row (B4.out.setCell (p := ⟨w.heap.size + 1, 2, none⟩) (by simp) _) (by omega) _, fun G hG h => ⟨own_offA P5.out (by omega), h.2⟩⟩

end
end Go.Proofs.Ytibmfhmeoohdeaa

/-
  What the reference's Step of layer 10 answers, in whatever memory: of a put. No conditions but those that stand there.
-/
namespace Go.Proofs.Ytibmfhmeoohdeaa
open Go.RowKit
attribute [local go_sem] look findAt
attribute [local simp] depsOf isV Region.binds

theorem lit_set (w1 : World) (p : Addr) (u : Value) (e : TypeId) (size : Nat) : ((w1.setCell p u).alloc (.cells #[] e)).ownsRow w1.heap.size e size (.slice (some ⟨w1.heap.size, 0, none⟩) 0 0) 0 [] := by
  have hs : (w1.setCell p u).heap.size = w1.heap.size := by simp [World.setCell]
  have h := World.ownsRow_lit (base := w1.heap.size) (e := e) (size := size) (w1.setCell p u) #[] 0 (Nat.le_of_eq hs.symm) (by decide) (by simp)
  rw [hs] at h
  exact h

section
variable (ra : Option Addr) (nr rc : Nat) (wa : Option Addr) (nw wc : Nat) (aa : Option Addr) (na ac : Nat) (cf : Int) (ca : Option Addr) (nc cc : Nat)
variable (fuel : Int) (sA : Option Addr) (sn sc : Nat) (r0 r1 r2 r3 : Int) (oA : Option Addr) (on oc : Nat) (e0 : Int) (bA : Option Addr) (bn bc : Nat)

set_option maxHeartbeats 4000000 in
set_option maxRecDepth 100000 in
theorem rstep5 (l : List Ins) (i : Nat) (k : Nat) (hk : k ≤ 1000) (j : Nat) (b : Int) (st ou : List Int) (own : Blks) (w : World) (hC : Inss w ca cc l) (hl : l.length = nc) (hi : i < nc) (hic : nc ≤ 1000) (hx : insAt l i = ⟨5, j, b⟩) (hM : MIn w st ou own sA (k + 1) sc oA on oc bA bn bc) (hf : fuel ≠ 0) (hf2 : 0 ≤ fuel ∧ fuel ≤ 1000) (h8 : ∀ b ∈ own, b.length = 8) (hj : j < own.length) (hbn : own.length = bn) (hb1000 : bn ≤ 1000) :
    Calls Try.prog 37 #[cmV ra nr rc wa nw wc aa na ac cf ca nc cc, .agg (mC (i : Int) fuel (.slice sA (k + 1 : Nat) sc) r0 r1 r2 r3 (.slice oA on oc) false e0), .slice bA bn bc] w (RSPost ((i : Int) + 1) (fuel - 1) (st.take k) r0 r1 r2 r3 ou false e0 (own.set j (putC (own[j]?.getD []) b (st[k]?.getD 0))) sA (k + 1) oA on bA bn w) := by
  obtain ⟨top, htop⟩ : ∃ x, x = st[k]?.getD 0 := ⟨_, rfl⟩
  try rw [← htop]
  have HT := Lib.hid htop
  clear htop
  obtain ⟨cb, co, rfl, hcb, x0, x1, x2⟩ := hC.cellAt (j := i) (by omega)
  rw [hx] at x0 x1 x2
  simp only at x0 x1 x2
  have hcc := hC.2.1
  rw [hl] at hcc
  have d1 : (i : Int) < (nc : Int) := by omega
  have d2 : (i : Int) < (cc : Int) := by omega
  have f0 : (fuel == 0) = false := by simpa using hf
  have bb := sB_below #[.slice ra nr rc, .slice wa nw wc, .slice aa na ac, .int .i64 cf, .slice (some ⟨cb, co, none⟩) nc cc] (mC (i : Int) (fuel - 1) (.slice sA (k + 1 : Nat) sc) r0 r1 r2 r3 (.slice oA on oc) false e0) w
  have y0 := (bb.cell (p := ⟨cb, co + i * 3, none⟩) hcb).trans x0
  have y1 := (bb.cell (p := ⟨cb, co + i * 3 + 1, none⟩) hcb).trans x1
  have y2 := (bb.cell (p := ⟨cb, co + i * 3 + 2, none⟩) hcb).trans x2
  have HM := Lib.hid hM
  clear hC hx hl bb hM
  obtain ⟨i0, hi0, hz0, hz1, hz2⟩ := infoInt
  obtain ⟨sb, so, rfl, -, -⟩ := HM.out.st.2.2.2 (by omega)
  have B0 : Hid (Below w.heap.size w ((sB #[.slice ra nr rc, .slice wa nw wc, .slice aa na ac, .int .i64 cf, .slice (some ⟨cb, co, none⟩) nc cc] (mC ((i : Int) + 1) (fuel - 1) (.slice (some ⟨sb, so, none⟩) (k + 1 : Nat) sc) r0 r1 r2 r3 (.slice oA on oc) false e0) w).alloc (.cells #[.int .i64 5, .int .i64 (j : Int), .int .i64 b] 51))) := Lib.hid (bnext (sB_below _ _ _) (below_alloc1 _ _))
  have X0 : Hid (Bk ((sB #[.slice ra nr rc, .slice wa nw wc, .slice aa na ac, .int .i64 cf, .slice (some ⟨cb, co, none⟩) nc cc] (mC ((i : Int) + 1) (fuel - 1) (.slice (some ⟨sb, so, none⟩) (k + 1 : Nat) sc) r0 r1 r2 r3 (.slice oA on oc) false e0) w).alloc (.cells #[.int .i64 5, .int .i64 (j : Int), .int .i64 b] 51)) (w.heap.size + 1) 54 (mC ((i : Int) + 1) (fuel - 1) (.slice (some ⟨sb, so, none⟩) (k + 1 : Nat) sc) r0 r1 r2 r3 (.slice oA on oc) false e0)) := Lib.hid ((sB_box _ _ _).alloc _)
  have R0 : Hid (Bk ((sB #[.slice ra nr rc, .slice wa nw wc, .slice aa na ac, .int .i64 cf, .slice (some ⟨cb, co, none⟩) nc cc] (mC ((i : Int) + 1) (fuel - 1) (.slice (some ⟨sb, so, none⟩) (k + 1 : Nat) sc) r0 r1 r2 r3 (.slice oA on oc) false e0) w).alloc (.cells #[.int .i64 5, .int .i64 (j : Int), .int .i64 b] 51)) (w.heap.size + 1 + 1) 54 mZ) := Lib.hid ((sB_res _ _ _).alloc _)
  have I0 : Hid (Bk ((sB #[.slice ra nr rc, .slice wa nw wc, .slice aa na ac, .int .i64 cf, .slice (some ⟨cb, co, none⟩) nc cc] (mC ((i : Int) + 1) (fuel - 1) (.slice (some ⟨sb, so, none⟩) (k + 1 : Nat) sc) r0 r1 r2 r3 (.slice oA on oc) false e0) w).alloc (.cells #[.int .i64 5, .int .i64 (j : Int), .int .i64 b] 51)) (w.heap.size + 1 + 1 + 1) 51 #[.int .i64 5, .int .i64 (j : Int), .int .i64 b]) := Lib.hid (rW_ins _ _ _ _)
  have hpop := Lib.hid (rpop1 ((i : Int) + 1) (fuel - 1) st r0 r1 r2 r3 false e0 (some ⟨sb, so, none⟩) sc oA on oc k ((sB #[.slice ra nr rc, .slice wa nw wc, .slice aa na ac, .int .i64 cf, .slice (some ⟨cb, co, none⟩) nc cc] (mC ((i : Int) + 1) (fuel - 1) (.slice (some ⟨sb, so, none⟩) (k + 1 : Nat) sc) r0 r1 r2 r3 (.slice oA on oc) false e0) w).alloc (.cells #[.int .i64 5, .int .i64 (j : Int), .int .i64 b] 51)) (HM.out.st.below B0.out) hk)
  have hWs : Hid (w.heap.size + 1 + 1 + 1 < ((sB #[.slice ra nr rc, .slice wa nw wc, .slice aa na ac, .int .i64 cf, .slice (some ⟨cb, co, none⟩) nc cc] (mC ((i : Int) + 1) (fuel - 1) (.slice (some ⟨sb, so, none⟩) (k + 1 : Nat) sc) r0 r1 r2 r3 (.slice oA on oc) false e0) w).alloc (.cells #[.int .i64 5, .int .i64 (j : Int), .int .i64 b] 51)).heap.size) := Lib.hid I0.out.lt
  obtain ⟨iB, hib, hb0, hbs, hbb⟩ := infoBlkZ
  have H8 := Lib.hid h8
  have hxl : (own[j]?.getD []).length = 8 := by
    rw [List.getElem?_eq_getElem hj]
    exact h8 _ (List.getElem_mem _)
  have hpu := Lib.hid (fun X => rput_any (own[j]?.getD []) hxl b top X)
  have hyl : (putC (own[j]?.getD []) b top).length = 8 := by rw [putC_length, hxl]
  have i8y := infoBlk hyl
  have HY := Lib.hid hyl
  have HJ := Lib.hid hj
  have HB := Lib.hid hbn
  obtain ⟨x, hxe⟩ : ∃ x, x = own[j]?.getD [] := ⟨_, rfl⟩
  obtain ⟨y, hye⟩ : ∃ y, y = putC (own[j]?.getD []) b top := ⟨_, rfl⟩
  rw [← hye] at hyl i8y hpu HY ⊢
  rw [← hxe] at hpu
  have HX := Lib.hid hxe
  have d3 : (j : Int) < (bn : Int) := by omega
  clear h8 hxl hyl hj hbn hxe hye
  go_enter Try.func37, Try.ntmps37
  go_wp2_with (first
    | (with_reducible refine ld_mach (w.heap.size + 1) X0.out _ rfl rfl rfl ?_)
    | (go_at_call 47; go_must ((with_reducible refine hpop.out.mono ?_); rintro e w1 ⟨⟨A, c, A', c', rfl, p1, p2⟩, hb1⟩; have BB : Hid (Below w.heap.size w (w1.setCell ⟨w.heap.size + 1, 2, none⟩ (.slice A' k c'))) := Lib.hid ((bnext B0.out hb1).setCell (p := ⟨w.heap.size + 1, 2, none⟩) (by simp) _); have P1 := Lib.hid (own_cellBelow p1 (G := w.heap.size + 1) (by have := hWs.out; omega) 2 (.slice A' k c')); have P2 := Lib.hid (own_cellBelow p2 (G := w.heap.size + 1) (by have := hWs.out; omega) 2 (.slice A' k c')); have X1 := Lib.hid (X0.out.below hb1); have X2 : Hid (Bk (w1.setCell ⟨w.heap.size + 1, 2, none⟩ (.slice A' k c')) (w.heap.size + 1) 54 (mC ((i : Int) + 1) (fuel - 1) (.slice A' k c') r0 r1 r2 r3 (.slice oA on oc) false e0)) := Lib.hid (by simpa using X1.out.set 2 (.slice A' k c')); have R2 := Lib.hid ((R0.out.below hb1).far (p := ⟨w.heap.size + 1, 2, none⟩) (by simp only; omega) (.slice A' k c')); have I2 := Lib.hid ((I0.out.below hb1).far (p := ⟨w.heap.size + 1, 2, none⟩) (by simp only; omega) (.slice A' k c')); have M2 := Lib.hid (((HM.out.below B0.out).below hb1).setCell (HM.out.offNew (G := w.heap.size + 1) (by omega)) 2 (.slice A' k c')); have z2 := X1.out.cell 2; have zf := X1.out.frozen; have zl := X1.out.lt; have zi := I2.out.cell 0; simp only [List.getElem?_toArray, List.getElem?_cons_zero, List.getElem?_cons_succ] at z2 zi; clear p1 p2 hb1))
    | (at_builtin; go_must (refine append_sl rfl (.tmp 179) (.tmp 180) _ rfl w1.heap.size 43 iB _ 8 64 Try.underlying34 hib hb0 hbs hbb rfl (by decide) (.slice (some ⟨w1.heap.size, 0, none⟩) 0 0) 0 [] rfl (lit_set _ _ _ _ _) bA bn bc _ rfl (M2.out.bk.alloc _) (blksW_one own) (by unfold maxLen; omega) (by omega) (by simp) ?_; intro v' w3 ho3 hg3; have B3 : Hid (Below (w1.setCell ⟨w.heap.size + 1, 2, none⟩ (.slice A' k c')).heap.size (w1.setCell ⟨w.heap.size + 1, 2, none⟩ (.slice A' k c')) w3) := Lib.hid (((Below.refl _ _).alloc (Nat.le_refl _) _).grown hg3 (by simp) (fun q hq => by simp [Value.ownBlock] at hq; simp; omega)); obtain ⟨A3, c3, rfl, -⟩ := Sl.own ho3; simp only [Nat.zero_add, List.nil_append] at ho3; have O3 := Lib.hid ho3; clear ho3 hg3)))
  have hw12 : Hid ((w1.setCell ⟨w.heap.size + 1, 2, none⟩ (.slice A' k c')).heap.size = w1.heap.size) := Lib.hid (by simp [World.setCell])
  generalize w1.setCell ⟨w.heap.size + 1, 2, none⟩ (.slice A' k c') = w2 at *
  obtain ⟨g3, cur3, rfl, hg3B, hg3k, hg3c, -, hg3s, -⟩ := own_pos O3.out (by omega)
  have G3 := Lib.hid hg3k
  have GS := Lib.hid hg3s
  have hlt3 := hg3k.lt
  have hI2 := I2.out.lt
  have hI3 : w2.heap.size ≤ w1.heap.size := Nat.le_of_eq hw12.out
  have d4 : (j : Int) < (c3 : Int) := by omega
  have hlo : Hid (∀ X, Below w3.heap.size w3 X → (loadVar 43 ⟨g3, j * 8, none⟩).run Try.prog X = .ok (.agg (bkC x)) X) := Lib.hid (fun X hX => by
    have hBs : Blocks w3 (some ⟨g3, 0, none⟩) c3 own := by
      have := Sl.own' O3.out
      unfold Blocks
      rw [HB.out]
      exact this
    obtain ⟨g', off', e, hl⟩ := hBs.load H8.out HJ.out
    injection e with e
    injection e with e1 e2
    subst e1
    subst e2
    have := hl X hX
    rw [Nat.zero_add, ← HX.out] at this
    exact this)
  obtain ⟨g, cur, rfl, hgB, hgk, hgc, -, hgs, hgt⟩ := own_pos P1.out (by omega)
  have hg0 : Hid (∀ X, Below w3.heap.size w3 X → X.cell? ⟨g, 0, none⟩ = some (.int .i64 top)) := Lib.hid (fun X hX => by
    rw [((hgk.below B3.out).below hX).cell 0, HT.out, ← Array.getElem?_toList]
    have hl := HM.out.st.1
    simp at hl
    have h1 : (cur.toList.take (1 * 1))[0]? = (((st.drop k).map (Value.int .i64)))[0]? := by rw [hgt]
    rw [List.getElem?_take, if_pos (by omega)] at h1
    rw [h1, List.getElem?_map, List.getElem?_drop]
    simp [show k < st.length by omega])
  have hgc1 : (1 : Int) ≤ (c : Int) := by omega
  have hQ : Hid (∀ X, Below w3.heap.size w3 X → X.cell? ⟨w.heap.size + 1 + 1 + 1, 1, none⟩ = some (.int .i64 (j : Int)) ∧ X.cell? ⟨w.heap.size + 1 + 1 + 1, 2, none⟩ = some (.int .i64 b)) := Lib.hid (fun X hX => ⟨((I2.out.below B3.out).below hX).cell 1, ((I2.out.below B3.out).below hX).cell 2⟩)
  have hgp : ∀ q, (Value.slice A' k c').ownBlock = some q → q < g3 := fun q hq => by have := own_lt P2.out hq; have := hw12.out; omega
  have HP := Lib.hid hgp
  have hWz := hWs.out
  clear hgk hgs hgt hg3k hg3s hgp z2 zf zl zi
  try simp only [List.append_eq, List.cons_append, List.nil_append]
  refine wp_region_saysK 15 (fun x y => Below x.heap.size x y) (fun _ _ _ h k => bnext h k) w3 (below_drew1 w3) (by kernel_rfl) (by kernel_rfl) (by kernel_rfl) (by kernel_rfl) (by rfl) ?_
  simp only [List.take_succ_cons, List.take_zero, List.drop_succ_cons, List.drop_zero]
  refine walkK_is ?_ (by first | exact gs0 rfl | exact gs1 rfl rfl rfl) (fun _ => Below.refl _ _) (fun u X hX hd => ?_) ?_
  rotate_left
  · obtain ⟨q1, q2⟩ := hQ.out X hX
    have q3 := hg0.out X hX
    try simp at hd
    go_simp
    try rfl
  apply walkK_norm
  · first | (simp only [List.nil_append]; rfl) | simp only [List.nil_append]
  refine walkK_is ?_ (by first | exact gs0 rfl | exact gs1 rfl rfl rfl) (fun _ => Below.refl _ _) (fun u X hX hd => ?_) ?_
  rotate_left
  · obtain ⟨q1, q2⟩ := hQ.out X hX
    have q3 := hg0.out X hX
    try simp at hd
    go_simp
    try rfl
  apply walkK_norm
  · first | (simp only [List.nil_append, List.cons_append]; rfl) | simp only [List.nil_append, List.cons_append]
  refine walkK_is ?_ (by first | exact gs0 rfl | exact gs1 rfl rfl rfl) (fun _ => Below.refl _ _) (fun u X hX hd => ?_) ?_
  rotate_left
  · obtain ⟨q1, q2⟩ := hQ.out X hX
    have q3 := hg0.out X hX
    try simp at hd
    go_simp
    try rfl
  apply walkK_norm
  · first | (simp only [List.nil_append, List.cons_append]; rfl) | simp only [List.nil_append, List.cons_append]
  refine walkK_is ?_ (by first | exact gs0 rfl | exact gs1 rfl rfl rfl) (fun _ => Below.refl _ _) (fun u X hX hd => ?_) ?_
  rotate_left
  · obtain ⟨q1, q2⟩ := hQ.out X hX
    have q3 := hg0.out X hX
    try simp at hd
    go_simp
    try rfl
  apply walkK_norm
  · first | (simp only [List.nil_append, List.cons_append]; rfl) | simp only [List.nil_append, List.cons_append]
  refine walkK_is ?_ (by first | exact gs0 rfl | exact gs1 rfl rfl rfl) (fun _ => Below.refl _ _) (fun u X hX hd => ?_) ?_
  rotate_left
  · obtain ⟨q1, q2⟩ := hQ.out X hX
    have q3 := hg0.out X hX
    try simp at hd
    go_simp
    try rfl
  apply walkK_norm
  · first | (simp only [List.nil_append, List.cons_append]; rfl) | simp only [List.nil_append, List.cons_append]
  refine walkK_is ?_ (by first | exact gs0 rfl | exact gs1 rfl rfl rfl) (fun _ => Below.refl _ _) (fun u X hX hd => ?_) ?_
  rotate_left
  · obtain ⟨q1, q2⟩ := hQ.out X hX
    have q3 := hg0.out X hX
    try simp at hd
    go_simp
    try rfl
  apply walkK_norm
  · first | (simp only [List.nil_append, List.cons_append]; rfl) | simp only [List.nil_append, List.cons_append]
  refine walkK_is ?_ (by first | exact gs0 rfl | exact gs1 rfl rfl rfl) (fun _ => Below.refl _ _) (fun u X hX hd => ?_) ?_
  rotate_left
  · obtain ⟨q1, q2⟩ := hQ.out X hX
    have q3 := hg0.out X hX
    try simp at hd
    go_simp
    try rfl
  apply walkK_norm
  · first | (simp only [List.nil_append, List.cons_append]; rfl) | simp only [List.nil_append, List.cons_append]
  refine walkK_is (.agg (bkC x)) (by exact gs0 rfl) (fun _ => Below.refl _ _) (fun u X hX hd => ?_) ?_
  · have hlx := hlo.out X hX
    try simp at hd
    exact exec_load_at _ _ _ _ _ rfl (by go_simp) hlx
  apply walkK_norm
  · first | (simp only [List.nil_append, List.cons_append]; rfl) | simp only [List.nil_append, List.cons_append]
  refine walkK_is ?_ (by first | exact gs0 rfl | exact gs1 rfl rfl rfl) (fun _ => Below.refl _ _) (fun u X hX hd => ?_) ?_
  rotate_left
  · obtain ⟨q1, q2⟩ := hQ.out X hX
    have q3 := hg0.out X hX
    try simp at hd
    go_simp
    try rfl
  apply walkK_norm
  · first | (simp only [List.nil_append, List.cons_append]; rfl) | simp only [List.nil_append, List.cons_append]
  refine walkK_is ?_ (by first | exact gs0 rfl | exact gs1 rfl rfl rfl) (fun _ => Below.refl _ _) (fun u X hX hd => ?_) ?_
  rotate_left
  · obtain ⟨q1, q2⟩ := hQ.out X hX
    have q3 := hg0.out X hX
    try simp at hd
    go_simp
    try rfl
  apply walkK_norm
  · first | (simp only [List.nil_append, List.cons_append]; rfl) | simp only [List.nil_append, List.cons_append]
  refine walkK_is ?_ (by first | exact gs0 rfl | exact gs1 rfl rfl rfl) (fun _ => Below.refl _ _) (fun u X hX hd => ?_) ?_
  rotate_left
  · obtain ⟨q1, q2⟩ := hQ.out X hX
    have q3 := hg0.out X hX
    try simp at hd
    go_simp
    try rfl
  apply walkK_norm
  · first | (simp only [List.nil_append, List.cons_append]; rfl) | simp only [List.nil_append, List.cons_append]
  refine walkK_is ?_ (by first | exact gs0 rfl | exact gs1 rfl rfl rfl) (fun _ => Below.refl _ _) (fun u X hX hd => ?_) ?_
  rotate_left
  · obtain ⟨q1, q2⟩ := hQ.out X hX
    have q3 := hg0.out X hX
    try simp at hd
    go_simp
    try rfl
  apply walkK_norm
  · first | (simp only [List.nil_append, List.cons_append]; rfl) | simp only [List.nil_append, List.cons_append]
  refine walkK_is ?_ (by first | exact gs0 rfl | exact gs1 rfl rfl rfl) (fun _ => Below.refl _ _) (fun u X hX hd => ?_) ?_
  rotate_left
  · obtain ⟨q1, q2⟩ := hQ.out X hX
    have q3 := hg0.out X hX
    try simp at hd
    go_simp
    try rfl
  apply walkK_norm
  · first | (simp only [List.nil_append, List.cons_append]; rfl) | simp only [List.nil_append, List.cons_append]
  refine walkK_call (isV (.agg (bkC y))) 48 ?_ (by first | exact gs0 rfl | exact gs1 rfl rfl rfl) (fun _ _ _ _ h => h) (fun u X hX hd => ?_) (fun X hX => ?_) ?_
  rotate_left
  · obtain ⟨q1, q2⟩ := hQ.out X hX
    have q3 := hg0.out X hX
    try simp at hd
    go_simp
    try rfl
  · exact (hpu.out X).mono fun e X' ⟨he, hb⟩ => ⟨_, he, hb, rfl⟩
  apply walkK_norm
  · first | (simp only [List.nil_append, List.cons_append]; rfl) | simp only [List.nil_append, List.cons_append]
  refine walkK_is ?_ (by first | exact gs0 rfl | exact gs1 rfl rfl rfl) (fun _ => Below.refl _ _) (fun u X hX hd => ?_) ?_
  rotate_left
  · obtain ⟨q1, q2⟩ := hQ.out X hX
    have q3 := hg0.out X hX
    try simp at hd
    go_simp
    try rfl
  apply walkK_norm
  · first | (simp only [List.nil_append, List.cons_append]; rfl) | simp only [List.nil_append, List.cons_append]
  intro u X hX hsay
  simp only [sayAll, isV] at hsay
  obtain ⟨v0, v1, v2, v3, v4, v5, v6, v7, v8, v9, v10, v11, v12, v13, v14, -⟩ := hsay
  have X4 := Lib.hid ((((X2.out.below B3.out).below hX)).setCells (h := g3) (by omega) (j * 8) (bkC y).toList)
  have R4 := Lib.hid ((((R2.out.below B3.out).below hX)).setCells (h := g3) (by omega) (j * 8) (bkC y).toList)
  have P4 := Lib.hid (own_keep (own_below (own_below P2.out B3.out) hX) (fun q _ hq => heap_setCells (bkC y).toList (j * 8) X q (Nat.ne_of_lt (HP.out q hq))))
  have O4 : Hid ((X.setCells g3 (j * 8) (bkC y).toList).ownsRow w1.heap.size 43 8 (.slice (some ⟨g3, 0, none⟩) bn c3) bn (blksW (own.set j y))) := Lib.hid (by
    have hb := own_setCells (bkC y).toList (j * 8) (own_below O3.out hX)
    rw [show (bkC y).toList = y.map (Value.int .i64) by simp [bkC]] at hb ⊢
    rwa [blksW_set own H8.out HJ.out HY.out] at hb)
  have M4 := Lib.hid (MIn.offSet (w' := X.setCells g3 (j * 8) (bkC y).toList) (G := g3) ((HM.out.below (bnext BB.out B3.out)).below hX) (HM.out.offNew (by omega)) (Nat.le_of_eq (size_setCells (bkC y).toList (j * 8) X).symm) (fun q hq _ => heap_setCells (bkC y).toList (j * 8) X q hq))
  have B4 : Hid (Below w.heap.size w (X.setCells g3 (j * 8) (bkC y).toList)) := Lib.hid (below_setCells (bnext (bnext BB.out B3.out) hX) (by omega) (bkC y).toList (j * 8))
  have ht := Lib.hid ((G3.out.below hX).there (o := j * 8) (n := (bkC y).size) (by rw [bkC_size, HY.out, GS.out]; omega))
  have ay := bkC_all y
  simp only [putAll, Act.put, v0, v1, v2, v3, v4, v5, v6, v7, v8, v9, v10, v11, v12, v13, v14, List.setIfInBounds_toArray, List.set_cons_succ, List.set_cons_zero]
  clear hX v0 v1 v2 v3 v4 v5 v6 v7 v8 v9 v10 v11 v12 v13 v14
  go_wp2_with (first
    | (refine wpList_store_mid rfl 43 _ _ rfl g3 (j * 8) (bkC y) rfl rfl ht.out i8y ay ?_)
    | (with_reducible refine ld_mach (w.heap.size + 1) X4.out _ rfl rfl rfl ?_)
    | (with_reducible refine st_mach (w.heap.size + 1 + 1) R4.out rfl rfl _ _ rfl rfl rfl rfl ?_))
  exact bodyPost_ret (v := .tuple #[.agg (mC ((i : Int) + 1) (fuel - 1) (.slice A' k c') r0 r1 r2 r3 (.slice oA on oc) false e0), .slice (some ⟨g3, 0, none⟩) bn c3]) (res2_mach rfl _ _ (w.heap.size + 1 + 1) _ rfl rfl (Bk.setRow R4.out _)) rfl
    ⟨_, _, _, _, _, _, _, _, _, rfl, MIn.setRow (⟨by have := Sl.own' P4.out; simpa using this, M4.out.ou, Sl.own' O4.out⟩) (⟨own_offA P4.out (by omega), (HM.out.offNew (by omega)).2.1, own_offA O4.out (by omega)⟩) _, below_row B4.out (by omega) _, fun G hG h => ⟨own_offA P4.out (by omega), h.2.1, own_offA O4.out (by omega)⟩⟩

end
end Go.Proofs.Ytibmfhmeoohdeaa

/-
  What the reference's Step of layer 10 answers: the plain step, in whatever memory, of a machine that has something to work on. No conditions but those that stand there.
-/
namespace Go.Proofs.Ytibmfhmeoohdeaa
open Go.RowKit

/-- a machine and blocks in memory: what a step of the reference answers. -/
def RMacPost (r : Mac × Blks) (sA : Option Addr) (sn : Nat) (oA : Option Addr) (on : Nat) (bA : Option Addr) (bn : Nat) (w : World) : Ending → World → Prop :=
  RSPost r.1.pc r.1.fuel r.1.stack (rg r.1.regs 0) (rg r.1.regs 1) (rg r.1.regs 2) (rg r.1.regs 3) r.1.out r.1.over r.1.told r.2 sA sn oA on bA bn w

section
variable (ra : Option Addr) (nr rc : Nat) (wa : Option Addr) (nw wc : Nat) (aa : Option Addr) (na ac : Nat) (ca : Option Addr) (nc cc : Nat)
variable (sA : Option Addr) (sn sc : Nat) (oA : Option Addr) (on oc : Nat) (bA : Option Addr) (bn bc : Nat)

set_option maxHeartbeats 4000000 in
theorem rstep_goes (c : Cmd) (i : Nat) (fuel : Int) (st ou : List Int) (r0 r1 r2 r3 : Int) (e0 : Nat) (own : Blks) (w : World) (x : Ins) (hx : insAt c.code i = x) (hi : i < nc) (hic : nc ≤ 1000) (hfit : FitI c x ⟨i, fuel, st, [r0, r1, r2, r3], ou, false, e0⟩ own) (hf : fuel ≠ 0) (hf2 : 0 ≤ fuel ∧ fuel ≤ 1000)
    (hs8 : st.length ≤ 100) (ho8 : ou.length ≤ 100) (h8 : ∀ b ∈ own, b.length = 8) (hm : own.length ≤ 100) (hsn : sn = st.length) (hon : on = ou.length) (hbn : bn = own.length) (hC : CmIn w c ra nr rc wa nw wc aa na ac ca nc cc) (hM : MIn w st ou own sA sn sc oA on oc bA bn bc) :
    Calls Try.prog 37 #[cmV ra nr rc wa nw wc aa na ac c.fuel ca nc cc, .agg (mC (i : Int) fuel (.slice sA sn sc) r0 r1 r2 r3 (.slice oA on oc) false e0), .slice bA bn bc] w (RMacPost (doM c x ⟨(i : Int) + 1, fuel - 1, st, [r0, r1, r2, r3], ou, false, e0⟩ own) sA sn oA on bA bn w) := by
  obtain ⟨op, a, b⟩ := x
  obtain ⟨⟨o1, o2⟩, hreg, hblk, harg, hway, hoff⟩ := hfit
  simp only at o1 o2 hreg hblk harg hway hoff
  have hcode := hC.code
  have hlc := hC.lc
  rcases (show op = 1 ∨ op = 2 ∨ op = 3 ∨ op = 4 ∨ op = 5 ∨ op = 6 ∨ op = 13 ∨ op = 14 ∨ op = 15 ∨ op = 16 ∨ op = 17 ∨ (7 ≤ op ∧ op ≤ 12) by omega) with rfl | rfl | rfl | rfl | rfl | rfl | rfl | rfl | rfl | rfl | rfl | hop

  · exact rstep1 (ra := ra) (nr := nr) (rc := rc) (wa := wa) (nw := nw) (wc := wc) (aa := aa) (na := na) (ac := ac) (cf := c.fuel) (ca := ca) (nc := nc) (cc := cc) (fuel := fuel) (sA := sA) (sn := sn) (sc := sc) (r0 := r0) (r1 := r1) (r2 := r2) (r3 := r3) (oA := oA) (on := on) (oc := oc) (e0 := e0) (bA := bA) (bn := bn) (bc := bc) (a := a) (b := b) (hs := by omega) (l := c.code) (i := i) (st := st) (ou := ou) (own := own) (w := w) (hC := hcode) (hl := hlc) (hi := hi) (hic := hic) (hx := hx) (hM := hM) (hf := hf) (hf2 := hf2)
  · obtain ⟨h1, h2⟩ := hreg (.inl rfl)
    obtain ⟨k, rfl⟩ := Int.eq_ofNat_of_zero_le h1
    have hk : k < 4 := by omega
    have hv : [r0, r1, r2, r3][k]? = some (rg [r0, r1, r2, r3] k) := by
      rcases (show k = 0 ∨ k = 1 ∨ k = 2 ∨ k = 3 by omega) with rfl | rfl | rfl | rfl <;> rfl
    exact rstep2 (ra := ra) (nr := nr) (rc := rc) (wa := wa) (nw := nw) (wc := wc) (aa := aa) (na := na) (ac := ac) (cf := c.fuel) (ca := ca) (nc := nc) (cc := cc) (fuel := fuel) (sA := sA) (sn := sn) (sc := sc) (r0 := r0) (r1 := r1) (r2 := r2) (r3 := r3) (oA := oA) (on := on) (oc := oc) (e0 := e0) (bA := bA) (bn := bn) (bc := bc) (k := k) (b := b) (v := rg [r0, r1, r2, r3] k) (hk := hk) (hv := hv) (hs := by omega) (l := c.code) (i := i) (st := st) (ou := ou) (own := own) (w := w) (hC := hcode) (hl := hlc) (hi := hi) (hic := hic) (hx := hx) (hM := hM) (hf := hf) (hf2 := hf2)
  · obtain ⟨h1, h2⟩ := hreg (.inr rfl)
    obtain ⟨k, hk⟩ : ∃ k, st.length = k + 1 := ⟨st.length - 1, by simp [offN] at hoff; omega⟩
    obtain rfl : sn = k + 1 := by omega
    have e1 : popN st 1 = st.take k := by rw [popN, hk]; rfl
    have e2 : topN st = st[k]?.getD 0 := by rw [topN, hk]; rfl
    rcases (show a = 0 ∨ a = 1 ∨ a = 2 ∨ a = 3 by omega) with rfl | rfl | rfl | rfl
    · have hd : doM c ⟨3, 0, b⟩ ⟨(i : Int) + 1, fuel - 1, st, [r0, r1, r2, r3], ou, false, e0⟩ own = (⟨(i : Int) + 1, fuel - 1, st.take k, [st[k]?.getD 0, r1, r2, r3], ou, false, e0⟩, own) := by rw [← e1, ← e2]; rfl
      rw [hd]
      exact rstep3_0 (ra := ra) (nr := nr) (rc := rc) (wa := wa) (nw := nw) (wc := wc) (aa := aa) (na := na) (ac := ac) (cf := c.fuel) (ca := ca) (nc := nc) (cc := cc) (fuel := fuel) (sA := sA) (sc := sc) (r0 := r0) (r1 := r1) (r2 := r2) (r3 := r3) (oA := oA) (on := on) (oc := oc) (e0 := e0) (bA := bA) (bn := bn) (bc := bc) (k := k) (hk := by omega) (b := b) (l := c.code) (i := i) (st := st) (ou := ou) (own := own) (w := w) (hC := hcode) (hl := hlc) (hi := hi) (hic := hic) (hx := hx) (hM := hM) (hf := hf) (hf2 := hf2)
    · have hd : doM c ⟨3, 1, b⟩ ⟨(i : Int) + 1, fuel - 1, st, [r0, r1, r2, r3], ou, false, e0⟩ own = (⟨(i : Int) + 1, fuel - 1, st.take k, [r0, st[k]?.getD 0, r2, r3], ou, false, e0⟩, own) := by rw [← e1, ← e2]; rfl
      rw [hd]
      exact rstep3_1 (ra := ra) (nr := nr) (rc := rc) (wa := wa) (nw := nw) (wc := wc) (aa := aa) (na := na) (ac := ac) (cf := c.fuel) (ca := ca) (nc := nc) (cc := cc) (fuel := fuel) (sA := sA) (sc := sc) (r0 := r0) (r1 := r1) (r2 := r2) (r3 := r3) (oA := oA) (on := on) (oc := oc) (e0 := e0) (bA := bA) (bn := bn) (bc := bc) (k := k) (hk := by omega) (b := b) (l := c.code) (i := i) (st := st) (ou := ou) (own := own) (w := w) (hC := hcode) (hl := hlc) (hi := hi) (hic := hic) (hx := hx) (hM := hM) (hf := hf) (hf2 := hf2)
    · have hd : doM c ⟨3, 2, b⟩ ⟨(i : Int) + 1, fuel - 1, st, [r0, r1, r2, r3], ou, false, e0⟩ own = (⟨(i : Int) + 1, fuel - 1, st.take k, [r0, r1, st[k]?.getD 0, r3], ou, false, e0⟩, own) := by rw [← e1, ← e2]; rfl
      rw [hd]
      exact rstep3_2 (ra := ra) (nr := nr) (rc := rc) (wa := wa) (nw := nw) (wc := wc) (aa := aa) (na := na) (ac := ac) (cf := c.fuel) (ca := ca) (nc := nc) (cc := cc) (fuel := fuel) (sA := sA) (sc := sc) (r0 := r0) (r1 := r1) (r2 := r2) (r3 := r3) (oA := oA) (on := on) (oc := oc) (e0 := e0) (bA := bA) (bn := bn) (bc := bc) (k := k) (hk := by omega) (b := b) (l := c.code) (i := i) (st := st) (ou := ou) (own := own) (w := w) (hC := hcode) (hl := hlc) (hi := hi) (hic := hic) (hx := hx) (hM := hM) (hf := hf) (hf2 := hf2)
    · have hd : doM c ⟨3, 3, b⟩ ⟨(i : Int) + 1, fuel - 1, st, [r0, r1, r2, r3], ou, false, e0⟩ own = (⟨(i : Int) + 1, fuel - 1, st.take k, [r0, r1, r2, st[k]?.getD 0], ou, false, e0⟩, own) := by rw [← e1, ← e2]; rfl
      rw [hd]
      exact rstep3_3 (ra := ra) (nr := nr) (rc := rc) (wa := wa) (nw := nw) (wc := wc) (aa := aa) (na := na) (ac := ac) (cf := c.fuel) (ca := ca) (nc := nc) (cc := cc) (fuel := fuel) (sA := sA) (sc := sc) (r0 := r0) (r1 := r1) (r2 := r2) (r3 := r3) (oA := oA) (on := on) (oc := oc) (e0 := e0) (bA := bA) (bn := bn) (bc := bc) (k := k) (hk := by omega) (b := b) (l := c.code) (i := i) (st := st) (ou := ou) (own := own) (w := w) (hC := hcode) (hl := hlc) (hi := hi) (hic := hic) (hx := hx) (hM := hM) (hf := hf) (hf2 := hf2)
  · obtain ⟨h1, h2⟩ := hblk (.inl rfl)
    obtain ⟨k, rfl⟩ := Int.eq_ofNat_of_zero_le h1
    have hBs : Blocks w bA bc own := by
      have := hM.bk
      rw [hbn] at this
      exact this
    exact rstep4 (ra := ra) (nr := nr) (rc := rc) (wa := wa) (nw := nw) (wc := wc) (aa := aa) (na := na) (ac := ac) (cf := c.fuel) (ca := ca) (nc := nc) (cc := cc) (fuel := fuel) (sA := sA) (sn := sn) (sc := sc) (r0 := r0) (r1 := r1) (r2 := r2) (r3 := r3) (oA := oA) (on := on) (oc := oc) (e0 := e0) (bA := bA) (bn := bn) (bc := bc) (k := k) (b := b) (h8 := h8) (hk := by omega) (hbn := hbn.symm) (v := getC (own[k]?.getD []) b) (hv := rfl) (hBs := hBs) (hs := by omega) (l := c.code) (i := i) (st := st) (ou := ou) (own := own) (w := w) (hC := hcode) (hl := hlc) (hi := hi) (hic := hic) (hx := hx) (hM := hM) (hf := hf) (hf2 := hf2)
  · obtain ⟨h1, h2⟩ := hblk (.inr rfl)
    obtain ⟨j, rfl⟩ := Int.eq_ofNat_of_zero_le h1
    obtain ⟨k, hk⟩ : ∃ k, st.length = k + 1 := ⟨st.length - 1, by simp [offN] at hoff; omega⟩
    obtain rfl : sn = k + 1 := by omega
    have e1 : popN st 1 = st.take k := by rw [popN, hk]; rfl
    have e2 : topN st = st[k]?.getD 0 := by rw [topN, hk]; rfl
    have hd : doM c ⟨5, j, b⟩ ⟨(i : Int) + 1, fuel - 1, st, [r0, r1, r2, r3], ou, false, e0⟩ own = (⟨(i : Int) + 1, fuel - 1, st.take k, [r0, r1, r2, r3], ou, false, e0⟩, own.set j (putC (own[j]?.getD []) b (st[k]?.getD 0))) := by rw [← e1, ← e2]; rfl
    rw [hd]
    exact rstep5 (ra := ra) (nr := nr) (rc := rc) (wa := wa) (nw := nw) (wc := wc) (aa := aa) (na := na) (ac := ac) (cf := c.fuel) (ca := ca) (nc := nc) (cc := cc) (fuel := fuel) (sA := sA) (sc := sc) (r0 := r0) (r1 := r1) (r2 := r2) (r3 := r3) (oA := oA) (on := on) (oc := oc) (e0 := e0) (bA := bA) (bn := bn) (bc := bc) (k := k) (hk := by omega) (j := j) (b := b) (h8 := h8) (hj := by omega) (hbn := hbn.symm) (hb1000 := by omega) (l := c.code) (i := i) (st := st) (ou := ou) (own := own) (w := w) (hC := hcode) (hl := hlc) (hi := hi) (hic := hic) (hx := hx) (hM := hM) (hf := hf) (hf2 := hf2)
  · obtain ⟨h1, h2⟩ := harg rfl
    obtain ⟨k, rfl⟩ := Int.eq_ofNat_of_zero_le h1
    exact rstep6 (ra := ra) (nr := nr) (rc := rc) (wa := wa) (nw := nw) (wc := wc) (aa := aa) (na := na) (ac := ac) (cf := c.fuel) (ca := ca) (nc := nc) (cc := cc) (fuel := fuel) (sA := sA) (sn := sn) (sc := sc) (r0 := r0) (r1 := r1) (r2 := r2) (r3 := r3) (oA := oA) (on := on) (oc := oc) (e0 := e0) (bA := bA) (bn := bn) (bc := bc) (k := k) (b := b) (args := c.args) (hk := by omega) (hna := hC.la) (v := c.args[k]?.getD 0) (hv := rfl) (hA := hC.args) (hs := by omega) (l := c.code) (i := i) (st := st) (ou := ou) (own := own) (w := w) (hC := hcode) (hl := hlc) (hi := hi) (hic := hic) (hx := hx) (hM := hM) (hf := hf) (hf2 := hf2)
  · have ha := hway (.inl rfl)
    obtain ⟨k, hk⟩ : ∃ k, st.length = k + 1 := ⟨st.length - 1, by simp [offN] at hoff; omega⟩
    obtain rfl : sn = k + 1 := by omega
    have e1 : popN st 1 = st.take k := by rw [popN, hk]; rfl
    have e2 : topN st = st[k]?.getD 0 := by rw [topN, hk]; rfl
    by_cases h0 : st[k]?.getD 0 = 0
    · have hd : doM c ⟨13, a, b⟩ ⟨(i : Int) + 1, fuel - 1, st, [r0, r1, r2, r3], ou, false, e0⟩ own = (⟨(i : Int) + 1 + a, fuel - 1, st.take k, [r0, r1, r2, r3], ou, false, e0⟩, own) := by
        rw [← e1]
        simp [doM, e2, h0]
      rw [hd]
      exact rstep13_0 (ra := ra) (nr := nr) (rc := rc) (wa := wa) (nw := nw) (wc := wc) (aa := aa) (na := na) (ac := ac) (cf := c.fuel) (ca := ca) (nc := nc) (cc := cc) (fuel := fuel) (sA := sA) (sc := sc) (r0 := r0) (r1 := r1) (r2 := r2) (r3 := r3) (oA := oA) (on := on) (oc := oc) (e0 := e0) (bA := bA) (bn := bn) (bc := bc) (k := k) (hk := by omega) (a := a) (b := b) (h0 := h0) (ha := ha) (l := c.code) (i := i) (st := st) (ou := ou) (own := own) (w := w) (hC := hcode) (hl := hlc) (hi := hi) (hic := hic) (hx := hx) (hM := hM) (hf := hf) (hf2 := hf2)
    · have hd : doM c ⟨13, a, b⟩ ⟨(i : Int) + 1, fuel - 1, st, [r0, r1, r2, r3], ou, false, e0⟩ own = (⟨(i : Int) + 1, fuel - 1, st.take k, [r0, r1, r2, r3], ou, false, e0⟩, own) := by
        rw [← e1]
        simp [doM, e2, h0]
      rw [hd]
      exact rstep13_1 (ra := ra) (nr := nr) (rc := rc) (wa := wa) (nw := nw) (wc := wc) (aa := aa) (na := na) (ac := ac) (cf := c.fuel) (ca := ca) (nc := nc) (cc := cc) (fuel := fuel) (sA := sA) (sc := sc) (r0 := r0) (r1 := r1) (r2 := r2) (r3 := r3) (oA := oA) (on := on) (oc := oc) (e0 := e0) (bA := bA) (bn := bn) (bc := bc) (k := k) (hk := by omega) (a := a) (b := b) (h0 := h0) (l := c.code) (i := i) (st := st) (ou := ou) (own := own) (w := w) (hC := hcode) (hl := hlc) (hi := hi) (hic := hic) (hx := hx) (hM := hM) (hf := hf) (hf2 := hf2)
  · exact rstep14 (ra := ra) (nr := nr) (rc := rc) (wa := wa) (nw := nw) (wc := wc) (aa := aa) (na := na) (ac := ac) (cf := c.fuel) (ca := ca) (nc := nc) (cc := cc) (fuel := fuel) (sA := sA) (sn := sn) (sc := sc) (r0 := r0) (r1 := r1) (r2 := r2) (r3 := r3) (oA := oA) (on := on) (oc := oc) (e0 := e0) (bA := bA) (bn := bn) (bc := bc) (a := a) (b := b) (ha := hway (.inr rfl)) (l := c.code) (i := i) (st := st) (ou := ou) (own := own) (w := w) (hC := hcode) (hl := hlc) (hi := hi) (hic := hic) (hx := hx) (hM := hM) (hf := hf) (hf2 := hf2)
  · obtain ⟨k, hk⟩ : ∃ k, st.length = k + 1 := ⟨st.length - 1, by simp [offN] at hoff; omega⟩
    obtain rfl : sn = k + 1 := by omega
    have e1 : popN st 1 = st.take k := by rw [popN, hk]; rfl
    have e2 : topN st = st[k]?.getD 0 := by rw [topN, hk]; rfl
    have hd : doM c ⟨15, a, b⟩ ⟨(i : Int) + 1, fuel - 1, st, [r0, r1, r2, r3], ou, false, e0⟩ own = (⟨(i : Int) + 1, fuel - 1, st.take k, [r0, r1, r2, r3], ou ++ [st[k]?.getD 0], false, e0⟩, own) := by rw [← e1, ← e2]; rfl
    rw [hd]
    exact rstep15 (ra := ra) (nr := nr) (rc := rc) (wa := wa) (nw := nw) (wc := wc) (aa := aa) (na := na) (ac := ac) (cf := c.fuel) (ca := ca) (nc := nc) (cc := cc) (fuel := fuel) (sA := sA) (sc := sc) (r0 := r0) (r1 := r1) (r2 := r2) (r3 := r3) (oA := oA) (on := on) (oc := oc) (e0 := e0) (bA := bA) (bn := bn) (bc := bc) (k := k) (hk := by omega) (a := a) (b := b) (hon := by omega) (l := c.code) (i := i) (st := st) (ou := ou) (own := own) (w := w) (hC := hcode) (hl := hlc) (hi := hi) (hic := hic) (hx := hx) (hM := hM) (hf := hf) (hf2 := hf2)
  · exact rstep16 (ra := ra) (nr := nr) (rc := rc) (wa := wa) (nw := nw) (wc := wc) (aa := aa) (na := na) (ac := ac) (cf := c.fuel) (ca := ca) (nc := nc) (cc := cc) (fuel := fuel) (sA := sA) (sn := sn) (sc := sc) (r0 := r0) (r1 := r1) (r2 := r2) (r3 := r3) (oA := oA) (on := on) (oc := oc) (e0 := e0) (bA := bA) (bn := bn) (bc := bc) (a := a) (b := b) (l := c.code) (i := i) (st := st) (ou := ou) (own := own) (w := w) (hC := hcode) (hl := hlc) (hi := hi) (hic := hic) (hx := hx) (hM := hM) (hf := hf) (hf2 := hf2)
  · exact rstep17 (ra := ra) (nr := nr) (rc := rc) (wa := wa) (nw := nw) (wc := wc) (aa := aa) (na := na) (ac := ac) (cf := c.fuel) (ca := ca) (nc := nc) (cc := cc) (fuel := fuel) (sA := sA) (sn := sn) (sc := sc) (r0 := r0) (r1 := r1) (r2 := r2) (r3 := r3) (oA := oA) (on := on) (oc := oc) (e0 := e0) (bA := bA) (bn := bn) (bc := bc) (a := a) (b := b) (l := c.code) (i := i) (st := st) (ou := ou) (own := own) (w := w) (hC := hcode) (hl := hlc) (hi := hi) (hic := hic) (hx := hx) (hM := hM) (hf := hf) (hf2 := hf2)
  · have hoff2 : offN op = 2 := by unfold offN; rw [if_neg (by omega), if_pos hop]
    obtain ⟨k, hk⟩ : ∃ k, st.length = k + 2 := ⟨st.length - 2, by omega⟩
    obtain rfl : sn = k + 2 := by omega
    have e1 : popN st 2 = st.take k := by rw [popN, hk]; rfl
    have e2 : topN st = st[k + 1]?.getD 0 := by rw [topN, hk]; rfl
    have e3 : nextTop st = st[k]?.getD 0 := by rw [nextTop, hk]; rfl
    have e0' : doM c ⟨op, a, b⟩ ⟨(i : Int) + 1, fuel - 1, st, [r0, r1, r2, r3], ou, false, e0⟩ own = (match twoN op (nextTop st) (topN st) with
      | none => (overM ⟨(i : Int) + 1, fuel - 1, st, [r0, r1, r2, r3], ou, false, e0⟩ 12, own)
      | some n => (⟨(i : Int) + 1, fuel - 1, popN st 2 ++ [n], [r0, r1, r2, r3], ou, false, e0⟩, own)) := by
      unfold doM
      simp only
      rw [if_neg (by omega), if_neg (by omega), if_neg (by omega), if_neg (by omega), if_neg (by omega), if_neg (by omega), if_neg (by omega), if_neg (by omega), if_neg (by omega), if_neg (by omega), if_neg (by omega)] <;> rfl
    cases ht : twoN op (st[k]?.getD 0) (st[k + 1]?.getD 0) with
    | none =>
      have hd : doM c ⟨op, a, b⟩ ⟨(i : Int) + 1, fuel - 1, st, [r0, r1, r2, r3], ou, false, e0⟩ own = (⟨(i : Int) + 1, fuel - 1, st, [r0, r1, r2, r3], [], true, 12⟩, own) := by
        rw [e0', e2, e3, ht]
        rfl
      rw [hd]
      exact rstep_nought (ra := ra) (nr := nr) (rc := rc) (wa := wa) (nw := nw) (wc := wc) (aa := aa) (na := na) (ac := ac) (cf := c.fuel) (ca := ca) (nc := nc) (cc := cc) (fuel := fuel) (sA := sA) (sc := sc) (r0 := r0) (r1 := r1) (r2 := r2) (r3 := r3) (oA := oA) (on := on) (oc := oc) (e0 := e0) (bA := bA) (bn := bn) (bc := bc) (k := k) (hk := by omega) (op := op) (a := a) (b := b) (hop := hop) (ht := ht) (l := c.code) (i := i) (st := st) (ou := ou) (own := own) (w := w) (hC := hcode) (hl := hlc) (hi := hi) (hic := hic) (hx := hx) (hM := hM) (hf := hf) (hf2 := hf2)
    | some n =>
      have hd : doM c ⟨op, a, b⟩ ⟨(i : Int) + 1, fuel - 1, st, [r0, r1, r2, r3], ou, false, e0⟩ own = (⟨(i : Int) + 1, fuel - 1, st.take k ++ [n], [r0, r1, r2, r3], ou, false, e0⟩, own) := by
        rw [e0', e2, e3, ht, ← e1]
      rw [hd]
      exact rstep_two (ra := ra) (nr := nr) (rc := rc) (wa := wa) (nw := nw) (wc := wc) (aa := aa) (na := na) (ac := ac) (cf := c.fuel) (ca := ca) (nc := nc) (cc := cc) (fuel := fuel) (sA := sA) (sc := sc) (r0 := r0) (r1 := r1) (r2 := r2) (r3 := r3) (oA := oA) (on := on) (oc := oc) (e0 := e0) (bA := bA) (bn := bn) (bc := bc) (k := k) (hk := by omega) (op := op) (a := a) (b := b) (hop := hop) (n := n) (ht := ht) (l := c.code) (i := i) (st := st) (ou := ou) (own := own) (w := w) (hC := hcode) (hl := hlc) (hi := hi) (hic := hic) (hx := hx) (hM := hM) (hf := hf) (hf2 := hf2)

set_option maxHeartbeats 2000000 in
/-- a step. -/
theorem rstep_any (c : Cmd) (m : Mac) (own : Blks) (w : World) (hf : Fit c m own) (hC : CmIn w c ra nr rc wa nw wc aa na ac ca nc cc) (hM : MIn w m.stack m.out own sA sn sc oA on oc bA bn bc) :
    Calls Try.prog 37 #[cmV ra nr rc wa nw wc aa na ac c.fuel ca nc cc, mM m sA sn sc oA on oc, .slice bA bn bc] w (RMacPost (stepM c m own) sA sn oA on bA bn w) := by
  obtain ⟨l1, l2, l3⟩ := hM.lens hf.cells
  obtain ⟨pc, fuel, st, regs, ou, ov, e0⟩ := m
  have h4 := four_of hf.regs
  simp only at h4 l1 l2
  generalize rg regs 0 = r0 at *
  generalize rg regs 1 = r1 at *
  generalize rg regs 2 = r2 at *
  generalize rg regs 3 = r3 at *
  subst h4
  have d1 := hf.deep
  have d2 := hf.outs
  have d3 := hf.many
  have d4 := hf.fuel
  have d5 := hC.bc
  have d6 := hC.lc
  simp only at d1 d2 d3 d4
  cases ov with
  | true =>
    rw [step_over rfl]
    exact rstep_over (ra := ra) (nr := nr) (rc := rc) (wa := wa) (nw := nw) (wc := wc) (aa := aa) (na := na) (ac := ac) (cf := c.fuel) (ca := ca) (nc := nc) (cc := cc) (fuel := fuel) (sA := sA) (sn := sn) (sc := sc) (r0 := r0) (r1 := r1) (r2 := r2) (r3 := r3) (oA := oA) (on := on) (oc := oc) (e0 := e0) (bA := bA) (bn := bn) (bc := bc) (pc := pc) (st := st) (ou := ou) (own := own) (w := w) (hM := hM)
  | false =>
    by_cases h0 : fuel = 0
    · rw [step_empty rfl h0]
      subst h0
      exact rstep_nofuel (ra := ra) (nr := nr) (rc := rc) (wa := wa) (nw := nw) (wc := wc) (aa := aa) (na := na) (ac := ac) (cf := c.fuel) (ca := ca) (nc := nc) (cc := cc) (sA := sA) (sn := sn) (sc := sc) (r0 := r0) (r1 := r1) (r2 := r2) (r3 := r3) (oA := oA) (on := on) (oc := oc) (e0 := e0) (bA := bA) (bn := bn) (bc := bc) (pc := pc) (st := st) (ou := ou) (own := own) (w := w) (hM := hM)
    · rw [step_goes rfl h0]
      obtain ⟨g1, g2, g3, g4⟩ := hf.goes rfl h0
      simp only at g1 g2 g4
      obtain ⟨i, rfl⟩ := Int.eq_ofNat_of_zero_le g1
      rw [Int.toNat_natCast] at g4
      exact rstep_goes ra nr rc wa nw wc aa na ac ca nc cc sA sn sc oA on oc bA bn bc c i fuel st ou r0 r1 r2 r3 e0 own w (insAt c.code i) rfl (by omega) (by omega) g4 h0 d4 d1 d2 hf.cells d3 l1 l2 l3 hC hM

end
end Go.Proofs.Ytibmfhmeoohdeaa
