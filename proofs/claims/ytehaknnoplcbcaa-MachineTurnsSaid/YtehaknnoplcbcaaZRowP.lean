/-
  A statement whose order is open that appends to two rows of its own, each once: what its operations leave. It names no function of the program. No conditions but those that stand there.
-/
import Derived.Test.YtehaknnoplcbcaaQRely
import Derived.Test.YtehaknnoplcbcaaZRowX
import Derived.Test.YtehaknnoplcbcaaQRowT
namespace Go.Proofs.Ytehaknnoplcbcaa
open Go Go.RowKit

/-- cells laid into a row, from element n on. -/
def putN (s n : Nat) (cur : Array Value) (us : List Value) : Array Value := (cur.toList.take (n * s) ++ us ++ cur.toList.drop (n * s + us.length)).toArray

section
variable {s n : Nat} {cur : Array Value} {us : List Value}
theorem putN_size (h : n * s + us.length ≤ cur.size) : (putN s n cur us).size = cur.size := by
  simp only [putN, List.size_toArray, List.length_append, List.length_take, List.length_drop, Array.length_toList]
  omega
theorem putN_head (h : n * s + us.length ≤ cur.size) : (putN s n cur us).toList.take (n * s + us.length) = cur.toList.take (n * s) ++ us := by
  have hl : (cur.toList.take (n * s) ++ us).length = n * s + us.length := by
    simp only [List.length_append, List.length_take, Array.length_toList]
    omega
  rw [putN, ← hl]
  exact List.take_left
theorem putN_low {k : Nat} (hk : k ≤ n * s) (h : n * s + us.length ≤ cur.size) : (putN s n cur us).toList.take k = cur.toList.take k := by
  have h1 := congrArg (List.take k) (putN_head h)
  rw [List.take_take, Nat.min_eq_left (by omega), List.take_append_of_le_length (by simp only [List.length_take, Array.length_toList]; omega), List.take_take, Nat.min_eq_left hk] at h1
  exact h1
theorem putN_rest (h : n * s + us.length ≤ cur.size) : (putN s n cur us).toList.drop (n * s + us.length) = cur.toList.drop (n * s + us.length) := by
  have hl : (cur.toList.take (n * s) ++ us).length = n * s + us.length := by
    simp only [List.length_append, List.length_take, Array.length_toList]
    omega
  show (cur.toList.take (n * s) ++ us ++ cur.toList.drop (n * s + us.length)).drop (n * s + us.length) = _
  rw [show n * s + us.length = (cur.toList.take (n * s) ++ us).length from hl.symm]
  rw [List.drop_left, hl]
theorem putN_twice (h : n * s + us.length ≤ cur.size) : putN s n (putN s n cur us) us = putN s n cur us := by
  have h1 := putN_low (k := n * s) (Nat.le_refl _) h
  have h2 := putN_rest h
  rw [putN, h1, h2]
  rfl
end

/-- All but two rows is as it was; they are as they were, or with 'us' behind so many. -/
structure TwoR (e : TypeId) (s gc n1 gd n2 : Nat) (us : List Value) (x y : World) : Prop where
  os : y.os = x.os
  tape : y.tape = x.tape
  output : y.output = x.output
  size : x.heap.size ≤ y.heap.size
  block : ∀ k, k < x.heap.size → k ≠ gc → k ≠ gd → y.heap[k]? = x.heap[k]?
  one : ∀ cur, Bk x gc e cur → Bk y gc e cur ∨ (n1 * s + us.length ≤ cur.size ∧ Bk y gc e (putN s n1 cur us))
  two : ∀ cur, Bk x gd e cur → Bk y gd e cur ∨ (n2 * s + us.length ≤ cur.size ∧ Bk y gd e (putN s n2 cur us))

section
variable {e : TypeId} {s gc n1 gd n2 : Nat} {us : List Value}
theorem TwoR.refl (x : World) : TwoR e s gc n1 gd n2 us x x := ⟨rfl, rfl, rfl, Nat.le_refl _, fun _ _ _ _ => rfl, fun _ h => .inl h, fun _ h => .inl h⟩
theorem TwoR.trans (a b c : World) (h : TwoR e s gc n1 gd n2 us a b) (k : TwoR e s gc n1 gd n2 us b c) : TwoR e s gc n1 gd n2 us a c := by
  refine ⟨k.os.trans h.os, k.tape.trans h.tape, k.output.trans h.output, Nat.le_trans h.size k.size, fun i hi p q => (k.block i (Nat.lt_of_lt_of_le hi h.size) p q).trans (h.block i hi p q), fun cur hb => ?_, fun cur hb => ?_⟩
  · rcases h.one cur hb with h1 | ⟨hs, h1⟩
    · exact k.one cur h1
    · rcases k.one _ h1 with h2 | ⟨_, h2⟩
      · exact .inr ⟨hs, h2⟩
      · rw [putN_twice hs] at h2
        exact .inr ⟨hs, h2⟩
  · rcases h.two cur hb with h1 | ⟨hs, h1⟩
    · exact k.two cur h1
    · rcases k.two _ h1 with h2 | ⟨_, h2⟩
      · exact .inr ⟨hs, h2⟩
      · rw [putN_twice hs] at h2
        exact .inr ⟨hs, h2⟩
theorem TwoR.of {x y : World} (h : Below x.heap.size x y) : TwoR e s gc n1 gd n2 us x y :=
  ⟨h.os, h.tape, h.output, h.size, fun k hk _ _ => h.block k hk, fun _ hb => .inl (hb.below h), fun _ hb => .inl (hb.below h)⟩
theorem TwoR.bk {x y : World} (h : TwoR e s gc n1 gd n2 us x y) {k : Nat} {t : TypeId} {cs : Array Value} (hk : Bk x k t cs) (p : k ≠ gc) (q : k ≠ gd) : Bk y k t cs := (h.block k hk.lt p q).trans hk
theorem TwoR.below {B : Nat} {a x y : World} (h : TwoR e s gc n1 gd n2 us x y) (hb : Below B a x) (h1 : B ≤ gc) (h2 : B ≤ gd) (hB : B ≤ x.heap.size) : Below B a y :=
  hb.trans ⟨h.os, h.tape, h.output, h.size, fun k hk => h.block k (by omega) (by omega) (by omega)⟩

theorem own_put {B : Nat} {k m : Nat} {y : World} {g cap : Nat} {cur : Array Value} {xs : List Value} (hl : xs.length = k * s) (hb : B ≤ g) (hnc : k ≤ cap) (hcm : cap ≤ maxLen) (hcs : cur.size = cap * s) (ht : cur.toList.take (k * s) = xs) (hs : m * s + us.length ≤ cur.size) (h : Bk y g e (putN s m cur us))
    (hk : k ≤ m ∨ (k * s = m * s + us.length ∧ ∃ ys, xs = ys ++ us ∧ ys.length = m * s)) : y.ownsRow B e s (.slice (some ⟨g, 0, none⟩) k cap) k xs := by
  refine ⟨hl, .inr ⟨g, cap, _, rfl, hb, h, hnc, hcm, by rw [putN_size hs]; exact hcs, ?_⟩⟩
  rcases hk with hk | ⟨hk, ys, rfl, hy⟩
  · rw [putN_low (Nat.mul_le_mul_right _ hk) hs, ht]
  · rw [hk, putN_head hs]
    congr 1
    have h1 : (cur.toList.take (k * s)).take (m * s) = cur.toList.take (m * s) := by rw [List.take_take, Nat.min_eq_left (by omega)]
    have h2 : (ys ++ us).take (m * s) = ys := by rw [← hy]; exact List.take_left
    rw [← h1, ht, h2]

/-- a row of one's own, kept: it ends where it may turn, or holds what it turns to. -/
theorem own_two {B k : Nat} {x y : World} {g cap : Nat} {xs : List Value} (h : x.ownsRow B e s (.slice (some ⟨g, 0, none⟩) k cap) k xs) (hT : TwoR e s gc n1 gd n2 us x y)
    (h1 : g = gc → k ≤ n1 ∨ (k * s = n1 * s + us.length ∧ ∃ ys, xs = ys ++ us ∧ ys.length = n1 * s)) (h2 : g = gd → k ≤ n2 ∨ (k * s = n2 * s + us.length ∧ ∃ ys, xs = ys ++ us ∧ ys.length = n2 * s)) : y.ownsRow B e s (.slice (some ⟨g, 0, none⟩) k cap) k xs := by
  obtain ⟨hl, hh⟩ := h
  rcases hh with ⟨h0, _⟩ | ⟨g', cap', cur, hv, hb, hg, hnc, hcm, hcs, ht⟩
  · cases h0
  · injection hv with hA _ hc
    injection hA with hA
    injection hA with hA
    subst hA
    subst hc
    by_cases e1 : g = gc
    · subst e1
      rcases hT.one cur hg with hy | ⟨hs, hy⟩
      · exact ⟨hl, .inr ⟨g, cap, cur, rfl, hb, hy, hnc, hcm, hcs, ht⟩⟩
      · exact own_put hl hb hnc hcm hcs ht hs hy (h1 rfl)
    · by_cases e2 : g = gd
      · subst e2
        rcases hT.two cur hg with hy | ⟨hs, hy⟩
        · exact ⟨hl, .inr ⟨g, cap, cur, rfl, hb, hy, hnc, hcm, hcs, ht⟩⟩
        · exact own_put hl hb hnc hcm hcs ht hs hy (h2 rfl)
      · exact ⟨hl, .inr ⟨g, cap, cur, rfl, hb, (hT.block g (Bk.lt (t := e) (cs := cur) hg) e1 e2).trans hg, hnc, hcm, hcs, ht⟩⟩
end

/-- append of one element to a row of one's own: in its place, or a new row. -/
theorem run_append_put {P : Program} (w : World) (t ty : TypeId) (B : Nat) (e : TypeId) (i : TypeInfo) (z : Value) (size bytes : Nat) (ht : P.underlying t = some (.slice e)) (hi : P.info? e = some i) (hz : i.zero = some z)
    (hsize : i.size = size) (hby : i.bytes = bytes) (hzs : z.cells.size = size) (hsz : 0 < size) (hB : B ≤ w.heap.size)
    (g n c : Nat) (xs : List Value) (ho : w.ownsRow B e size (.slice (some ⟨g, 0, none⟩) n c) n xs) (us : List Value) (hu : us.length = size) (q : Nat) (hq : Bk w q e us.toArray) (h1 : ∀ u ∈ us, u.oneCell' = true) (hn : n + 1 ≤ maxLen) (hbytes : (n + 1) * bytes ≤ 140737488355328) :
    ∃ g' c' w', (Builtin.append_ #[t, t] ty #[.slice (some ⟨g, 0, none⟩) n c, .slice (some ⟨q, 0, none⟩) 1 1]).run P w = .ok (.slice (some ⟨g', 0, none⟩) (n + 1) c') w' ∧ w'.ownsRow B e size (.slice (some ⟨g', 0, none⟩) (n + 1) c') (n + 1) (xs ++ us) ∧
      ((g' = g ∧ ∃ cur, Bk w g e cur ∧ n * size + us.length ≤ cur.size ∧ w' = w.setRow g (putN size n cur us)) ∨ (g' = w.heap.size ∧ Below w.heap.size w w')) := by
  have hnews : ∀ j v, us[j]? = some v → w.cell? ((⟨q, 0, none⟩ : Addr).add j) = some v := fun j v hv => World.news_of_block (cs := us.toArray) hq j v hv
  obtain ⟨v', w', hr, hown, -, -⟩ := run_append_own (P := P) w B t ty e i z size bytes ht hi hz hsize hby hzs hsz _ n xs ho ⟨q, 0, none⟩ 1 1 us (by omega) hnews h1 hn hbytes hB
  rcases ho.2 with ⟨h0, _⟩ | ⟨g', cap, cur, hv, hbg, hg, hnc, hcm, hcs, htake⟩
  · cases h0
  · injection hv with hA _ hc
    injection hA with hA
    injection hA with hA
    subst hA
    subst hc
    by_cases hroom : n + 1 ≤ c
    · have hfit : n * i.size + us.length ≤ cur.size := by rw [hsize, hu, hcs, ← Nat.succ_mul]; exact Nat.mul_le_mul_right _ hroom
      have hr2 := run_append_room (P := P) w t ty e i ht hi g n c cur hg ⟨q, 0, none⟩ 1 1 us (by rw [hsize]; omega) hnews h1 hroom hfit
      rw [hr] at hr2
      injection hr2 with e1 e2
      subst e1
      subst e2
      refine ⟨g, c, _, hr, hown, .inl ⟨rfl, cur, hg, by rw [hsize] at hfit; exact hfit, ?_⟩⟩
      rw [putN, hsize]
    · have hold : ∀ j v, xs[j]? = some v → w.cell? ((⟨g, 0, none⟩ : Addr).add j) = some v := ho.cells (g := g) rfl
      have hbt : (n + 1) * i.bytes ≤ 140737488355328 := by rw [hby]; exact hbytes
      have hr2 := run_append_grow (P := P) w t ty e i z ht hi hz ⟨g, 0, none⟩ n c xs (by rw [hsize]; exact ho.1) hold ⟨q, 0, none⟩ 1 1 us (by rw [hsize]; omega) hnews (by omega) (by unfold maxLen at hn; omega) (growslice_fits (by omega) hbt)
      rw [hr] at hr2
      injection hr2 with e1 e2
      subst e1
      subst e2
      exact ⟨_, _, _, hr, hown, .inr ⟨rfl, (below_drew1 w).alloc (by simp) _⟩⟩

section
variable {e : TypeId} {s gc n1 gd n2 : Nat} {us : List Value}
theorem TwoR.setOne {x : World} {cur : Array Value} (hne : gc ≠ gd) (hg : Bk x gc e cur) (hs : n1 * s + us.length ≤ cur.size) : TwoR e s gc n1 gd n2 us x (x.setRow gc (putN s n1 cur us)) :=
  ⟨rfl, rfl, rfl, by simp, fun k _ p _ => setRow_other x gc k _ p, fun cur' hb => by
    have heq : cur' = cur := by
      have h2 := hg
      unfold Bk at hb h2
      rw [h2] at hb
      injection hb with hb
      injection hb with hb
      exact hb.symm
    subst heq
    exact .inr ⟨hs, setRow_heap x gc cur' _ e _ hg⟩, fun cur' hb => .inl ((setRow_other x gc gd _ (Ne.symm hne)).trans hb)⟩
theorem TwoR.setTwo {x : World} {cur : Array Value} (hne : gc ≠ gd) (hg : Bk x gd e cur) (hs : n2 * s + us.length ≤ cur.size) : TwoR e s gc n1 gd n2 us x (x.setRow gd (putN s n2 cur us)) :=
  ⟨rfl, rfl, rfl, by simp, fun k _ _ q => setRow_other x gd k _ q, fun cur' hb => .inl ((setRow_other x gd gc _ hne).trans hb), fun cur' hb => by
    have heq : cur' = cur := by
      have h2 := hg
      unfold Bk at hb h2
      rw [h2] at hb
      injection hb with hb
      injection hb with hb
      exact hb.symm
    subst heq
    exact .inr ⟨hs, setRow_heap x gd cur' _ e _ hg⟩⟩
end

/-- rows with unlike first cells lie apart. -/
theorem own_unlike {w : World} {B B' : Nat} {e : TypeId} {s n m c c' g h : Nat} {xs ys : List Value} (hx : w.ownsRow B e s (.slice (some ⟨g, 0, none⟩) n c) n xs) (hy : w.ownsRow B' e s (.slice (some ⟨h, 0, none⟩) m c') m ys) {a b : Value} (ha : xs[0]? = some a) (hb : ys[0]? = some b) (hne : a ≠ b) : g ≠ h := by
  rintro rfl
  have h1 := hx.cells (g := g) rfl 0 a ha
  have h2 := hy.cells (g := g) rfl 0 b hb
  rw [h1] at h2
  exact hne (Option.some.inj h2)

end Go.Proofs.Ytehaknnoplcbcaa
