/-
  Who is left, by places; a row of one's own of places. No conditions but those that stand there.
-/
import Derived.Test.YtcffmkphfahapaaZLckV
import Derived.Test.YtcffmkphfahapaaZLckG
import Derived.Test.YtcffmkphfahapaaZRowN
namespace Go.Proofs.Ytcffmkphfahapaa
open Go.RowKit Go.Shelf

/-- those at these places, each with its number. -/
def whoF (l : List CmL) (lf : List Nat) : Who := lf.map fun j => (((j : Nat) : Int) + 1, (l[j]?.getD default).c)
theorem whoF_range (l : List CmL) (n : Nat) : whoF l (List.range n) = whoN l n := rfl
theorem whoF_length (l : List CmL) (lf : List Nat) : (whoF l lf).length = lf.length := by simp [whoF]
theorem whoF_one {l : List CmL} {lf : List Nat} {q : Int × Cmd} (hq : q ∈ whoF l lf) {j : Nat} {x : CmL} (hx : l[j]? = some x) (e : q.1 = (j : Int) + 1) : q.2 = x.c := by
  obtain ⟨i, -, rfl⟩ := List.mem_map.1 hq
  simp only at e ⊢
  obtain rfl : i = j := by omega
  rw [hx]
  rfl
theorem split_at {lf : List Nat} {k j : Nat} (hk : lf[k]? = some j) : lf = lf.take k ++ j :: lf.drop (k + 1) := by
  have hl : k < lf.length := by
    rcases Nat.lt_or_ge k lf.length with q | q
    · exact q
    · rw [List.getElem?_eq_none q] at hk; cases hk
  have e : j = lf[k] := by rw [List.getElem?_eq_getElem hl] at hk; injection hk with hk; exact hk.symm
  rw [e, ← List.drop_eq_getElem_cons hl, List.take_append_drop]
theorem left_nodup {lf : List Nat} {k j : Nat} (hk : lf[k]? = some j) (h : lf.Nodup) : (lf.take k ++ lf.drop (k + 1)).Nodup ∧ j ∉ lf.take k ++ lf.drop (k + 1) := by
  have h' := h
  rw [split_at hk] at h'
  rw [List.nodup_append] at h'
  obtain ⟨h1, h2, h3⟩ := h'
  rw [List.nodup_cons] at h2
  refine ⟨List.nodup_append.2 ⟨h1, h2.2, fun a ha b hb => h3 a ha b (List.mem_cons_of_mem _ hb)⟩, fun hm => ?_⟩
  rcases List.mem_append.1 hm with hm | hm
  · exact h3 j hm j (List.mem_cons_self ..) rfl
  · exact h2.1 hm
theorem left_length {lf : List Nat} {k j : Nat} (hk : lf[k]? = some j) : (lf.take k ++ lf.drop (k + 1)).length + 1 = lf.length := by
  have := congrArg List.length (split_at hk)
  rw [List.length_append, List.length_cons] at this
  rw [List.length_append]
  omega
theorem whoF_gone {l : List CmL} {lf : List Nat} {k j : Nat} (hk : lf[k]? = some j) (h : lf.Nodup) : (whoF l lf).filter (fun x => decide (x.1 ≠ (j : Int) + 1)) = whoF l (lf.take k ++ lf.drop (k + 1)) := by
  obtain ⟨-, h2⟩ := left_nodup hk h
  have h3 : ∀ m : List Nat, j ∉ m → (whoF l m).filter (fun x => decide (x.1 ≠ (j : Int) + 1)) = whoF l m := fun m hm => by
    rw [List.filter_eq_self]
    intro q hq
    obtain ⟨i, hi, rfl⟩ := List.mem_map.1 hq
    refine decide_eq_true fun e => hm ?_
    simp only at e
    obtain rfl : i = j := by omega
    exact hi
  rw [List.mem_append] at h2
  have e1 : whoF l lf = whoF l (lf.take k) ++ (((j : Int) + 1, (l[j]?.getD default).c) :: whoF l (lf.drop (k + 1))) := by
    have e := congrArg (whoF l) (split_at hk)
    rw [e]
    unfold whoF
    rw [List.map_append, List.map_cons]
  rw [e1, List.filter_append, List.filter_cons_of_neg (by simp), h3 _ (fun q => h2 (.inl q)), h3 _ (fun q => h2 (.inr q))]
  unfold whoF
  rw [List.map_append]
/-- the first one is ready. -/
theorem firstF_ready {l : List CmL} {lf : List Nat} {f : Nat} {x : CmL} (hf : lf[0]? = some f) (hx : l[f]? = some x) (hm : MayBe x.c) (hfit : fitsT x.c 6) : readyL (lksW (whoF l lf) 6) x.c ((f : Int) + 1) = true := by
  rw [ready_W _ hm.sets hfit]
  cases lf with
  | nil => cases hf
  | cons g r =>
    simp at hf
    subst hf
    unfold whoF
    rw [List.map_cons, hx]
    exact ready_first _ _ _

/-- a row of one's own of places. -/
def nats (lf : List Nat) : List Value := lf.map fun j => .int .i64 ((j : Nat) : Int)
def OwnN (B : Nat) (w : World) (A : Option Addr) (m q : Nat) (lf : List Nat) : Prop := lf.length = m ∧ w.ownsRow B 3 1 (.slice A m q) m (nats lf)
theorem nats_one (lf : List Nat) : ∀ u ∈ nats lf, u.oneCell' = true := by
  intro u hu
  obtain ⟨j, -, rfl⟩ := List.mem_map.1 hu
  rfl
theorem nats_append (a b : List Nat) : nats (a ++ b) = nats a ++ nats b := by simp [nats]
theorem OwnN.below {B : Nat} {w w' : World} {A : Option Addr} {m q : Nat} {lf : List Nat} (h : OwnN B w A m q lf) (hb : Below w.heap.size w w') : OwnN B w' A m q lf := ⟨h.1, own_below h.2 hb⟩
theorem OwnN.nil (B : Nat) (w : World) : OwnN B w none 0 0 [] := ⟨rfl, rfl, .inl ⟨rfl, rfl⟩⟩
theorem OwnN.cap {B : Nat} {w : World} {A : Option Addr} {m q : Nat} {lf : List Nat} (h : OwnN B w A m q lf) : m ≤ q := (Sl.own' h.2).2.1
/-- where they lie, whatever has been made since. -/
theorem OwnN.lies {B : Nat} {w : World} {A : Option Addr} {m q : Nat} {lf : List Nat} (h : OwnN B w A m q lf) (hm : 0 < m) : ∃ b, A = some ⟨b, 0, none⟩ ∧ ∀ X, Below w.heap.size w X → b < X.heap.size ∧ ∀ i j, lf[i]? = some j → X.cell? ⟨b, i, none⟩ = some (.int .i64 ((j : Nat) : Int)) := by
  obtain ⟨b, cur, rfl, -⟩ := own_pos h.2 hm
  refine ⟨b, rfl, fun X hX => ?_⟩
  have ho := own_below h.2 hX
  obtain ⟨b', off', e, hb', hc⟩ := (Sl.own' ho).2.2.2 hm
  injection e with e
  injection e with e1 e2
  subst e1
  subst e2
  refine ⟨hb', fun i j hij => ?_⟩
  have hi : i < m := by
    rw [← h.1]
    rcases Nat.lt_or_ge i lf.length with q | q
    · exact q
    · rw [List.getElem?_eq_none q] at hij; cases hij
  have := hc i (by omega)
  rw [Nat.zero_add] at this
  rw [this]
  unfold nats
  rw [List.getElem?_map, hij]
  rfl
/-- the last ones, there or not. -/
theorem Sl.rest {w : World} {b off n k c : Nat} {xs : List Value} (h : Sl w 1 (some ⟨b, off, none⟩) n c xs) (hk : k ≤ n) : Sl w 1 (some ⟨b, off + k, none⟩) (n - k) (c - k) (xs.drop k) := by
  have hl := h.1
  have hc := h.2.1
  refine ⟨by simp; omega, by omega, (fun h => by cases h), fun hn => ?_⟩
  obtain ⟨b', off', e, hb, hv⟩ := h.2.2.2 (by omega)
  injection e with e
  injection e with e1 e2
  subst e1
  subst e2
  exact ⟨_, _, rfl, hb, fun j hj => by rw [List.getElem?_drop, Nat.add_assoc, hv (k + j) (by omega)]⟩

theorem OwnN.joined {B : Nat} {w : World} {A : Option Addr} {m q k k1 : Nat} {lf : List Nat} (hk : k1 = k + 1) (h : w.ownsRow B 3 1 (.slice A (k + (m - k1)) q) (k + (m - k1)) (nats (lf.take k) ++ (nats lf).drop k1)) (hl : (lf.take k ++ lf.drop k1).length + 1 = lf.length) (hm : lf.length = m) (hkm : k < m) : OwnN B w A (m - 1) q (lf.take k ++ lf.drop k1) := by
  have em : k + (m - k1) = m - 1 := by omega
  rw [em] at h
  refine ⟨by omega, ?_⟩
  rw [nats_append]
  unfold nats at h ⊢
  rw [List.map_drop]
  exact h

/-- where they begin, as a slice says it. -/
def restA (b q k : Nat) : Option Addr := if q = k then some ⟨b, 0, none⟩ else some ⟨b, k, none⟩
theorem Sl.restA {w : World} {b n k c : Nat} {xs : List Value} (h : Sl w 1 (some ⟨b, 0, none⟩) n c xs) (hk : k ≤ n) : Sl w 1 (Go.Proofs.Ytcffmkphfahapaa.restA b c k) (n - k) (c - k) (xs.drop k) := by
  unfold Go.Proofs.Ytcffmkphfahapaa.restA
  by_cases e : c = k
  · rw [if_pos e]
    have hl := h.1
    have hc := h.2.1
    exact ⟨by simp; omega, by omega, (fun h => by cases h), fun hn => absurd hn (by omega)⟩
  · rw [if_neg e]
    have := h.rest hk
    rwa [Nat.zero_add] at this

/-- lists of one's own as a word of what an operation leaves. -/
def lkoV (B n : Nat) (L : Lks) : Says := fun v w => ∃ A c, v = .slice A n c ∧ LkOwn B w A n c L
theorem lkoV_keep {B n : Nat} {L : Lks} (v : Value) (w w' : World) (hb : Below w.heap.size w w') (h : lkoV B n L v w) : lkoV B n L v w' := by
  obtain ⟨A, c, rfl, hO⟩ := h
  exact ⟨A, c, rfl, hO.below hb⟩
theorem LkPost.saysO {L : Lks} {n B : Nat} {w : World} {e : Ending} {w' : World} (h : LkPost L n w e w') (hB : B ≤ w.heap.size) : ∃ v, e = .returned v ∧ Below w.heap.size w w' ∧ lkoV B n L v w' := by
  obtain ⟨A, c, he, hO, hb⟩ := h
  exact ⟨_, he, hb, A, c, rfl, hO.lower hB⟩

theorem infoIntF : ∃ i, Try.prog.info? 3 = some i ∧ i.zero = some (.int .i64 0) ∧ i.size = 1 ∧ i.bytes = 8 := by
  have h : (Try.prog.info? 3).map (fun i => (i.zero, i.size, i.bytes)) = some (some (.int .i64 0), 1, 8) := by kernel_rfl
  cases hi : Try.prog.info? 3 with
  | none => rw [hi] at h; cases h
  | some i =>
    rw [hi] at h
    simp only [Option.map_some, Option.some.injEq, Prod.mk.injEq] at h
    exact ⟨i, rfl, h.1, h.2.1, h.2.2⟩

end Go.Proofs.Ytcffmkphfahapaa
