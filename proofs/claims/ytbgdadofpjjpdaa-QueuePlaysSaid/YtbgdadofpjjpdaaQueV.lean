/-
  Answers of the queue as words of what an operation leaves. No conditions but those that stand there.
-/
import Derived.Test.YtbgdadofpjjpdaaQueX
import Derived.Test.YtbgdadofpjjpdaaSaysK
import Derived.Test.YtbgdadofpjjpdaaActQ
namespace Go.Proofs.Ytbgdadofpjjpdaa
open Go.RowKit Go.Shelf

/-- a row of those who wait: a word of what an operation leaves. -/
def wnsV (B : Nat) (l : List Wnt) : Says := fun v w => ∃ A n c, v = .slice A n c ∧ OwnW B w A n c l
theorem wnsV_keep {B : Nat} {l : List Wnt} (v : Value) (w w' : World) (hb : Below w.heap.size w w') (h : wnsV B l v w) : wnsV B l v w' := by
  obtain ⟨A, n, c, rfl, hO⟩ := h
  exact ⟨A, n, c, rfl, hO.below hb⟩
def VPost (B : Nat) (l : List Wnt) (w : World) (e : Ending) (w' : World) : Prop := ∃ v, e = .returned v ∧ Below w.heap.size w w' ∧ wnsV B l v w'
theorem WnPost.says {B : Nat} {l : List Wnt} {w : World} {e : Ending} {w' : World} (hB : B ≤ w.heap.size) (h : WnPost l w e w') : VPost B l w e w' := by
  obtain ⟨A, n, c, he, hO, hb⟩ := h
  exact ⟨_, he, hb, A, n, c, rfl, hO.lower hB⟩
section
variable {B : Nat} {l : List Wnt} {A : Option Addr} {n c : Nat} {w : World}
theorem ask_V (h : Wnts w A c l) (hN : l.length = n) (hB : B ≤ w.heap.size) (hz : n ≤ 10000) (s : Int) (ex : Bool) : Calls Try.prog 8 #[.slice A n c, .int .i64 s, .bool ex] w (VPost B (askN l s ex) w) :=
  (ask_any l A n c s ex w h hN hz).mono fun _ _ h => h.says hB
theorem give_V (h : Wnts w A c l) (hN : l.length = n) (hB : B ≤ w.heap.size) (hz : n ≤ 10000) (s : Int) : Calls Try.prog 10 #[.slice A n c, .int .i64 s] w (VPost B (giveN l s) w) :=
  (give_any l A n c s w h hN hz).mono fun _ _ h => h.says hB
theorem rask_V (h : Wnts w A c l) (hN : l.length = n) (hB : B ≤ w.heap.size) (hz : n ≤ 10000) (s : Int) (ex : Bool) : Calls Try.prog 9 #[.slice A n c, .int .i64 s, .bool ex] w (VPost B (askN l s ex) w) :=
  (rask_any l A n c s ex w h hN hz).mono fun _ _ h => h.says hB
theorem rgive_V (h : Wnts w A c l) (hN : l.length = n) (hB : B ≤ w.heap.size) (hz : n ≤ 10000) (s : Int) : Calls Try.prog 11 #[.slice A n c, .int .i64 s] w (VPost B (giveN l s) w) :=
  (rgive_any l A n c s w h hN hz).mono fun _ _ h => h.says hB
end

/-- the pairs of two lists, the first so many. -/
def keysO (S : List Int) (E : List Bool) (i : Nat) : Keys := (List.range i).map fun j => (S[j]?.getD 0, E[j]?.getD false)
theorem keysO_length (S : List Int) (E : List Bool) (i : Nat) : (keysO S E i).length = i := by simp [keysO]
theorem keysO_succ (S : List Int) (E : List Bool) (i : Nat) : keysO S E i ++ [(S[i]?.getD 0, E[i]?.getD false)] = keysO S E (i + 1) := by simp [keysO, List.range_succ]
theorem keysO_at (S : List Int) (E : List Bool) {i n : Nat} (h : i < n) : (keysO S E n)[i]? = some (S[i]?.getD 0, E[i]?.getD false) := by simp [keysO, h]
theorem keysO_take (S : List Int) (E : List Bool) {i n : Nat} (h : i ≤ n) : (keysO S E n).take i = keysO S E i := by
  unfold keysO
  rw [← List.map_take, List.take_range, Nat.min_eq_left h]

/-- so many of the first so many stay. -/
def leftO (K : Keys) (s : Int) : Keys := K.filter fun x => decide (x.1 ≠ s)
theorem leftO_at {K : Keys} {i : Nat} {x : Int × Bool} {s : Int} (hx : K[i]? = some x) (hs : x.1 ≠ s) : (leftO K s)[(leftO (K.take i) s).length]? = some x := by
  have hi : i < K.length := by
    rcases Nat.lt_or_ge i K.length with h | h
    · exact h
    · rw [List.getElem?_eq_none h] at hx; cases hx
  have hd : K = K.take i ++ x :: K.drop (i + 1) := by
    have e : x = K[i] := by rw [List.getElem?_eq_getElem hi] at hx; injection hx with hx; exact hx.symm
    rw [e, ← List.drop_eq_getElem_cons hi, List.take_append_drop]
  unfold leftO
  obtain ⟨m, hm⟩ : ∃ m, m = ((K.take i).filter fun x => decide (x.1 ≠ s)).length := ⟨_, rfl⟩
  rw [← hm, hd, List.filter_append, List.getElem?_append_right (by omega), hm, Nat.sub_self, List.filter_cons_of_pos (by simpa using hs)]
  rfl
theorem leftO_yes {K : Keys} {i : Nat} {x : Int × Bool} {s : Int} (hx : K[i]? = some x) (hs : x.1 ≠ s) : (leftO (K.take (i + 1)) s).length = (leftO (K.take i) s).length + 1 := by
  unfold leftO
  rw [List.take_add_one, hx, List.filter_append, List.length_append]
  simp [hs]
theorem leftO_no {K : Keys} {i : Nat} {x : Int × Bool} {s : Int} (hx : K[i]? = some x) (hs : x.1 = s) : (leftO (K.take (i + 1)) s).length = (leftO (K.take i) s).length := by
  unfold leftO
  rw [List.take_add_one, hx, List.filter_append, List.length_append]
  simp [hs]

end Go.Proofs.Ytbgdadofpjjpdaa
