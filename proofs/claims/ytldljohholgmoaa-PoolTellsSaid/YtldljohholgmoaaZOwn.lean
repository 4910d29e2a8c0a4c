/-
  Rows of one's own that grow by one; a row of cells the first of which are filled. They name no function of the program. No conditions but those that stand there.
-/
import Derived.Test.YtldljohholgmoaaZWords
import Derived.Deep.OwnRows
import Derived.Deep.AppendLies
namespace Go.Proofs.Ytldljohholgmoaa
open Go.RowKit

theorem Bk.grown {w w' : World} {row : Option Nat} {g : Nat} {t : TypeId} {cs : Array Value} (h : Bk w g t cs) (hg : w.grownBy w' row) (hne : some g ≠ row) : Bk w' g t cs :=
  (hg.block g h.lt hne).trans h

theorem own_ge {w : World} {base : Nat} {e : TypeId} {size n : Nat} {v : Value} {xs : List Value} (h : w.ownsRow base e size v n xs) {g : Nat} (he : v.ownBlock = some g) : base ≤ g := by
  rcases h.2 with ⟨rfl, _⟩ | ⟨g', cap, cur, rfl, hb, _⟩
  · simp [Value.ownBlock] at he
  · simp [Value.ownBlock] at he
    omega

theorem own_ne {w : World} {base : Nat} {e : TypeId} {size n : Nat} {v : Value} {xs : List Value} (h : w.ownsRow base e size v n xs) {g : Nat} (hg : g < base) : v.ownBlock ≠ some g := by
  intro he
  have := own_ge h he
  omega

/-- append of one value that lies in a block of its own. -/
theorem append_one {P : Program} {ops : Array Oper} {rest : List Oper} {o : Oper} {a : Act} {w : World} {Q : Exit → Act → World → Prop} (hgd : o.guard = none) (s x : Operand) (t : TypeId)
    (ho : o.op = .call { callee := .builtin .append, args := #[s, x], argTypes := #[t, t] })
    (base : Nat) (e : TypeId) (i : TypeInfo) (z : Value) (bytes : Nat) (ht : P.underlying t = some (.slice e)) (hi : P.info? e = some i) (hz : i.zero = some z)
    (hsize : i.size = 1) (hby : i.bytes = bytes) (hzs : z.cells.size = 1)
    (v : Value) (n : Nat) (xs : List Value) (hs : a.eval s = v) (hown : w.ownsRow base e 1 v n xs)
    (b : Nat) (u : Value) (hx : a.eval x = .slice (some ⟨b, 0, none⟩) 1 1) (hb : Bk w b e #[u]) (h1 : u.oneCell' = true)
    (h63 : n + 1 ≤ maxLen) (hbytes : (n + 1) * bytes ≤ 140737488355328) (hbase : base ≤ w.heap.size)
    (h : ∀ v' w', w'.ownsRow base e 1 v' (n + 1) (xs ++ [u]) → w.grownBy w' v.ownBlock → wpList P ops Q rest (a.put o.dst v') w') : wpList P ops Q (o :: rest) a w :=
  wpList_append_own w hgd s x t ho base e i z 1 bytes ht hi hz hsize hby hzs (by decide) v n xs hs hown ⟨b, 0, none⟩ 1 1 [u] hx rfl
    (fun j y hy => by
      cases j with
      | zero =>
        simp at hy
        subst hy
        simpa [Addr.add_lit] using hb.cell 0
      | succ j => simp at hy)
    (fun y hy => by simp at hy; subst hy; exact h1) h63 hbytes hbase (fun v' w' h2 h3 _ => h v' w' h2 h3)

/-- the first i as x has them, the others as y. -/
def mixV (N i : Nat) (x y : Nat → Value) : Array Value := ((List.range N).map fun j => if j < i then x j else y j).toArray

theorem mixV_size (N i : Nat) (x y : Nat → Value) : (mixV N i x y).size = N := by simp [mixV]
theorem mixV_at (N i : Nat) (x y : Nat → Value) (j : Nat) (h : j < N) : (mixV N i x y)[j]? = some (if j < i then x j else y j) := by simp [mixV, h]
theorem mixV_set (N i : Nat) (x y : Nat → Value) (h : i < N) : (mixV N i x y).setIfInBounds i (x i) = mixV N (i + 1) x y := by
  apply Array.ext_getElem?
  intro j
  rw [Array.getElem?_setIfInBounds]
  by_cases hj : j < N
  · by_cases hij : i = j
    · subst hij
      rw [if_pos rfl, if_pos (by rw [mixV_size]; exact h), mixV_at _ _ _ _ _ h, if_pos (by omega)]
    · rw [if_neg hij, mixV_at _ _ _ _ _ hj, mixV_at _ _ _ _ _ hj]
      by_cases hji : j < i
      · rw [if_pos hji, if_pos (by omega)]
      · rw [if_neg hji, if_neg (by omega)]
  · rw [if_neg (by omega), Array.getElem?_eq_none (by rw [mixV_size]; omega), Array.getElem?_eq_none (by rw [mixV_size]; omega)]
theorem mixV_full (N : Nat) (x y : Nat → Value) : (mixV N N x y).toList = (List.range N).map x := by
  unfold mixV
  apply List.map_congr_left
  intro j hj
  rw [if_pos (by simpa using hj)]
theorem mixV_made (N : Nat) (x : Nat → Value) (z : Value) : madeCells #[z] N = mixV N 0 x (fun _ => z) := by
  apply Array.ext'
  rw [toList_madeCells_one]
  apply List.ext_getElem?
  intro j
  by_cases hj : j < N
  · simp [mixV, hj]
  · simp [mixV, hj]

/-- a block that is filled whole is a row of one's own. -/
theorem own_full {w : World} {g B N : Nat} {e : TypeId} {x y : Nat → Value} (h : Bk w g e (mixV N N x y)) (hB : B ≤ g) (hN : N ≤ maxLen) : w.ownsRow B e 1 (.slice (some ⟨g, 0, none⟩) N N) N ((List.range N).map x) := by
  refine ⟨by simp, .inr ⟨g, N, _, rfl, hB, h, Nat.le_refl _, hN, by rw [mixV_size]; omega, ?_⟩⟩
  rw [mixV_full, List.take_of_length_le (by simp)]

/-- a row of one's own lies in memory that is there. -/
theorem own_lt {w : World} {base : Nat} {e : TypeId} {size n : Nat} {v : Value} {xs : List Value} (h : w.ownsRow base e size v n xs) {g : Nat} (he : v.ownBlock = some g) : g < w.heap.size := by
  rcases h.2 with ⟨rfl, _⟩ | ⟨g', cap, cur, rfl, hb, hg, _⟩
  · simp [Value.ownBlock] at he
  · simp [Value.ownBlock] at he
    subst he
    exact Bk.lt (t := e) (cs := cur) hg

/-- a row of one's own stays so, where its block does. -/
theorem own_keep {w w' : World} {base : Nat} {e : TypeId} {size n : Nat} {v : Value} {xs : List Value} (h : w.ownsRow base e size v n xs) (hk : ∀ g, g < w.heap.size → v.ownBlock = some g → w'.heap[g]? = w.heap[g]?) : w'.ownsRow base e size v n xs := by
  have hlt : ∀ g, v.ownBlock = some g → g < w.heap.size := fun g hg => own_lt h hg
  obtain ⟨hl, hh⟩ := h
  refine ⟨hl, ?_⟩
  rcases hh with h0 | ⟨g, cap, cur, e1, hbg, hg, r⟩
  · exact .inl h0
  · refine .inr ⟨g, cap, cur, e1, hbg, ?_, r⟩
    have hb : v.ownBlock = some g := by rw [e1]; rfl
    rw [hk g (hlt g hb) hb]
    exact hg

/-- append of one element that lies in a block of its own, at the list of a plain region's operations. -/
theorem append_row {P : Program} {ops : Array Oper} {rest : List Oper} {o : Oper} {a : Act} {w : World} {Q : Exit → Act → World → Prop} (hgd : o.guard = none) (s x : Operand) (t : TypeId)
    (ho : o.op = .call { callee := .builtin .append, args := #[s, x], argTypes := #[t, t] })
    (base : Nat) (e : TypeId) (i : TypeInfo) (z : Value) (size bytes : Nat) (ht : P.underlying t = some (.slice e)) (hi : P.info? e = some i) (hz : i.zero = some z)
    (hsize : i.size = size) (hby : i.bytes = bytes) (hzs : z.cells.size = size) (hsz : 0 < size)
    (v : Value) (n : Nat) (xs : List Value) (hs : a.eval s = v) (hown : w.ownsRow base e size v n xs)
    (b : Nat) (us : Array Value) (hx : a.eval x = .slice (some ⟨b, 0, none⟩) 1 1) (hb : Bk w b e us) (hl : us.size = size) (h1 : us.toList.all Value.oneCell' = true)
    (h63 : n + 1 ≤ maxLen) (hbytes : (n + 1) * bytes ≤ 140737488355328) (hbase : base ≤ w.heap.size)
    (h : ∀ g cap w', w'.ownsRow base e size (.slice (some ⟨g, 0, none⟩) (n + 1) cap) (n + 1) (xs ++ us.toList) → w.grownBy w' v.ownBlock → wpList P ops Q rest (a.put o.dst (.slice (some ⟨g, 0, none⟩) (n + 1) cap)) w') : wpList P ops Q (o :: rest) a w :=
  wpList_append_lies w hgd s x t ho base e i z size bytes ht hi hz hsize hby hzs hsz v n xs hs hown ⟨b, 0, none⟩ 1 1 us.toList hx (by simpa using hl)
    (World.news_of_block hb) (fun u hu => List.all_eq_true.1 h1 u hu) Nat.one_pos h63 hbytes hbase _ rfl (fun g cap w' h2 h3 _ _ => h g cap w' h2 h3)

/-- the same at a step of a region that draws its order. -/
theorem step_row {P : Program} {ops : Array Oper} {o : Oper} {a : Act} {w : World} {K : Act → World → Prop} {Q : Exit → Act → World → Prop} {E : Prop} (hgd : o.guard = none) (s x : Operand) (t : TypeId)
    (ho : o.op = .call { callee := .builtin .append, args := #[s, x], argTypes := #[t, t] })
    (base : Nat) (e : TypeId) (i : TypeInfo) (z : Value) (size bytes : Nat) (ht : P.underlying t = some (.slice e)) (hi : P.info? e = some i) (hz : i.zero = some z)
    (hsize : i.size = size) (hby : i.bytes = bytes) (hzs : z.cells.size = size) (hsz : 0 < size)
    (v : Value) (n : Nat) (xs : List Value) (hs : a.eval s = v) (hown : w.ownsRow base e size v n xs)
    (b : Nat) (us : Array Value) (hx : a.eval x = .slice (some ⟨b, 0, none⟩) 1 1) (hb : Bk w b e us) (hl : us.size = size) (h1 : us.toList.all Value.oneCell' = true)
    (h63 : n + 1 ≤ maxLen) (hbytes : (n + 1) * bytes ≤ 140737488355328) (hbase : base ≤ w.heap.size)
    (h : ∀ g cap w', w'.ownsRow base e size (.slice (some ⟨g, 0, none⟩) (n + 1) cap) (n + 1) (xs ++ us.toList) → w.grownBy w' v.ownBlock → K (a.put o.dst (.slice (some ⟨g, 0, none⟩) (n + 1) cap)) w') :
    if Region.wanted o (yielded ops a.tmps) = true then Oper.wp P o a w K Q else E :=
  step_append_lies w hgd s x t ho base e i z size bytes ht hi hz hsize hby hzs hsz v n xs hs hown ⟨b, 0, none⟩ 1 1 us.toList hx (by simpa using hl)
    (World.news_of_block hb) (fun u hu => List.all_eq_true.1 h1 u hu) Nat.one_pos h63 hbytes hbase _ rfl (fun g cap w' h2 h3 _ _ => h g cap w' h2 h3)

end Go.Proofs.Ytldljohholgmoaa
