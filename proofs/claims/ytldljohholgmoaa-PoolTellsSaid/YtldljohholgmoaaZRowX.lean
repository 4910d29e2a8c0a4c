/-
  Rows of one's own, further: those that lie apart; appended to; cut short; a cell of theirs stored into. They name no function of the program. No conditions but those that stand there.
-/
import Derived.Test.YtldljohholgmoaaZOwn
namespace Go.Proofs.Ytldljohholgmoaa
open Go.RowKit

/-- append of one value that lies in a block of its own; the row's block is the old one or a new one. -/
theorem append_rowH {P : Program} {ops : Array Oper} {rest : List Oper} {o : Oper} {a : Act} {w : World} {Q : Exit → Act → World → Prop} (hgd : o.guard = none) (s x : Operand) (t : TypeId)
    (ho : o.op = .call { callee := .builtin .append, args := #[s, x], argTypes := #[t, t] })
    (base : Nat) (e : TypeId) (i : TypeInfo) (z : Value) (size bytes : Nat) (ht : P.underlying t = some (.slice e)) (hi : P.info? e = some i) (hz : i.zero = some z)
    (hsize : i.size = size) (hby : i.bytes = bytes) (hzs : z.cells.size = size) (hsz : 0 < size)
    (v : Value) (n : Nat) (xs : List Value) (hs : a.eval s = v) (hown : w.ownsRow base e size v n xs)
    (b : Nat) (us : Array Value) (hx : a.eval x = .slice (some ⟨b, 0, none⟩) 1 1) (hb : Bk w b e us) (hl : us.size = size) (h1 : us.toList.all Value.oneCell' = true)
    (h63 : n + 1 ≤ maxLen) (hbytes : (n + 1) * bytes ≤ 140737488355328) (hbase : base ≤ w.heap.size)
    (h : ∀ g cap w', w'.ownsRow base e size (.slice (some ⟨g, 0, none⟩) (n + 1) cap) (n + 1) (xs ++ us.toList) → w.grownBy w' v.ownBlock → (v.ownBlock = some g ∨ g = w.heap.size) → wpList P ops Q rest (a.put o.dst (.slice (some ⟨g, 0, none⟩) (n + 1) cap)) w') : wpList P ops Q (o :: rest) a w :=
  wpList_append_lies w hgd s x t ho base e i z size bytes ht hi hz hsize hby hzs hsz v n xs hs hown ⟨b, 0, none⟩ 1 1 us.toList hx (by simpa using hl)
    (World.news_of_block hb) (fun u hu => List.all_eq_true.1 h1 u hu) Nat.one_pos h63 hbytes hbase _ rfl (fun g cap w' h2 h3 h4 _ => h g cap w' h2 h3 h4)

theorem new_ne {w W : World} {B : Nat} {e : TypeId} {size n : Nat} {v u : Value} {xs : List Value} (h : w.ownsRow B e size u n xs) (hs : w.heap.size ≤ W.heap.size) {g : Nat} (hg : v.ownBlock = some g ∨ g = W.heap.size) (hne : ∀ k, v.ownBlock = some k → u.ownBlock ≠ some k) : u.ownBlock ≠ some g := by
  rcases hg with hg | hg
  · exact hne g hg
  · intro he
    have := own_lt h he
    omega

def newTo (v : Value) (w : World) : Prop := ∀ g, v.ownBlock = some g → w.heap.size ≤ g
def liesIn (v : Value) (w : World) : Prop := ∀ g, v.ownBlock = some g → g < w.heap.size
/-- two values that share no row. -/
def twain (x y : Value) : Prop := ∀ g, x.ownBlock = some g → y.ownBlock ≠ some g
theorem twain.symm {x y : Value} (h : twain x y) : twain y x := fun g hy hx => h g hx hy
theorem twain_new {x y : Value} {w : World} (hx : newTo x w) (hy : liesIn y w) : twain x y := fun g h1 h2 => by
  have := hx g h1
  have := hy g h2
  omega

theorem own_lies {w : World} {base : Nat} {e : TypeId} {size n : Nat} {v : Value} {xs : List Value} (h : w.ownsRow base e size v n xs) : liesIn v w := fun _ hg => own_lt h hg

theorem own_pos {w : World} {base : Nat} {e : TypeId} {size n c : Nat} {A : Option Addr} {xs : List Value} (h : w.ownsRow base e size (.slice A n c) n xs) (hn : 0 < n) : ∃ g cur, A = some ⟨g, 0, none⟩ ∧ base ≤ g ∧ Bk w g e cur ∧ n ≤ c ∧ c ≤ maxLen ∧ cur.size = c * size ∧ cur.toList.take (n * size) = xs := by
  rcases h.2 with ⟨_, h0⟩ | ⟨g, cap, cur, hv, hb, hg, hnc, hcm, hcs, ht⟩
  · omega
  · injection hv with h1 _ h3
    subst h3
    exact ⟨g, cur, h1, hb, hg, hnc, hcm, hcs, ht⟩

/-- the first k of it. -/
theorem own_take {w : World} {base : Nat} {e : TypeId} {size n c : Nat} {A : Option Addr} {xs : List Value} (h : w.ownsRow base e size (.slice A n c) n xs) {k : Nat} (hk : k ≤ n) : w.ownsRow base e size (.slice A k c) k (xs.take (k * size)) := by
  have hle : k * size ≤ n * size := Nat.mul_le_mul_right _ hk
  refine ⟨by rw [List.length_take, h.1]; omega, ?_⟩
  rcases h.2 with ⟨h', h0⟩ | ⟨g, cap, cur, hv, hb, hg, hnc, hcm, hcs, ht⟩
  · injection h' with h1 _ h3
    subst h1
    subst h3
    exact .inl ⟨by rw [show k = 0 by omega], by omega⟩
  · injection hv with h1 _ h3
    subst h1
    subst h3
    exact .inr ⟨g, _, cur, rfl, hb, hg, by omega, hcm, hcs, by rw [← ht, List.take_take, Nat.min_eq_left hle]⟩

theorem own_lower {w : World} {base base' : Nat} {e : TypeId} {size n : Nat} {v : Value} {xs : List Value} (h : w.ownsRow base e size v n xs) (hb : base' ≤ base) : w.ownsRow base' e size v n xs := by
  refine ⟨h.1, ?_⟩
  rcases h.2 with h0 | ⟨g, cap, cur, hv, hg, r⟩
  · exact .inl h0
  · exact .inr ⟨g, cap, cur, hv, Nat.le_trans hb hg, r⟩

theorem newTo_own {w w' : World} {e : TypeId} {size n : Nat} {v : Value} {xs : List Value} (h : w'.ownsRow w.heap.size e size v n xs) : newTo v w := fun _ hg => own_ge h hg

end Go.Proofs.Ytldljohholgmoaa
