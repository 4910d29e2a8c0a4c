/-
  What ProofTail lays: a command's copy with a stop behind its code, and one with its way cut off. No conditions but those that stand there.
-/
import Derived.Test.YtlhipaecndgonaaDoorPrfK
import Derived.Test.YtlhipaecndgonaaDoorPrfQ
import Derived.Test.YtlhipaecndgonaaDoorBt
namespace Go.Proofs.YtlhipaecndgonaaDoor
open Go.RowKit

section
variable (c : Cmd) (ra : Option Addr) (nr rc : Nat) (wa : Option Addr) (nw wc : Nat) (aa : Option Addr) (na ac : Nat) (fuel : Int) (ca : Addr) (nc cc : Nat)

/-- a command's cells. -/
abbrev cmC (ca : Option Addr) (nc cc : Nat) : Array Value := #[.slice ra nr rc, .slice wa nw wc, .slice aa na ac, .int .i64 fuel, .slice ca nc cc]

/-- behind the copy, and an empty row. -/
structure Tail2 (h q : Nat) (w2 W : World) : Prop where
  own : W.ownsRow (q + 1) 35 3 (.slice (some ⟨q + 1, 0, none⟩) 0 0) 0 []
  code : Sl W 3 (some ca) nc cc (inssW c.code)
  size : q + 1 ≤ W.heap.size
  d : Bk W q 25 (cmC ra nr rc wa nw wc aa na ac fuel (some ca) nc cc)
  box : Bk W h 25 (cmC ra nr rc wa nw wc aa na ac fuel (some ca) nc cc)
  below : Below q w2 W

theorem tail_two (h q : Nat) (w2 : World) (hq : w2.heap.size = q) (hC : Inss w2 (some ca) cc c.code) (hl : c.code.length = nc) (hB : Bk w2 h 25 (cmC ra nr rc wa nw wc aa na ac fuel (some ca) nc cc)) :
    Tail2 c ra nr rc wa nw wc aa na ac fuel ca nc cc h q w2 ((w2.alloc (CmObj ra nr rc wa nw wc aa na ac fuel (some ca) nc cc)).alloc (.cells #[] 35)) := by
  subst hq
  have b : Below w2.heap.size w2 ((w2.alloc (CmObj ra nr rc wa nw wc aa na ac fuel (some ca) nc cc)).alloc (.cells #[] 35)) := bnext (below_alloc1 _ _) (below_alloc1 _ _)
  refine ⟨?_, ?_, ?_, (Bk.new w2 _ _).alloc _, hB.below b, b⟩
  · have := own_empty (w2.alloc (CmObj ra nr rc wa nw wc aa na ac fuel (some ca) nc cc)) 35 3 (w2.heap.size + 1) (by rw [World.size_alloc]; exact Nat.le_refl _)
    rwa [World.size_alloc] at this
  · have := hC.below b
    unfold Inss at this
    rwa [hl] at this
  · rw [World.size_alloc, World.size_alloc]; omega

/-- behind the copy of the code. -/
structure Tail3 (h q g3 cap3 : Nat) (w2 w3 : World) : Prop where
  own : w3.ownsRow (q + 1) 35 3 (.slice (some ⟨g3, 0, none⟩) nc cap3) nc (inssW c.code)
  own' : (w3.alloc (.cells #[.int .i64 16, .int .i64 0, .int .i64 0] 35)).ownsRow (q + 1) 35 3 (.slice (some ⟨g3, 0, none⟩) nc cap3) nc (inssW c.code)
  size : q + 1 ≤ w3.heap.size
  size' : q + 1 ≤ (w3.alloc (.cells #[.int .i64 16, .int .i64 0, .int .i64 0] 35)).heap.size
  d : Bk w3 q 25 (cmC ra nr rc wa nw wc aa na ac fuel (some ca) nc cc)
  box : Bk w3 h 25 (cmC ra nr rc wa nw wc aa na ac fuel (some ca) nc cc)
  below : Below q w2 w3
  row : q + 1 ≤ g3

variable {c ra nr rc wa nw wc aa na ac fuel ca nc cc}

theorem tail_three {h q g3 cap3 : Nat} {w2 W w3 : World} (Z : Tail2 c ra nr rc wa nw wc aa na ac fuel ca nc cc h q w2 W)
    (ho : w3.ownsRow (q + 1) 35 3 (.slice (some ⟨g3, 0, none⟩) nc cap3) nc (inssW c.code)) (hg : W.grownBy w3 (Value.slice (some ⟨q + 1, 0, none⟩) 0 0).ownBlock) (hh : h < q) :
    Tail3 c ra nr rc wa nw wc aa na ac fuel ca nc cc h q g3 cap3 w2 w3 := by
  have hs : q + 1 ≤ w3.heap.size := Nat.le_trans Z.size hg.size
  have hb : Below q w2 w3 := Z.below.grown hg (by have := Z.size; omega) (fun k hk => by simp [Value.ownBlock] at hk; omega)
  refine ⟨ho, own_below ho (below_alloc1 _ _), hs, by rw [World.size_alloc]; omega, Z.d.grown hg (by simp [Value.ownBlock]), Z.box.grown hg (by simp [Value.ownBlock]; omega), hb, own_ge ho rfl⟩

/-- behind the stop. -/
structure Tail4 (c : Cmd) (ra : Option Addr) (nr rc : Nat) (wa : Option Addr) (nw wc : Nat) (aa : Option Addr) (na ac : Nat) (fuel : Int) (ca : Addr) (nc cc : Nat) (h q g4 cap4 : Nat) (w2 w4 : World) : Prop where
  own : w4.ownsRow (q + 1) 35 3 (.slice (some ⟨g4, 0, none⟩) (nc + 1) cap4) (nc + 1) (inssW (c.code ++ [⟨16, 0, 0⟩]))
  size : q + 1 ≤ w4.heap.size
  d : Bk w4 q 25 (cmC ra nr rc wa nw wc aa na ac fuel (some ca) nc cc)
  box : Bk w4 h 25 (cmC ra nr rc wa nw wc aa na ac fuel (some ca) nc cc)
  below : Below q w2 w4
  row : q + 1 ≤ g4

theorem tail_four {h q g3 cap3 g4 cap4 : Nat} {w2 w3 w4 : World} (Z : Tail3 c ra nr rc wa nw wc aa na ac fuel ca nc cc h q g3 cap3 w2 w3)
    (ho : w4.ownsRow (q + 1) 35 3 (.slice (some ⟨g4, 0, none⟩) (nc + 1) cap4) (nc + 1) (inssW c.code ++ [.int .i64 16, .int .i64 0, .int .i64 0])) (hg : (w3.alloc (.cells #[.int .i64 16, .int .i64 0, .int .i64 0] 35)).grownBy w4 (Value.slice (some ⟨g3, 0, none⟩) nc cap3).ownBlock) (hh : h < q) :
    Tail4 c ra nr rc wa nw wc aa na ac fuel ca nc cc h q g4 cap4 w2 w4 := by
  have hb3 : Below q w2 (w3.alloc (.cells #[.int .i64 16, .int .i64 0, .int .i64 0] 35)) := Z.below.alloc (by have := Z.size; omega) _
  have hr := Z.row
  have hb : Below q w2 w4 := hb3.grown hg (by have := Z.size'; omega) (fun k hk => by simp [Value.ownBlock] at hk; omega)
  refine ⟨by rw [inssW_snoc]; exact ho, Nat.le_trans Z.size' hg.size, (Z.d.alloc _).grown hg (by simp [Value.ownBlock]; omega), (Z.box.alloc _).grown hg (by simp [Value.ownBlock]; omega), hb, own_ge ho rfl⟩

/-- the stop's row stored into the copy. -/
theorem tail_five {h q g4 cap4 : Nat} {w2 w4 : World} (hq : w2.heap.size = q) (hh : h < q) (Z : Tail4 c ra nr rc wa nw wc aa na ac fuel ca nc cc h q g4 cap4 w2 w4) :
    Bk (w4.setCell ⟨q, 4, none⟩ (.slice (some ⟨g4, 0, none⟩) (nc + 1) cap4)) q 25 (cmC ra nr rc wa nw wc aa na ac fuel (some ⟨g4, 0, none⟩) (nc + 1) cap4) ∧
    Bk (w4.setCell ⟨q, 4, none⟩ (.slice (some ⟨g4, 0, none⟩) (nc + 1) cap4)) h 25 (cmC ra nr rc wa nw wc aa na ac fuel (some ca) nc cc) ∧
    (w4.setCell ⟨q, 4, none⟩ (.slice (some ⟨g4, 0, none⟩) (nc + 1) cap4)).ownsRow (q + 1) 35 3 (.slice (some ⟨g4, 0, none⟩) (nc + 1) cap4) (nc + 1) (inssW (c.code ++ [⟨16, 0, 0⟩])) ∧
    Below w2.heap.size w2 (w4.setCell ⟨q, 4, none⟩ (.slice (some ⟨g4, 0, none⟩) (nc + 1) cap4)) ∧ (w4.setCell ⟨q, 4, none⟩ (.slice (some ⟨g4, 0, none⟩) (nc + 1) cap4)).heap.size = w4.heap.size := by
  subst hq
  refine ⟨by simpa [cmC] using Z.d.set 4 (.slice (some ⟨g4, 0, none⟩) (nc + 1) cap4), Z.box.far (p := ⟨w2.heap.size, 4, none⟩) (by simp; omega) _, own_setCell Z.own (by omega) _ _, Z.below.trans ⟨rfl, rfl, rfl, by simp, fun k hk => Below.heap_setCell w4 ⟨w2.heap.size, 4, none⟩ _ k (by simp; omega)⟩, by simp⟩

/-- a row of one's own, its first instruction stored anew. -/
theorem own_first {w : World} {B g cap : Nat} {l : List Ins} {n : Nat} (h : w.ownsRow B 35 3 (.slice (some ⟨g, 0, none⟩) n cap) n (inssW l)) (hl : l.length = n) (hn : 0 < n) (x : Ins) :
    (∃ v0 v1 v2, w.cell? ⟨g, 0, none⟩ = some v0 ∧ w.cell? ⟨g, 1, none⟩ = some v1 ∧ w.cell? ⟨g, 2, none⟩ = some v2) ∧ (∀ o, w.frozen? ⟨g, o, none⟩ = false) ∧ g < w.heap.size ∧
    (((w.setCell ⟨g, 0, none⟩ (.int .i64 x.op)).setCell ⟨g, 1, none⟩ (.int .i64 x.a)).setCell ⟨g, 2, none⟩ (.int .i64 x.b)).ownsRow B 35 3 (.slice (some ⟨g, 0, none⟩) n cap) n (inssW (l.set 0 x)) := by
  obtain ⟨y, r, rfl⟩ : ∃ y r, l = y :: r := by
    cases l with
    | nil => simp at hl; omega
    | cons y r => exact ⟨y, r, rfl⟩
  obtain ⟨hlen, hh⟩ := h
  rcases hh with ⟨h0, _⟩ | ⟨g', cap', cur, hv, hB, hg, hnc, hcm, hcs, htake⟩
  · cases h0
  · injection hv with e1 e2 e3
    injection e1 with e1
    injection e1 with e1
    subst e1
    subst e3
    have hk : Bk w g 35 cur := hg
    have h3 : ∀ j, j < 3 → ∃ v, w.cell? ⟨g, j, none⟩ = some v := fun j hj => ⟨cur[j]'(by rw [hcs]; omega), by rw [hk.cell]; simp⟩
    obtain ⟨v0, a0⟩ := h3 0 (by omega)
    obtain ⟨v1, a1⟩ := h3 1 (by omega)
    obtain ⟨v2, a2⟩ := h3 2 (by omega)
    refine ⟨⟨v0, v1, v2, a0, a1, a2⟩, fun o => hk.frozen o, hk.lt, ?_⟩
    have hk' := ((hk.set 0 (.int .i64 x.op)).set 1 (.int .i64 x.a)).set 2 (.int .i64 x.b)
    refine ⟨by rw [inssW_length]; simpa using congrArg (· * 3) hl, .inr ⟨g, cap, _, rfl, hB, hk', hnc, hcm, by simpa using hcs, ?_⟩⟩
    have hsz : 3 ≤ n * 3 := by omega
    have hcl : 3 ≤ cur.size := by rw [hcs]; omega
    apply List.ext_getElem?
    intro j
    have hj := congrArg (·[j]?) htake
    simp only [List.getElem?_take] at hj ⊢
    have e0 : inssW ((y :: r).set 0 x) = .int .i64 x.op :: .int .i64 x.a :: .int .i64 x.b :: inssW r := rfl
    have e1 : inssW (y :: r) = .int .i64 y.op :: .int .i64 y.a :: .int .i64 y.b :: inssW r := rfl
    rw [e0]
    rw [e1] at hj
    simp only [Array.toList_setIfInBounds]
    match j with
    | 0 => rw [if_pos (by omega)]; simp [show 0 < cur.size by omega]
    | 1 => rw [if_pos (by omega)]; simp [show 1 < cur.size by omega]
    | 2 => rw [if_pos (by omega)]; simp [show 2 < cur.size by omega]
    | j + 3 =>
      simp only [List.getElem?_cons_succ] at hj ⊢
      rw [← hj]
      split
      · rw [List.getElem?_set_ne (by omega), List.getElem?_set_ne (by omega), List.getElem?_set_ne (by omega)]
      · rfl

/-- all that lies there ahead of the answer. -/
structure Tail8 (w W : World) (c : Cmd) (ra : Option Addr) (nr rc : Nat) (wa : Option Addr) (nw wc : Nat) (aa : Option Addr) (na ac : Nat) (fuel : Int) (nc q g4 cap4 e g7 cap7 : Nat) : Prop where
  below : Below w.heap.size w W
  d : Bk W q 25 (cmC ra nr rc wa nw wc aa na ac fuel (some ⟨g4, 0, none⟩) (nc + 1) cap4)
  dC : CmIn W { c with code := c.code ++ [⟨16, 0, 0⟩] } ra nr rc wa nw wc aa na ac (some ⟨g4, 0, none⟩) (nc + 1) cap4
  e : Bk W e 25 (cmC ra nr rc wa nw wc aa na ac fuel (some ⟨g7, 0, none⟩) nc cap7)
  eC : CmIn W { c with code := c.code.set 0 ⟨14, (nc : Int), 0⟩ } ra nr rc wa nw wc aa na ac (some ⟨g7, 0, none⟩) nc cap7

theorem tail_six {h q g4 cap4 e g7 cap7 : Nat} {w w5 w7 : World} (hC : CmIn w c ra nr rc wa nw wc aa na ac (some ca) nc cc) (hb5 : Below w.heap.size w w5) (hd : Bk w5 q 25 (cmC ra nr rc wa nw wc aa na ac fuel (some ⟨g4, 0, none⟩) (nc + 1) cap4))
    (ho : w5.ownsRow (q + 1) 35 3 (.slice (some ⟨g4, 0, none⟩) (nc + 1) cap4) (nc + 1) (inssW (c.code ++ [⟨16, 0, 0⟩])))
    (hg : ((w5.alloc (CmObj ra nr rc wa nw wc aa na ac fuel (some ca) nc cc)).alloc (.cells #[] 35)).grownBy w7 (some (e + 1)))
    (Z : Tail3 c ra nr rc wa nw wc aa na ac fuel ca nc cc h e g7 cap7 w5 w7) (he : w5.heap.size = e) (hn1 : 1 ≤ nc) (hn2 : nc ≤ 64) :
    Tail8 w ((((w7.setCell ⟨e, 4, none⟩ (.slice (some ⟨g7, 0, none⟩) nc cap7)).setCell ⟨g7, 0, none⟩ (.int .i64 14)).setCell ⟨g7, 1, none⟩ (.int .i64 (nc : Int))).setCell ⟨g7, 2, none⟩ (.int .i64 0)) c ra nr rc wa nw wc aa na ac fuel nc q g4 cap4 e g7 cap7 := by
  subst he
  have hql := hd.lt
  have h4 := own_lt ho (g := g4) rfl
  have hr7 := Z.row
  have hg4 := own_ge ho (g := g4) rfl
  -- behind the store into the second copy
  have E8 : Bk (w7.setCell ⟨w5.heap.size, 4, none⟩ (.slice (some ⟨g7, 0, none⟩) nc cap7)) w5.heap.size 25 (cmC ra nr rc wa nw wc aa na ac fuel (some ⟨g7, 0, none⟩) nc cap7) := by
    simpa [cmC] using Z.d.set 4 (.slice (some ⟨g7, 0, none⟩) nc cap7)
  have O8 := own_setCell Z.own (show w5.heap.size < w5.heap.size + 1 by omega) 4 (.slice (some ⟨g7, 0, none⟩) nc cap7)
  have B8 : Below w5.heap.size w5 (w7.setCell ⟨w5.heap.size, 4, none⟩ (.slice (some ⟨g7, 0, none⟩) nc cap7)) := Z.below.trans ⟨rfl, rfl, rfl, by simp, fun k hk => Below.heap_setCell w7 ⟨w5.heap.size, 4, none⟩ _ k (by simp; omega)⟩
  have D8 := hd.below B8
  have O4 := own_below ho B8
  obtain ⟨-, -, -, O9⟩ := own_first O8 hC.lc hn1 ⟨14, (nc : Int), 0⟩
  generalize w7.setCell ⟨w5.heap.size, 4, none⟩ (.slice (some ⟨g7, 0, none⟩) nc cap7) = w8 at *
  have far : ∀ (W : World) (k : Nat) (t : TypeId) (cs : Array Value) (i : Nat) (v : Value), Bk W k t cs → k ≠ g7 → Bk (W.setCell ⟨g7, i, none⟩ v) k t cs := fun W k t cs i v hk hne => hk.far (p := ⟨g7, i, none⟩) hne v
  have B9 : Below w5.heap.size w5 (((w8.setCell ⟨g7, 0, none⟩ (.int .i64 14)).setCell ⟨g7, 1, none⟩ (.int .i64 (nc : Int))).setCell ⟨g7, 2, none⟩ (.int .i64 0)) :=
    B8.trans ⟨rfl, rfl, rfl, by simp, fun k hk => ((Below.heap_setCell _ ⟨g7, 2, none⟩ _ k (by simp; omega)).trans (Below.heap_setCell _ ⟨g7, 1, none⟩ _ k (by simp; omega))).trans (Below.heap_setCell _ ⟨g7, 0, none⟩ _ k (by simp; omega))⟩
  have BW := bnext hb5 B9
  have O4' : (((w8.setCell ⟨g7, 0, none⟩ (.int .i64 14)).setCell ⟨g7, 1, none⟩ (.int .i64 (nc : Int))).setCell ⟨g7, 2, none⟩ (.int .i64 0)).ownsRow (q + 1) 35 3 (.slice (some ⟨g4, 0, none⟩) (nc + 1) cap4) (nc + 1) (inssW (c.code ++ [⟨16, 0, 0⟩])) := own_below ho B9
  have hC' := hC.below BW
  refine ⟨BW, far _ _ _ _ _ _ (far _ _ _ _ _ _ (far _ _ _ _ _ _ D8 (by omega)) (by omega)) (by omega), ?_, far _ _ _ _ _ _ (far _ _ _ _ _ _ (far _ _ _ _ _ _ E8 (by omega)) (by omega)) (by omega), ?_⟩
  · refine ⟨hC.lr, hC.lw, hC.la, by simpa using hC.lc, hC'.reads, hC'.writes, hC'.args, ?_, hC.br, hC.bw, hC.ba, by omega⟩
    show Sl _ 3 _ (c.code ++ [(⟨16, 0, 0⟩ : Ins)]).length _ _
    rw [show (c.code ++ [(⟨16, 0, 0⟩ : Ins)]).length = nc + 1 by simpa using hC.lc]
    exact Sl.own' O4'
  · refine ⟨hC.lr, hC.lw, hC.la, by simpa using hC.lc, hC'.reads, hC'.writes, hC'.args, ?_, hC.br, hC.bw, hC.ba, by omega⟩
    show Sl _ 3 _ (c.code.set 0 (⟨14, (nc : Int), 0⟩ : Ins)).length _ _
    rw [show (c.code.set 0 (⟨14, (nc : Int), 0⟩ : Ins)).length = nc by simpa using hC.lc]
    exact Sl.own' O9

theorem check_tail (c : Cmd) (h : MayBe c) : (checkN { c with code := c.code ++ [⟨16, 0, 0⟩] } = 0 ↔ c.code.length + 1 ≤ 64) :=
  (check_zero _).trans (tail_may h)

end
end Go.Proofs.YtlhipaecndgonaaDoor
