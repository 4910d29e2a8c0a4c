/-
  What ProofMore lays: copies of a command one of whose lists of numbers has grown by one. No conditions but those that stand there.
-/
import Derived.Test.YtlhipaecndgonaaDoorPrfK
import Derived.Test.YtlhipaecndgonaaDoorPrfL
import Derived.Test.YtlhipaecndgonaaDoorAppSl
namespace Go.Proofs.YtlhipaecndgonaaDoor
open Go.RowKit

/-- behind the copy, and an empty row. -/
structure More2 (cs : Array Value) (q : Nat) (w2 W : World) : Prop where
  own : W.ownsRow (q + 1) 3 1 (.slice (some ⟨q + 1, 0, none⟩) 0 0) 0 []
  size : q + 1 ≤ W.heap.size
  d : Bk W q 25 cs
  below : Below q w2 W

theorem more_two (cs : Array Value) (q : Nat) (w2 : World) (hq : w2.heap.size = q) : More2 cs q w2 ((w2.alloc (.cells cs 25)).alloc (.cells #[] 3)) := by
  subst hq
  refine ⟨?_, by rw [World.size_alloc, World.size_alloc]; omega, (Bk.new w2 _ _).alloc _, bnext (below_alloc1 _ _) (below_alloc1 _ _)⟩
  have := own_empty (w2.alloc (.cells cs 25)) 3 1 (w2.heap.size + 1) (by rw [World.size_alloc]; exact Nat.le_refl _)
  rwa [World.size_alloc] at this

/-- behind the copy of the numbers. -/
structure More3 (cs : Array Value) (q : Nat) (xs : List Int) (N : Nat) (e : Int) (v : Value) (w2 w3 : World) : Prop where
  own : (w3.alloc (.cells #[.int .i64 e] 3)).ownsRow (q + 1) 3 1 v N (xs.map (.int .i64))
  size : q + 1 ≤ (w3.alloc (.cells #[.int .i64 e] 3)).heap.size
  d : Bk w3 q 25 cs
  below : Below q w2 w3
  row : ∀ k, v.ownBlock = some k → q + 1 ≤ k
  size0 : q + 1 ≤ w3.heap.size

theorem more_three {cs : Array Value} {q : Nat} {xs : List Int} {N : Nat} (e : Int) {v : Value} {w2 W w3 : World} (Z : More2 cs q w2 W) (ho : w3.ownsRow (q + 1) 3 1 v N (xs.map (.int .i64))) (hg : W.grownBy w3 (some (q + 1))) : More3 cs q xs N e v w2 w3 := by
  have hs : q + 1 ≤ w3.heap.size := Nat.le_trans Z.size hg.size
  exact ⟨own_below ho (below_alloc1 _ _), by rw [World.size_alloc]; omega, Z.d.grown hg (by simp), Z.below.grown hg (by have := Z.size; omega) (fun k hk => by injection hk with hk; omega), fun k hk => own_ge ho hk, hs⟩

/-- behind one number more. -/
structure More4 (cs : Array Value) (q : Nat) (xs : List Int) (N : Nat) (g4 cap4 : Nat) (w2 w4 : World) : Prop where
  own : w4.ownsRow (q + 1) 3 1 (.slice (some ⟨g4, 0, none⟩) (N + 1) cap4) (N + 1) (xs.map (.int .i64))
  size : q + 1 ≤ w4.heap.size
  d : Bk w4 q 25 cs
  below : Below q w2 w4
  row : q + 1 ≤ g4

theorem more_four {cs : Array Value} {q : Nat} {xs : List Int} {N : Nat} {e : Int} {v : Value} {g4 cap4 : Nat} {w2 w3 w4 : World} (Z : More3 cs q xs N e v w2 w3)
    (ho : w4.ownsRow (q + 1) 3 1 (.slice (some ⟨g4, 0, none⟩) (N + 1) cap4) (N + 1) (xs.map (.int .i64) ++ [.int .i64 e])) (hg : (w3.alloc (.cells #[.int .i64 e] 3)).grownBy w4 v.ownBlock) : More4 cs q (xs ++ [e]) N g4 cap4 w2 w4 := by
  have h0 := Z.size0
  have hr := Z.row
  refine ⟨by rw [List.map_append]; exact ho, Nat.le_trans Z.size hg.size, (Z.d.alloc _).grown hg (fun h => by have := hr q h.symm; omega), (Z.below.alloc (by omega) _).grown hg (by have := Z.size; omega) (fun k hk => by have := hr k hk; omega), own_ge ho rfl⟩

/-- the row stored into the copy. -/
structure More5 (cs : Array Value) (q : Nat) (xs : List Int) (N : Nat) (g4 cap4 : Nat) (w2 w5 : World) : Prop where
  own : Ints w5 (some ⟨g4, 0, none⟩) cap4 xs
  d : Bk w5 q 25 cs
  below : Below w2.heap.size w2 w5

theorem more_five {cs : Array Value} {q : Nat} {xs : List Int} {N : Nat} {g4 cap4 : Nat} {w2 w4 : World} (hq : w2.heap.size = q) (hN : xs.length = N + 1) (f : Nat) (Z : More4 cs q xs N g4 cap4 w2 w4) :
    More5 (cs.setIfInBounds f (.slice (some ⟨g4, 0, none⟩) (N + 1) cap4)) q xs N g4 cap4 w2 (w4.setCell ⟨q, f, none⟩ (.slice (some ⟨g4, 0, none⟩) (N + 1) cap4)) := by
  subst hq
  refine ⟨?_, Z.d.set f _, Z.below.trans ⟨rfl, rfl, rfl, by simp, fun k hk => Below.heap_setCell w4 ⟨w2.heap.size, f, none⟩ _ k (by simp; omega)⟩⟩
  have h := own_setCell Z.own (show w2.heap.size < w2.heap.size + 1 by omega) f (.slice (some ⟨g4, 0, none⟩) (N + 1) cap4)
  unfold Ints
  rw [hN]
  exact Sl.own' h

theorem next_some {l : List Int} {m : Nat} (h : l.length = m + 1) : nextN l = l[m]?.getD 0 + 1 := by
  have hl : l.getLast? = l[m]? := by rw [List.getLast?_eq_getElem?, h]; rfl
  rw [nextN, hl, List.getElem?_eq_getElem (by omega)]
  rfl

theorem reads_step {l : List Int} {k : Nat} {x : Int} (h : k < l.length) : (l.take (k + 1)).all (fun r => r != x) = ((l.take k).all (fun r => r != x) && (l[k]?.getD 0 != x)) := by
  rw [List.take_add_one, List.getElem?_eq_getElem h, List.all_append]
  simp only [Option.toList_some, List.all_cons, List.all_nil, Bool.and_true, Option.getD_some]

theorem wrap_next {y x : Int} (hy : -9223372036854775808 ≤ y ∧ y ≤ 9223372036854775807) (hx : wrap64 (y + 1) = x) (h0 : 0 ≤ x) : x = y + 1 := by
  unfold wrap64 at hx
  omega

theorem check_more_args {c : Cmd} (h : MayBe c) (n : Int) : (checkN { c with args := c.args ++ [n] } = 0 ↔ c.args.length + 1 ≤ 8) := (check_zero _).trans (more_args h n)
theorem check_more_fuel {c : Cmd} (h : MayBe c) : (checkN { c with fuel := c.fuel + 1 } = 0 ↔ c.fuel + 1 ≤ 200) := (check_zero _).trans (more_fuel h)
theorem check_more_writes {c : Cmd} (h : MayBe c) (hf : ∀ x ∈ c.reads, x ≠ nextN c.writes) : (checkN { c with writes := c.writes ++ [nextN c.writes] } = 0 ↔ c.reads.length + (c.writes.length + 1) ≤ 8) := (check_zero _).trans (more_writes h hf)

theorem free_check {c : Cmd} (hm : MayBe c) {x : Int} (hx0 : 0 ≤ x → x = nextN c.writes) (h : (decide (0 ≤ x) && c.reads.all (fun r => r != x)) = true) : (checkN { c with writes := c.writes ++ [x] } = 0 ↔ c.reads.length + (c.writes.length + 1) ≤ 8) := by
  simp only [Bool.and_eq_true, decide_eq_true_eq, List.all_eq_true, bne_iff_ne] at h
  obtain rfl := hx0 h.1
  exact check_more_writes hm h.2

/-- all that lies there ahead of the answer. -/
structure More9 (w W : World) (c : Cmd) (n x : Int) (ra : Option Addr) (nr rc : Nat) (wa : Option Addr) (nw wc : Nat) (aa : Option Addr) (na ac : Nat) (fuel : Int) (ca : Option Addr) (nc cc q g4 cap4 qB g9 cap9 : Nat) : Prop where
  below : Below w.heap.size w W
  kA : Bk W q 25 (cmC ra nr rc wa nw wc (some ⟨g4, 0, none⟩) (na + 1) cap4 fuel ca nc cc)
  cA : CmIn W { c with args := c.args ++ [n] } ra nr rc wa nw wc (some ⟨g4, 0, none⟩) (na + 1) cap4 ca nc cc
  kB : Bk W qB 25 (cmC ra nr rc wa nw wc aa na ac (fuel + 1) ca nc cc)
  cB : CmIn W { c with fuel := c.fuel + 1 } ra nr rc wa nw wc aa na ac ca nc cc
  kD : Bk W (qB + 1) 25 (cmC ra nr rc (some ⟨g9, 0, none⟩) (nw + 1) cap9 aa na ac fuel ca nc cc)
  cD : CmIn W { c with writes := c.writes ++ [x] } ra nr rc (some ⟨g9, 0, none⟩) (nw + 1) cap9 aa na ac ca nc cc

theorem more_nine {w w2 W5 wr : World} {c : Cmd} {n x : Int} {ra : Option Addr} {nr rc : Nat} {wa : Option Addr} {nw wc : Nat} {aa : Option Addr} {na ac : Nat} {fuel : Int} {ca : Option Addr} {nc cc q g4 cap4 qB g9 cap9 : Nat}
    (hin : CmIn w c ra nr rc wa nw wc aa na ac ca nc cc) (h8 : na ≤ 8 ∧ nw ≤ 8) (B2 : Below w.heap.size w w2) (T5 : More5 ((cmC ra nr rc wa nw wc aa na ac fuel ca nc cc).setIfInBounds 2 (.slice (some ⟨g4, 0, none⟩) (na + 1) cap4)) q (c.args ++ [n]) na g4 cap4 w2 W5) (hB : W5.heap.size = qB)
    (T10 : More5 ((cmC ra nr rc wa nw wc aa na ac fuel ca nc cc).setIfInBounds 1 (.slice (some ⟨g9, 0, none⟩) (nw + 1) cap9)) (qB + 1) (c.writes ++ [x]) nw g9 cap9 (W5.alloc (.cells (cmC ra nr rc wa nw wc aa na ac (fuel + 1) ca nc cc) 25)) wr) :
    More9 w wr c n x ra nr rc wa nw wc aa na ac fuel ca nc cc q g4 cap4 qB g9 cap9 := by
  subst hB
  have b56 := below_alloc1 W5 (.cells (cmC ra nr rc wa nw wc aa na ac (fuel + 1) ca nc cc) 25)
  have b5r := bnext b56 T10.below
  have BW := bnext (bnext B2 T5.below) b5r
  have h := hin.below BW
  refine ⟨BW, by simpa [cmC] using T5.d.below b5r, ⟨h.lr, h.lw, by rw [List.length_append, h.la]; rfl, h.lc, h.reads, h.writes, T5.own.below b5r, h.code, h.br, h.bw, by omega, h.bc⟩, (Bk.new W5 _ _).below T10.below, ⟨h.lr, h.lw, h.la, h.lc, h.reads, h.writes, h.args, h.code, h.br, h.bw, h.ba, h.bc⟩, by simpa [cmC] using T10.d, ⟨h.lr, by rw [List.length_append, h.lw]; rfl, h.la, h.lc, h.reads, T10.own, h.args, h.code, h.br, by omega, h.ba, h.bc⟩⟩

end Go.Proofs.YtlhipaecndgonaaDoor
