/-
  foremanref15's New, Ask and Ready, as those who wait say it. No conditions but those that stand there.
-/
import Derived.Test.YtldljohholgmoaaZLckRa
import Derived.Test.YtldljohholgmoaaZLckRy
import Derived.Test.YtldljohholgmoaaQWords
namespace Go.Proofs.Ytldljohholgmoaa
open Go.RowKit

theorem line_length (u : Who) (b : Nat) : (lineOf u b).length ≤ u.length := by
  unfold lineOf
  induction u with
  | nil => simp
  | cons x u ih =>
    rw [List.flatMap_cons, List.length_append, List.length_cons]
    have : (wantOf x b).length ≤ 1 := by unfold wantOf; split <;> simp
    omega

theorem lksW_len (u : Who) (n b : Nat) : (lkAt (lksW u n) b).length ≤ u.length := by
  by_cases h : b < n
  · rw [lksW_at u h, grK_length]
    exact line_length u b
  · unfold lkAt
    rw [List.getElem?_eq_none (by rw [lksW_length]; omega)]
    simp

/-- a command's blocks, by what may be. -/
theorem CmL.lk {x : CmL} {w : World} {n : Nat} (h : x.In w) (hm : MayBe x.c) (hf : fitsT x.c n) : CmLk w x.c x.ra x.nr x.rc x.wa x.nw x.wc n := by
  have h1 := hm.few.1
  have h2 : x.c.reads.length = x.nr := h.lr
  have h3 : x.c.writes.length = x.nw := h.lw
  refine ⟨h.lr, h.lw, h.reads, h.writes, by omega, by omega, fun y hy => ⟨risesT_ge hm.sets.1 y hy, hf.1 y hy⟩, fun y hy => ⟨risesT_ge hm.sets.2.1 y hy, hf.2 y hy⟩⟩

section
variable (c : Cmd) (ra : Option Addr) (nr rc : Nat) (wa : Option Addr) (nw wc : Nat) (aa : Option Addr) (na ac : Nat) (fuel : Int) (ca : Option Addr) (nc cc : Nat) (u : Who) (A : Option Addr) (n k : Nat) (s : Int) (W : World)

theorem rnew_who (h1 : 1 ≤ n) (hn : n ≤ 1000) : Calls Try.prog 8 #[.int .i64 (n : Int)] W (LkPost (lksW [] n) n W) := by
  rw [lks_nil]
  exact rnew_any n h1 hn W

theorem rask_who (hl : LkSl W A n k (lksW u n)) (hn : n ≤ 1000) (hu : u.length ≤ 1000) (hs : setsN c) (hk : CmLk W c ra nr rc wa nw wc n) : Calls Try.prog 11 #[.slice A n k, cmV ra nr rc wa nw wc aa na ac fuel ca nc cc, .int .i64 s] W (LsPost (lksW (u ++ [(s, c)]) n) n W) := by
  rw [← asks_W u n hs s]
  exact rask15_any c ra nr rc wa nw wc aa na ac fuel ca nc cc _ A n k s W hl hn (fun b => by have := lksW_len u n b; omega) hk

theorem rready_who (hl : LkSl W A n k (lksW u n)) (hu : u.length ≤ 1000) (hk : CmLk W c ra nr rc wa nw wc n) : Calls Try.prog 27 #[.slice A n k, cmV ra nr rc wa nw wc aa na ac fuel ca nc cc, .int .i64 s] W fun e w' => e = .returned (.bool (readyL (lksW u n) c s)) ∧ Below W.heap.size W w' :=
  rready15_any c ra nr rc wa nw wc aa na ac fuel ca nc cc _ A n k s W hl (fun b => by have := lksW_len u n b; omega) hk

/-- answers as words of what an operation leaves. -/
theorem LsPost.says {L : Lks} {e : Ending} {w' : World} (h : LsPost L n W e w') : ∃ v, e = .returned v ∧ Below W.heap.size W w' ∧ lksV n L v w' := by
  obtain ⟨A, c, he, hO, hb⟩ := h
  exact ⟨_, he, hb, A, c, rfl, hO⟩

end

end Go.Proofs.Ytldljohholgmoaa
