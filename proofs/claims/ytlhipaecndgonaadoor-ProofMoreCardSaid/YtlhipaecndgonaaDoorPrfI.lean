/-
  What foremanlaw07's of and short answer, in whatever memory. No conditions but those that stand there.
-/
import Derived.Test.YtlhipaecndgonaaDoorPrfH
namespace Go.Proofs.YtlhipaecndgonaaDoor
open Go.RowKit

/-- of's own blocks. -/
abbrev of0 (A : Option Addr) (n c : Nat) (w : World) : World :=
  (((w.alloc (.cells #[.slice (some ⟨w.heap.size + 1, 0, none⟩) 1 1, .slice (some ⟨w.heap.size + 1 + 1, 0, none⟩) 1 1, .slice (some ⟨w.heap.size + 1 + 1 + 1, 0, none⟩) 1 1, .int .i64 9, .slice A n c] 25)).alloc (.cells #[.int .i64 1] 3)).alloc (.cells #[.int .i64 2] 3)).alloc (.cells #[.int .i64 5] 3)

theorem of0_in (l : List Ins) (A : Option Addr) (n c : Nat) (w : World) (h : Inss w A c l) (hl : l.length = n) (hn : n ≤ 1000) :
    Bk (of0 A n c w) w.heap.size 25 #[.slice (some ⟨w.heap.size + 1, 0, none⟩) 1 1, .slice (some ⟨w.heap.size + 1 + 1, 0, none⟩) 1 1, .slice (some ⟨w.heap.size + 1 + 1 + 1, 0, none⟩) 1 1, .int .i64 9, .slice A n c] ∧
    CmIn (of0 A n c w) ⟨[1], [2], [5], 9, l⟩ (some ⟨w.heap.size + 1, 0, none⟩) 1 1 (some ⟨w.heap.size + 1 + 1, 0, none⟩) 1 1 (some ⟨w.heap.size + 1 + 1 + 1, 0, none⟩) 1 1 A n c ∧ Below w.heap.size w (of0 A n c w) := by
  obtain ⟨w1, hw1⟩ : ∃ w1, w1 = w.alloc (.cells #[.slice (some ⟨w.heap.size + 1, 0, none⟩) 1 1, .slice (some ⟨w.heap.size + 1 + 1, 0, none⟩) 1 1, .slice (some ⟨w.heap.size + 1 + 1 + 1, 0, none⟩) 1 1, .int .i64 9, .slice A n c] 25) := ⟨_, rfl⟩
  have s1 : w1.heap.size = w.heap.size + 1 := by rw [hw1, World.size_alloc]
  have b1 : Below w.heap.size w w1 := by rw [hw1]; exact (Below.refl _ _).alloc (Nat.le_refl _) _
  have k1 : Bk w1 w.heap.size 25 #[.slice (some ⟨w.heap.size + 1, 0, none⟩) 1 1, .slice (some ⟨w.heap.size + 1 + 1, 0, none⟩) 1 1, .slice (some ⟨w.heap.size + 1 + 1 + 1, 0, none⟩) 1 1, .int .i64 9, .slice A n c] := by rw [hw1]; exact Bk.new w _ _
  have e : of0 A n c w = ((w1.alloc (.cells #[.int .i64 1] 3)).alloc (.cells #[.int .i64 2] 3)).alloc (.cells #[.int .i64 5] 3) := by rw [hw1]
  rw [e]
  have a1 := ints_new [1] w1
  have a2 := ints_new [2] (w1.alloc (.cells #[.int .i64 1] 3))
  have a3 := ints_new [5] ((w1.alloc (.cells #[.int .i64 1] 3)).alloc (.cells #[.int .i64 2] 3))
  rw [World.size_alloc, World.size_alloc, s1] at a3
  rw [World.size_alloc, s1] at a2
  rw [s1] at a1
  have b2 : Below w1.heap.size w1 (w1.alloc (.cells #[.int .i64 1] 3)) := (Below.refl _ _).alloc (Nat.le_refl _) _
  have b3 := (Below.refl (w1.alloc (.cells #[.int .i64 1] 3)).heap.size (w1.alloc (.cells #[.int .i64 1] 3))).alloc (Nat.le_refl _) (.cells #[.int .i64 2] 3)
  have b4 := (Below.refl ((w1.alloc (.cells #[.int .i64 1] 3)).alloc (.cells #[.int .i64 2] 3)).heap.size ((w1.alloc (.cells #[.int .i64 1] 3)).alloc (.cells #[.int .i64 2] 3))).alloc (Nat.le_refl _) (.cells #[.int .i64 5] 3)
  have bb : Below w.heap.size w (((w1.alloc (.cells #[.int .i64 1] 3)).alloc (.cells #[.int .i64 2] 3)).alloc (.cells #[.int .i64 5] 3)) := bnext (bnext (bnext b1 b2) b3) b4
  exact ⟨((k1.alloc _).alloc _).alloc _, ⟨rfl, rfl, rfl, hl, (a1.below b3).below b4, a2.below b4, a3, h.below bb, by omega, by omega, by omega, hn⟩, bb⟩

theorem of_any (l : List Ins) (A : Option Addr) (n c : Nat) (w : World) (h : Inss w A c l) (hl : l.length = n) (hn : n ≤ 1000) :
    Calls Tryd.prog 16 #[.slice A n c] w fun e w' => ∃ r1 r2 r3, e = .returned (cmV (some ⟨r1, 0, none⟩) 1 1 (some ⟨r2, 0, none⟩) 1 1 (some ⟨r3, 0, none⟩) 1 1 9 A n c) ∧ CmIn w' ⟨[1], [2], [5], 9, l⟩ (some ⟨r1, 0, none⟩) 1 1 (some ⟨r2, 0, none⟩) 1 1 (some ⟨r3, 0, none⟩) 1 1 A n c ∧ Below w.heap.size w w' := by
  have h' := Lib.hid (of0_in l A n c w h hl hn)
  clear h
  go_enter Tryd.func16, Tryd.ntmps16
  go_wp2
  obtain ⟨f1, f2, f3⟩ := h'.out
  obtain ⟨q0, q1, q2, q3, q4, -⟩ := f1.cmd
  exact bodyPost_ret (v := cmV (some ⟨w.heap.size + 1, 0, none⟩) 1 1 (some ⟨w.heap.size + 1 + 1, 0, none⟩) 1 1 (some ⟨w.heap.size + 1 + 1 + 1, 0, none⟩) 1 1 9 A n c) (by simp [results, Tryd.results16, go_sem, q0, q1, q2, q3, q4]) rfl ⟨_, _, _, rfl, f2, f3⟩

theorem short_any (ra : Option Addr) (nr rc : Nat) (wa : Option Addr) (nw wc : Nat) (aa : Option Addr) (na ac : Nat) (fuel : Int) (ca : Option Addr) (nc cc : Nat) (w : World) (b : Bool) (hb : decide (nr ≤ 20 ∧ nw ≤ 20 ∧ na ≤ 20 ∧ nc ≤ 100) = b) :
    Calls Tryd.prog 7 #[cmV ra nr rc wa nw wc aa na ac fuel ca nc cc] w fun e w' => e = .returned (.bool b) ∧ Below w.heap.size w w' := by
  have hb0 : Hid (∀ O, Below w.heap.size w (w.alloc O)) := Lib.hid (fun O => (Below.refl _ _).alloc (Nat.le_refl _) O)
  subst hb
  by_cases g1 : nr ≤ 20
  · have e1 : (nr : Int) ≤ 20 := by omega
    by_cases g2 : nw ≤ 20
    · have e2 : (nw : Int) ≤ 20 := by omega
      by_cases g3 : na ≤ 20
      · have e3 : (na : Int) ≤ 20 := by omega
        by_cases g4 : nc ≤ 100
        · have e4 : (nc : Int) ≤ 100 := by omega
          rw [decide_eq_true ⟨g1, g2, g3, g4⟩]
          go_enter Tryd.func7, Tryd.ntmps7
          go_wp2
          go_ret
          exact ⟨rfl, hb0.out _⟩
        · have e4 : ¬ (nc : Int) ≤ 100 := by omega
          rw [decide_eq_false (fun h => g4 h.2.2.2)]
          go_enter Tryd.func7, Tryd.ntmps7
          go_wp2
          go_ret
          exact ⟨rfl, hb0.out _⟩
      · have e3 : ¬ (na : Int) ≤ 20 := by omega
        rw [decide_eq_false (fun h => g3 h.2.2.1)]
        go_enter Tryd.func7, Tryd.ntmps7
        go_wp2
        go_ret
        exact ⟨rfl, hb0.out _⟩
    · have e2 : ¬ (nw : Int) ≤ 20 := by omega
      rw [decide_eq_false (fun h => g2 h.2.1)]
      go_enter Tryd.func7, Tryd.ntmps7
      go_wp2
      go_ret
      exact ⟨rfl, hb0.out _⟩
  · have e1 : ¬ (nr : Int) ≤ 20 := by omega
    rw [decide_eq_false (fun h => g1 h.1)]
    go_enter Tryd.func7, Tryd.ntmps7
    go_wp2
    go_ret
    exact ⟨rfl, hb0.out _⟩

end Go.Proofs.YtlhipaecndgonaaDoor
