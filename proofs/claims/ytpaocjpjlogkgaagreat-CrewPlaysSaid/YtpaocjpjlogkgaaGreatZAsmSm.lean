/-
  What the reference's Same of two lists of instructions answers where they are the same: true.
-/
import Derived.Test.YtpaocjpjlogkgaaGreatQWords
import Derived.Lib.Hide
import Derived.Deep.QuietTactic
import Derived.BigQuiet
import Derived.WalkSmall
import Derived.Deep.DeepMust
import Derived.WalkSpells
import Derived.WalkLawsBesides
namespace Go.Proofs.YtpaocjpjlogkgaaGreat
open Go.RowKit
set_option maxRecDepth 100000

set_option maxHeartbeats 2000000 in
theorem sameI (l : List Ins) (A : Option Addr) (c : Nat) (B : Option Addr) (d : Nat) (w : World) (h1 : Inss w A c l) (h2 : Inss w B d l) (hn : l.length ≤ 1099511627776) :
    Calls Tryz.prog 106 #[.slice A l.length c, .slice B l.length d] w
      fun e w' => e = .returned (.bool true) ∧ Below w.heap.size w w' := by
  have hcl : Hid (∀ i, i < l.length → ∃ k s n b off b2 off2, A = some ⟨b, off, none⟩ ∧ b < w.heap.size ∧ w.cell? ⟨b, off + i * 3, none⟩ = some (.int .i64 k) ∧ w.cell? ⟨b, off + i * 3 + 1, none⟩ = some (.int .i64 s) ∧ w.cell? ⟨b, off + i * 3 + 2, none⟩ = some (.int .i64 n)
      ∧ B = some ⟨b2, off2, none⟩ ∧ b2 < w.heap.size ∧ w.cell? ⟨b2, off2 + i * 3, none⟩ = some (.int .i64 k) ∧ w.cell? ⟨b2, off2 + i * 3 + 1, none⟩ = some (.int .i64 s) ∧ w.cell? ⟨b2, off2 + i * 3 + 2, none⟩ = some (.int .i64 n)) := Lib.hid fun i h => by
    obtain ⟨b, off, a0, a1, a2, a3, a4⟩ := h1.cellAt h
    obtain ⟨b2, off2, b0, b1, b2', b3, b4⟩ := h2.cellAt h
    exact ⟨_, _, _, b, off, b2, off2, a0, a1, a2, a3, a4, b0, b1, b2', b3, b4⟩
  have hle := h1.2.1
  have hle2 := h2.2.1
  clear h1 h2
  generalize l.length = N at *
  go_enter Tryz.func106, Tryz.ntmps106
  go_wp2
  go_loopw [5] (fun cc wr => ∃ i k : Nat, i ≤ N ∧ cc = .int .i64 i ∧ wr = w.drewN k) (fun cc _ => N - (intOf cc).toNat)
  case atStart => exact ⟨0, 0, Nat.zero_le _, rfl, rfl⟩
  case round =>
    obtain ⟨i, k, hi, rfl, rfl⟩ := hrel
    by_cases hlt : i < N
    · obtain ⟨kd, s, n, b, off, b2, off2, rfl, hbl, x0, x1, x2, rfl, hbl2, y0, y1, y2⟩ := hcl.out i hlt
      have d0 : (i : Int) < (N : Int) := by omega
      have d1 : (i : Int) < (c : Int) := by omega
      have d2 : (i : Int) < (d : Int) := by omega
      clear hcl
      go_wp2
      go_quiet (fail)
      go_wp2
      go_roundw
      case rel => exact ⟨i + 1, _, by omega, by go_num, rfl⟩
      case measure => simp [intOf]; omega
    · go_wp2
      go_ret
      exact ⟨rfl, below_drewN (Below.refl _ _) _⟩

theorem sameL (l : List Ins) (N : Nat) (hN : l.length = N) (A : Option Addr) (c : Nat) (B : Option Addr) (d : Nat) (w : World) (h1 : Inss w A c l) (h2 : Inss w B d l) (hn : N ≤ 1099511627776) :
    Calls Tryz.prog 106 #[.slice A N c, .slice B N d] w fun e w' => e = .returned (.bool true) ∧ Below w.heap.size w w' := by
  subst hN
  exact sameI l A c B d w h1 h2 hn

end Go.Proofs.YtpaocjpjlogkgaaGreat
