/-
  What foremanref03.Same answers of numbers that read the same: true. No conditions but those that stand there.
-/
import Derived.Test.YtpaocjpjlogkgaaGreatQWords
import Derived.OwnWalk
import Derived.Deep.QuietTactic
import Derived.BigQuiet
namespace Go.Proofs.YtpaocjpjlogkgaaGreat
open Go.RowKit
set_option maxRecDepth 100000

set_option maxHeartbeats 2000000 in
theorem same_yes (l : List Int) (A : Option Addr) (c : Nat) (B : Option Addr) (d : Nat) (w : World) (h1 : Ints w A c l) (h2 : Ints w B d l) (hn : l.length ≤ 1099511627776) :
    Calls Tryz.prog 105 #[.slice A l.length c, .slice B l.length d] w
      fun e w' => e = .returned (.bool true) ∧ ∃ n, w' = w.drewN n := by
  have hcl : Hid (∀ i, i < l.length → ∃ b off, A = some ⟨b, off, none⟩ ∧ b < w.heap.size ∧ w.cell? ⟨b, off + i, none⟩ = some (.int .i64 (l[i]?.getD 0))) := Lib.hid fun i h => h1.cellAt h
  have hcm : Hid (∀ i, i < l.length → ∃ b off, B = some ⟨b, off, none⟩ ∧ b < w.heap.size ∧ w.cell? ⟨b, off + i, none⟩ = some (.int .i64 (l[i]?.getD 0))) := Lib.hid fun i h => h2.cellAt h
  have hle := h1.2.1
  have hle2 := h2.2.1
  clear h1 h2
  generalize l.length = N at *
  go_enter Tryz.func105, Tryz.ntmps105
  go_wp2
  go_loopw [5] (fun cc wr => ∃ i k : Nat, i ≤ N ∧ cc = .int .i64 i ∧ wr = w.drewN k) (fun cc _ => N - (intOf cc).toNat)
  case atStart => exact ⟨0, 0, Nat.zero_le _, rfl, rfl⟩
  case round =>
    obtain ⟨i, k, hi, rfl, rfl⟩ := hrel
    by_cases hlt : i < N
    · obtain ⟨b, off, rfl, hbl, hcell⟩ := hcl.out i hlt
      obtain ⟨b2, off2, rfl, hbl2, hcell2⟩ := hcm.out i hlt
      have d0 : (i : Int) < (N : Int) := by omega
      have d1 : (i : Int) < (c : Int) := by omega
      have d2 : (i : Int) < (d : Int) := by omega
      generalize l[i]?.getD 0 = x at *
      clear hcl hcm
      go_wp2
      go_quiet (fail)
      go_wp2
      go_roundw
      case rel => exact ⟨i + 1, _, by omega, by go_num, rfl⟩
      case measure => simp [intOf]; omega
    · go_wp2
      go_ret
      exact ⟨rfl, _, rfl⟩

end Go.Proofs.YtpaocjpjlogkgaaGreat
