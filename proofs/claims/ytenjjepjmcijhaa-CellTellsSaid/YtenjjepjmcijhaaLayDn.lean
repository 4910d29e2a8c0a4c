/-
  What Done of lay.From answers, in whatever memory: for whatever place.
-/
import Derived.Test.YtenjjepjmcijhaaLayA
namespace Go.Proofs.Ytenjjepjmcijhaa
open Go.RowKit

set_option maxHeartbeats 1000000 in
theorem done_any (s : ByteArray) (r : Rd) (g : Nat) (w : World) (hk : Bk w g 28 (frV s r)) :
    Calls Try.prog 16 #[.pointer (some ⟨g, 0, none⟩)] w
      fun e w' => e = .returned (.bool (doneV s r)) ∧ ∃ n, w' = w.drewN n := by
  obtain ⟨a, b⟩ := r
  obtain ⟨c0, c1, c2, hf⟩ := hk.frs
  simp only at c1 c2
  clear hk
  cases b with
  | true =>
    go_enter Try.func16, Try.ntmps16
    go_wp2
    go_quiet (fail)
    go_wp2
    go_ret
    exact ⟨by simp [doneV], _, rfl⟩
  | false =>
    go_enter Try.func16, Try.ntmps16
    go_wp2
    go_quiet (fail)
    go_wp2
    go_ret
    exact ⟨by simp [doneV]; rfl, _, rfl⟩

end Go.Proofs.Ytenjjepjmcijhaa
