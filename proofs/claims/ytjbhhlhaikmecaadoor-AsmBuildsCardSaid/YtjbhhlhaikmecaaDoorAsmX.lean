/-
  An error isn't nought; Same where a length goes by another name. No conditions but those that stand there.
-/
import Derived.Test.YtjbhhlhaikmecaaDoorAsmV
namespace Go.Proofs.YtjbhhlhaikmecaaDoor
open Go.RowKit

def errOk (x : BS) : Prop := ∀ e, x.mode = .bad e → 0 < e
theorem push_errOk {x : BS} {i : Ins} {g : List Nat} : errOk (pushB x i g) := by
  unfold pushB
  split
  · intro e h; injection h with h; omega
  · intro e h; cases h
theorem step_errOk {x : BS} (h : errOk x) (t : Tok) : errOk (stepB x t) := by
  have hb : ∀ n, 0 < n → errOk { x with mode := .bad n } := fun n hn e h => by injection h with h; omega
  unfold stepB
  split
  · rename_i hm
    split
    · split
      · exact hb 10 (by decide)
      · intro e h; exact absurd (hm.symm.trans h) (by simp)
    · split
      · exact hb 5 (by decide)
      · split
        · exact push_errOk
        · intro e h; cases h
  · split
    · split
      · exact push_errOk
      · exact hb 5 (by decide)
    · split
      · exact hb 5 (by decide)
      · split
        · exact push_errOk
        · intro e h; cases h
  · split
    · exact hb 5 (by decide)
    · exact push_errOk
  · exact h
theorem fold_errOk : ∀ (l : List Tok) (x : BS), errOk x → errOk (foldB x l)
  | [], _, h => h
  | t :: l, _, h => fold_errOk l _ (step_errOk h t)
theorem fin_err {x : BS} (h : errOk x) {n : Nat} (he : finB x = .error n) : 0 < n := by
  unfold finB at he
  split at he
  · split at he
    · cases he
    · injection he with he; omega
  · injection he with he; omega
  · injection he with he; omega
  · rename_i e hm
    injection he with he
    have := h e hm
    omega
theorem build_err {s : List Nat} {n : Nat} (h : buildN s = .error n) : 0 < n := by
  unfold buildN at h
  split at h
  · injection h with h; omega
  · split at h
    · injection h with h; omega
    · exact fin_err (fold_errOk _ _ (fun e h => by cases h)) h

theorem sameL (l : List Ins) (N : Nat) (hN : l.length = N) (A : Option Addr) (c : Nat) (B : Option Addr) (d : Nat) (w : World) (h1 : Inss w A c l) (h2 : Inss w B d l) (hn : N ≤ 1099511627776) :
    Calls Tryd.prog 11 #[.slice A N c, .slice B N d] w fun e w' => e = .returned (.bool true) ∧ Below w.heap.size w w' := by
  subst hN
  exact sameI l A c B d w h1 h2 hn

end Go.Proofs.YtjbhhlhaikmecaaDoor
