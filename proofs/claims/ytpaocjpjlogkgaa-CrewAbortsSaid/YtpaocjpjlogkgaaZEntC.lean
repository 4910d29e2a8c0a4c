/-
  slices.Clone of entries, in whatever memory; entries of noughts. No conditions but those that stand there.
-/
import Derived.Test.YtpaocjpjlogkgaaZEntM
import Derived.OwnWalk
namespace Go.Proofs.Ytpaocjpjlogkgaa
open Go.RowKit
set_option maxRecDepth 100000

set_option maxHeartbeats 400000 in
theorem clone_ents (A : Option Addr) (n c : Nat) (xs : List Value) (w : World) (hA : Sl w 9 A n c xs) (hn : n ≤ 1000) (h1 : ∀ u ∈ xs, u.oneCell' = true) :
    Calls Try.prog 94 #[.slice A n c] w
      fun e w' => ∃ A' c', e = .returned (.slice A' n c') ∧ w'.ownsRow w.heap.size 51 9 (.slice A' n c') n xs ∧ Below w.heap.size w w' := by
  obtain ⟨i0, hi, hz0, hz1, hz2⟩ := infoEntZ
  have HA := Lib.hid hA
  have H1 := Lib.hid h1
  clear hA h1
  cases A with
  | none =>
    obtain ⟨rfl, rfl⟩ := HA.out.2.2.1 rfl
    have hq := Lib.run_eql_slice_nil (P := Try.prog) w 26 51 none 0 0 0 0 Try.underlying26
    go_enter Try.func94, Try.ntmps94
    go_wp2
    go_ret
    refine ⟨none, 0, rfl, ?_, Below.refl _ _⟩
    have := HA.out.1
    exact ⟨this, .inl ⟨rfl, rfl⟩⟩
  | some a =>
    have hq := Lib.run_eql_slice_nil (P := Try.prog) w 26 51 (some a) n c 0 0 Try.underlying26
    go_enter Try.func94, Try.ntmps94
    go_wp2_with (at_builtin; go_must (refine wpList_append_own _ rfl (.tmp 5) (.tmp 6) _ rfl w.heap.size 51 i0 _ 9 72 Try.underlying26 hi hz0 hz1 hz2 rfl (by decide) _ 0 [] rfl (World.ownsRow_lit w #[] 0 (Nat.le_refl _) (by decide) rfl) a n c xs rfl HA.out.1 ((HA.out.alloc _).olds a rfl) H1.out (by unfold maxLen; omega) (by omega) (by simp) ?_; intro v' w1 hown hg hnil))
    obtain ⟨A', c', rfl, hsl⟩ := Sl.own hown
    simp only [Nat.zero_add, List.nil_append] at hown
    go_wp2
    go_ret
    exact ⟨A', c', by simp, hown, ((Below.refl _ _).alloc (Nat.le_refl _) _).grown hg (by simp) (fun k hk => by
      have hk' : (Value.slice (some ⟨w.heap.size, 0, none⟩) 0 0).ownBlock = some k := hk
      simp [Value.ownBlock] at hk'
      omega)⟩

/-- so many entries of noughts. -/
theorem made_ents (n : Nat) : (madeCells (bkC (entI entZ)) (n * 9)).toList = entsW (List.replicate n entZ) := by
  have h8 : Eight (List.replicate n entZ) := fun e he => by
    rw [(List.mem_replicate.1 he).2]
    rfl
  apply List.ext_getElem?
  intro j
  by_cases hj : j < n * 9
  · have e : j = j / 9 * 9 + j % 9 := by omega
    have h1 := entsW_at h8 (i := j / 9) (by simp; omega) (j := j % 9) (by omega)
    rw [← e] at h1
    rw [h1, List.getElem?_replicate, if_pos (by omega), Option.getD_some]
    have h2 : (bkC (entI entZ)).size = 9 := rfl
    have h3 : (madeCells (bkC (entI entZ)) (n * 9)).toList[j]? = some ((bkC (entI entZ))[j % 9]!) := by
      simp [madeCells, h2, hj]
    rw [h3]
    have h4 : ∀ k, k < 9 → (bkC (entI entZ))[k]! = .int .i64 ((entI entZ)[k]?.getD 0) := by
      intro k hk
      rcases (show k = 0 ∨ k = 1 ∨ k = 2 ∨ k = 3 ∨ k = 4 ∨ k = 5 ∨ k = 6 ∨ k = 7 ∨ k = 8 by omega) with rfl | rfl | rfl | rfl | rfl | rfl | rfl | rfl | rfl <;> rfl
    rw [h4 _ (by omega)]
  · have h2 : (entsW (List.replicate n entZ)).length = n * 9 := by rw [entsW_length h8]; simp
    rw [List.getElem?_eq_none (by simp [size_madeCells]; omega), List.getElem?_eq_none (by omega)]

end Go.Proofs.Ytpaocjpjlogkgaa
