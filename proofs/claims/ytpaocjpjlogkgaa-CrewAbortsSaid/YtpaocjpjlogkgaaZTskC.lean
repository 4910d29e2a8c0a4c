/-
  What slices.Clone of instructions and of tasks answers, in whatever memory: a row of one's own. No conditions but that there are at most 1,000.
-/
import Derived.Test.YtpaocjpjlogkgaaQWords
import Derived.OwnWalk
import Derived.Deep.DeepMust
import Derived.Deep.MidRow
import Derived.Lib.Agree
namespace Go.Proofs.Ytpaocjpjlogkgaa
open Go.RowKit
set_option maxRecDepth 100000

set_option maxHeartbeats 400000 in
theorem clone_inss (A : Option Addr) (n c : Nat) (xs : List Value) (w : World) (hA : Sl w 3 A n c xs) (hn : n ≤ 1000) (h1 : ∀ u ∈ xs, u.oneCell' = true) :
    Calls Try.prog 83 #[.slice A n c] w
      fun e w' => ∃ A' c', e = .returned (.slice A' n c') ∧ w'.ownsRow w.heap.size 57 3 (.slice A' n c') n xs ∧ Below w.heap.size w w' := by
  obtain ⟨i0, hi, hz0, hz1, hz2⟩ := infoIns
  have HA := Lib.hid hA
  have H1 := Lib.hid h1
  clear hA h1
  cases A with
  | none =>
    obtain ⟨rfl, rfl⟩ := HA.out.2.2.1 rfl
    have hq := Lib.run_eql_slice_nil (P := Try.prog) w 45 57 none 0 0 0 0 Try.underlying45
    go_enter Try.func83, Try.ntmps83
    go_wp2
    go_ret
    refine ⟨none, 0, rfl, ?_, Below.refl _ _⟩
    have := HA.out.1
    exact ⟨this, .inl ⟨rfl, rfl⟩⟩
  | some a =>
    have hq := Lib.run_eql_slice_nil (P := Try.prog) w 45 57 (some a) n c 0 0 Try.underlying45
    go_enter Try.func83, Try.ntmps83
    go_wp2_with (at_builtin; go_must (refine wpList_append_own _ rfl (.tmp 5) (.tmp 6) _ rfl w.heap.size 57 i0 _ 3 24 Try.underlying45 hi hz0 hz1 hz2 rfl (by decide) _ 0 [] rfl (World.ownsRow_lit w #[] 0 (Nat.le_refl _) (by decide) rfl) a n c xs rfl HA.out.1 ((HA.out.alloc _).olds a rfl) H1.out (by unfold maxLen; omega) (by omega) (by simp) ?_; intro v' w1 hown hg hnil))
    obtain ⟨A', c', rfl, hsl⟩ := Sl.own hown
    simp only [Nat.zero_add, List.nil_append] at hown
    go_wp2
    go_ret
    exact ⟨A', c', by simp, hown, ((Below.refl _ _).alloc (Nat.le_refl _) _).grown hg (by simp) (fun k hk => by
      have hk' : (Value.slice (some ⟨w.heap.size, 0, none⟩) 0 0).ownBlock = some k := hk
      simp [Value.ownBlock] at hk'
      omega)⟩

set_option maxHeartbeats 400000 in
theorem clone_tks (A : Option Addr) (n c : Nat) (xs : List Value) (w : World) (hA : Sl w 18 A n c xs) (hn : n ≤ 1000) (h1 : ∀ u ∈ xs, u.oneCell' = true) :
    Calls Try.prog 63 #[.slice A n c] w
      fun e w' => ∃ A' c', e = .returned (.slice A' n c') ∧ w'.ownsRow w.heap.size 70 18 (.slice A' n c') n xs ∧ Below w.heap.size w w' := by
  obtain ⟨i0, hi, hz0, hz1, hz2⟩ := infoTsk
  have HA := Lib.hid hA
  have H1 := Lib.hid h1
  clear hA h1
  cases A with
  | none =>
    obtain ⟨rfl, rfl⟩ := HA.out.2.2.1 rfl
    have hq := Lib.run_eql_slice_nil (P := Try.prog) w 28 70 none 0 0 0 0 Try.underlying28
    go_enter Try.func63, Try.ntmps63
    go_wp2
    go_ret
    refine ⟨none, 0, rfl, ?_, Below.refl _ _⟩
    have := HA.out.1
    exact ⟨this, .inl ⟨rfl, rfl⟩⟩
  | some a =>
    have hq := Lib.run_eql_slice_nil (P := Try.prog) w 28 70 (some a) n c 0 0 Try.underlying28
    go_enter Try.func63, Try.ntmps63
    go_wp2_with (at_builtin; go_must (refine wpList_append_own _ rfl (.tmp 5) (.tmp 6) _ rfl w.heap.size 70 i0 _ 18 256 Try.underlying28 hi hz0 hz1 hz2 rfl (by decide) _ 0 [] rfl (World.ownsRow_lit w #[] 0 (Nat.le_refl _) (by decide) rfl) a n c xs rfl HA.out.1 ((HA.out.alloc _).olds a rfl) H1.out (by unfold maxLen; omega) (by omega) (by simp) ?_; intro v' w1 hown hg hnil))
    obtain ⟨A', c', rfl, hsl⟩ := Sl.own hown
    simp only [Nat.zero_add, List.nil_append] at hown
    go_wp2
    go_ret
    exact ⟨A', c', by simp, hown, ((Below.refl _ _).alloc (Nat.le_refl _) _).grown hg (by simp) (fun k hk => by
      have hk' : (Value.slice (some ⟨w.heap.size, 0, none⟩) 0 0).ownBlock = some k := hk
      simp [Value.ownBlock] at hk'
      omega)⟩

theorem clone_tsks (A : Option Addr) (n c : Nat) (l : List TkL) (w : World) (h : Tks w A c l) (hN : l.length = n) (hn : n ≤ 1000) :
    Calls Try.prog 63 #[.slice A n c] w fun e w' => ∃ A' c', e = .returned (.slice A' n c') ∧ TkOwn w.heap.size w' A' n c' l ∧ Below w.heap.size w w' := by
  have hs := h.1
  rw [hN] at hs
  exact (clone_tks A n c _ w hs hn (tksW_one l)).mono fun e w' ⟨A', c', he, ho, hb⟩ => ⟨A', c', he, ⟨hN, ho, fun t ht => (h.2 t ht).below hb⟩, hb⟩

end Go.Proofs.Ytpaocjpjlogkgaa
