/-
  What foremanref14.Has answers, in whatever memory, of lists of at most 10000 who wait. No conditions but those that stand there.
-/
import Derived.Test.YtldljohholgmoaaZWntM
import Derived.Test.YtldljohholgmoaaQStr
import Derived.OwnWalk
namespace Go.Proofs.Ytldljohholgmoaa
open Go.RowKit

theorem hasS_no {l : List Wnt} {i : Nat} {s : Int} {x : Wnt} (h : ∀ j y, j < i → l[j]? = some y → (decide (y.seq = s) && y.has) = false) (hx : l[i]? = some x) (hp : (decide (x.seq = s) && x.has) = false) : ∀ j y, j < i + 1 → l[j]? = some y → (decide (y.seq = s) && y.has) = false := fun j y hj hy => by
  by_cases he : j = i
  · subst he
    rw [hx] at hy
    injection hy with hy
    rw [← hy]
    exact hp
  · exact h j y (by omega) hy

set_option maxHeartbeats 8000000 in
theorem rhas_any (l : List Wnt) (A : Option Addr) (n c : Nat) (s : Int) (w : World) (h : Wnts w A c l) (hN : l.length = n) (hz : n ≤ 100000) :
    Calls Try.prog 45 #[.slice A n c, .int .i64 s] w fun e w' => e = .returned (.bool (hasS l s)) ∧ Below w.heap.size w w' := by
  have H := Lib.hid h
  have HN := Lib.hid hN
  have hnc : n ≤ c := by have := h.2.1; omega
  obtain ⟨r, hr⟩ : ∃ r, r = hasS l s := ⟨_, rfl⟩
  rw [← hr]
  have R := Lib.hid hr
  clear h hN hr
  go_enter Try.func45, Try.ntmps45
  go_wp2
  go_loop [5] (fun cc => ∃ i : Nat, i ≤ n ∧ cc = .int .i64 i ∧ Hid (∀ j y, j < i → l[j]? = some y → (decide (y.seq = s) && y.has) = false)) (fun cc => n - (intOf cc).toNat)
  case atStart => exact ⟨0, Nat.zero_le _, rfl, Lib.hid (fun j y hj => absurd hj (by omega))⟩
  case round =>
    obtain ⟨i, hi, rfl, HB⟩ := hrel
    by_cases hlt : i < n
    · have d1 : (i : Int) < (n : Int) := by omega
      have d2 : (i : Int) < (c : Int) := by omega
      obtain ⟨x, hx⟩ := wnt_at (l := l) (i := i) (by rw [HN.out]; exact hlt)
      obtain ⟨bb, off, rfl, hbl, x0, x1, x2⟩ := Wnts.at H.out hx
      obtain ⟨sx, ax, bx⟩ := x
      by_cases hs : sx = s
      · have e1 : (sx == s) = true := by simp [hs]
        cases bx with
        | true =>
          obtain rfl : true = r := by
            rw [R.out]
            exact (List.any_eq_true.2 ⟨_, List.mem_of_getElem? hx, by simp [hs]⟩).symm
          clear hx hs
          go_wp2
          go_ret
          exact ⟨rfl, Below.refl _ _⟩
        | false =>
          have HB2 := Lib.hid (hasS_no HB.out hx (by simp))
          clear hx hs
          go_wp2
          go_round
          case rel => exact ⟨i + 1, by omega, by go_num, HB2⟩
          case measure => simp [intOf]; omega
      · have e1 : (sx == s) = false := beq_eq_false_iff_ne.2 hs
        have HB2 := Lib.hid (hasS_no HB.out hx (by simp [hs]))
        clear hx hs
        go_wp2
        go_round
        case rel => exact ⟨i + 1, by omega, by go_num, HB2⟩
        case measure => simp [intOf]; omega
    · obtain rfl : i = n := by omega
      obtain rfl : false = r := by
        rw [R.out]
        refine (List.any_eq_false.2 fun y hy => ?_).symm
        obtain ⟨j, hj⟩ := List.getElem?_of_mem hy
        have hjl : j < l.length := by
          rcases Nat.lt_or_ge j l.length with h | h
          · exact h
          · rw [List.getElem?_eq_none h] at hj; cases hj
        rw [HB.out j y (by rw [← HN.out]; exact hjl) hj]
        decide
      clear hlt
      go_wp2
      go_ret
      exact ⟨rfl, Below.refl _ _⟩

end Go.Proofs.Ytldljohholgmoaa
