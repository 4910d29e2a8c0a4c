/-
  What foremanlaw17.right answers, in whatever memory. No conditions but those that stand there.
-/
import Derived.Test.YtpaocjpjlogkgaaQWords
import Derived.Test.YtpaocjpjlogkgaaQRckA
import Derived.Handy
namespace Go.Proofs.Ytpaocjpjlogkgaa
open Go.RowKit
set_option maxRecDepth 100000

section
variable (l : List CmL) (A : Option Addr) (n c : Nat)

set_option maxHeartbeats 8000000 in
theorem right17_any (w : World) (h : Cmds w A c l) (hN : l.length = n) (hz : n ≤ 9223372036854775807) (b : Bool) (hb : b = true ↔ ((∀ x ∈ l, MayBe x.c ∧ fitsT x.c 6) ∧ n ≤ 20)) :
    Calls Try.prog 6 #[.slice A n c] w fun e w' => e = .returned (.bool b) ∧ Below w.heap.size w w' := by
  have hcap := h.cap
  rw [hN] at hcap
  have H := Lib.hid h
  have HN := Lib.hid hN
  have no : Hid (∀ (i : Nat) (x : CmL), l[i]? = some x → ¬ (MayBe x.c ∧ fitsT x.c 6) → b = false) := Lib.hid (fun i x hx hn => by
    cases b with
    | false => rfl
    | true => exact absurd ((hb.1 rfl).1 x (List.mem_of_getElem? hx)) hn)
  have fin : Hid ((∀ (i : Nat) (x : CmL), i < n → l[i]? = some x → MayBe x.c ∧ fitsT x.c 6) → b = decide (n ≤ 20)) := Lib.hid (fun hall => by
    have ha : ∀ x ∈ l, MayBe x.c ∧ fitsT x.c 6 := fun x hx => by
      obtain ⟨i, hi⟩ := List.getElem?_of_mem hx
      refine hall i x ?_ hi
      rcases Nat.lt_or_ge i n with q | q
      · exact q
      · rw [List.getElem?_eq_none (by omega)] at hi; cases hi
    by_cases q : n ≤ 20
    · rw [decide_eq_true q]
      exact hb.2 ⟨ha, q⟩
    · rw [decide_eq_false q]
      cases b with
      | false => rfl
      | true => exact absurd (hb.1 rfl).2 q)
  clear h hN hb
  go_enter Try.func6, Try.ntmps6
  go_wp2
  go_loopw [3] (fun cc wr => ∃ i : Nat, i ≤ n ∧ cc = .int .i64 i ∧ Hid (∀ (j : Nat) (x : CmL), j < i → l[j]? = some x → MayBe x.c ∧ fitsT x.c 6) ∧ Hid (Below w.heap.size w wr)) (fun cc _ => n - (intOf cc).toNat)
  case atStart => exact ⟨0, Nat.zero_le _, rfl, Lib.hid (fun j x hj => absurd hj (by omega)), Lib.hid (Below.refl _ _)⟩
  case round =>
    obtain ⟨i, hi, rfl, HP, HB⟩ := hrel
    by_cases hlt : i < n
    · have d1 : (i : Int) < (n : Int) := by omega
      have d2 : (i : Int) < (c : Int) := by omega
      obtain ⟨x, hx⟩ := cml_at (l := l) (i := i) (by rw [HN.out]; exact hlt)
      obtain ⟨bb, off, rfl, hA⟩ := (H.out.below HB.out).lies hx
      obtain ⟨c0, c1, c2, c3, c4, cl⟩ := hA _ (Below.refl _ _)
      obtain ⟨-, -, -, -, -, -, -, -, -, hI⟩ := (H.out.below HB.out).at hx
      have hno := no.out i x hx
      have HX := Lib.hid hx
      obtain ⟨cmd, ra, nr, rc, wa, nw, wc, aa, na, ac, ca, nc, cc⟩ := x
      simp only at c0 c1 c2 c3 c4 hno
      have hR : CmRaw wr cmd ra nr rc wa nw wc aa na ac ca nc cc := hI
      have hfew : MayBe cmd → nr ≤ 8 ∧ nw ≤ 8 ∧ na ≤ 8 ∧ nc ≤ 64 := fun hm => by
        obtain ⟨f1, f2, f3, f4, -⟩ := hm.few
        have := hR.lr
        have := hR.lw
        have := hR.la
        have := hR.lc
        omega
      by_cases g1 : nr ≤ 8
      rotate_left
      · obtain rfl := hno (fun q => g1 (hfew q.1).1)
        have e1 : (8 : Int) < (nr : Int) := by omega
        clear hno hfew hR hI hx hA HX no fin
        generalize cmd.fuel = fuel at *
        go_wp2
        go_ret
        exact ⟨rfl, HB.out⟩
      have e1 : ¬ (8 : Int) < (nr : Int) := by omega
      have e1' : decide ((8 : Int) < (nr : Int)) = false := decide_eq_false e1
      by_cases g2 : nw ≤ 8
      rotate_left
      · obtain rfl := hno (fun q => g2 (hfew q.1).2.1)
        have e2 : (8 : Int) < (nw : Int) := by omega
        clear hno hfew hR hI hx hA HX no fin
        generalize cmd.fuel = fuel at *
        go_wp2
        go_ret
        exact ⟨rfl, HB.out⟩
      have e2 : ¬ (8 : Int) < (nw : Int) := by omega
      have e2' : decide ((8 : Int) < (nw : Int)) = false := decide_eq_false e2
      by_cases g3 : nc ≤ 64
      rotate_left
      · obtain rfl := hno (fun q => g3 (hfew q.1).2.2.2)
        have e3 : (64 : Int) < (nc : Int) := by omega
        clear hno hfew hR hI hx hA HX no fin
        generalize cmd.fuel = fuel at *
        go_wp2
        go_ret
        exact ⟨rfl, HB.out⟩
      have e3 : ¬ (64 : Int) < (nc : Int) := by omega
      have e3' : decide ((64 : Int) < (nc : Int)) = false := decide_eq_false e3
      obtain ⟨z, hz0, hck⟩ := rcheck_may cmd ra nr rc wa nw wc aa na ac ca nc cc wr hR g1 g2 g3
      have HCK := Lib.hid (hck _ (Below.refl _ _))
      by_cases g4 : z = 0
      rotate_left
      · obtain rfl := hno (fun q => g4 (hz0.2 q.1))
        clear hno hfew hR hI hx hA HX no fin hz0 hck
        generalize cmd.fuel = fuel at *
        go_wp2_with (go_at_call 14; go_must ((with_reducible refine HCK.out.mono ?_); rintro e w1 ⟨rfl, hb1⟩; have B1 := Lib.hid (bnext HB.out hb1); clear hb1))
        go_ret
        exact ⟨rfl, B1.out⟩
      subst g4
      have hm := hz0.1 rfl
      obtain ⟨h1, h2, h3, h4⟩ := hfew hm
      have hC : CmIn wr cmd ra nr rc wa nw wc aa na ac ca nc cc := ⟨hR.lr, hR.lw, hR.la, hR.lc, hR.reads, hR.writes, hR.args, hR.code, by omega, by omega, by omega, by omega⟩
      have HA : Hid (∀ X, Below wr.heap.size wr X → X.cell? ⟨bb, off + i * 5, none⟩ = some (.slice ra nr rc) ∧ X.cell? ⟨bb, off + i * 5 + 1, none⟩ = some (.slice wa nw wc) ∧ X.cell? ⟨bb, off + i * 5 + 2, none⟩ = some (.slice aa na ac) ∧ X.cell? ⟨bb, off + i * 5 + 3, none⟩ = some (.int .i64 cmd.fuel) ∧ X.cell? ⟨bb, off + i * 5 + 4, none⟩ = some (.slice ca nc cc) ∧ bb < X.heap.size) := Lib.hid hA
      clear hA
      by_cases g5 : fitsT cmd 6
      · have HF := Lib.hid (fun W (hW : Below wr.heap.size wr W) => (show Calls Try.prog 15 #[cmV ra nr rc wa nw wc aa na ac cmd.fuel ca nc cc, .int .i64 6] W _ from fits_any cmd ra nr rc wa nw wc aa na ac ca nc cc 6 true W (hC.below hW) ⟨fun _ => g5, fun _ => rfl⟩))
        have HP2 : Hid (∀ (j : Nat) (x : CmL), j < i + 1 → l[j]? = some x → MayBe x.c ∧ fitsT x.c 6) := Lib.hid (fun j y hj hy => by
          by_cases e : j = i
          · subst e
            have := HX.out
            rw [hy] at this
            injection this with this
            rw [this]
            exact ⟨hm, g5⟩
          · exact HP.out j y (by omega) hy)
        clear hno hfew hR hI hx HX hz0 hck hm hC g5
        generalize cmd.fuel = fuel at *
        go_wp2_with (first
          | (go_at_call 14; go_must ((with_reducible refine HCK.out.mono ?_); rintro e w1 ⟨rfl, hb1⟩; have B1 := Lib.hid hb1; clear c0 c1 c2 c3 c4 cl; obtain ⟨c0, c1, c2, c3, c4, cl⟩ := HA.out _ hb1; clear hb1))
          | (go_at_call 15; go_must ((with_reducible refine (HF.out _ B1.out).mono ?_); rintro e w2 ⟨rfl, hb2⟩; have B2 := Lib.hid (bnext HB.out (bnext B1.out hb2)); clear hb2 c0 c1 c2 c3 c4 cl)))
        go_roundw
        case rel => exact ⟨i + 1, by omega, by go_num, HP2, B2⟩
        case measure => simp [intOf]; omega
      · have HF := Lib.hid (fun W (hW : Below wr.heap.size wr W) => (show Calls Try.prog 15 #[cmV ra nr rc wa nw wc aa na ac cmd.fuel ca nc cc, .int .i64 6] W _ from fits_any cmd ra nr rc wa nw wc aa na ac ca nc cc 6 false W (hC.below hW) ⟨fun q => (by cases q), fun q => absurd q g5⟩))
        obtain rfl := hno (fun q => g5 q.2)
        clear hno hfew hR hI hx HX hz0 hck hm hC g5
        generalize cmd.fuel = fuel at *
        go_wp2_with (first
          | (go_at_call 14; go_must ((with_reducible refine HCK.out.mono ?_); rintro e w1 ⟨rfl, hb1⟩; have B1 := Lib.hid hb1; clear c0 c1 c2 c3 c4 cl; obtain ⟨c0, c1, c2, c3, c4, cl⟩ := HA.out _ hb1; clear hb1))
          | (go_at_call 15; go_must ((with_reducible refine (HF.out _ B1.out).mono ?_); rintro e w2 ⟨rfl, hb2⟩; have B2 := Lib.hid (bnext HB.out (bnext B1.out hb2)); clear hb2 c0 c1 c2 c3 c4 cl)))
        go_ret
        exact ⟨rfl, B2.out⟩
    · obtain rfl : n = i := by omega
      have hf := fin.out (fun j x hj hx => HP.out j x hj hx)
      clear hlt
      by_cases q : n ≤ 20
      · rw [decide_eq_true q] at hf
        subst hf
        have q1 : (n : Int) ≤ 20 := by omega
        have q2 : decide ((n : Int) ≤ 20) = true := decide_eq_true q1
        clear no fin
        go_wp2
        go_ret
        exact ⟨by first | rfl | simp [q], HB.out⟩
      · rw [decide_eq_false q] at hf
        subst hf
        have q1 : ¬ (n : Int) ≤ 20 := by omega
        have q2 : decide ((n : Int) ≤ 20) = false := decide_eq_false q1
        clear no fin
        go_wp2
        go_ret
        exact ⟨by first | rfl | simp [q], HB.out⟩

end
end Go.Proofs.Ytpaocjpjlogkgaa
