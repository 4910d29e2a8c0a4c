/-
  What tells of layer 5's laws answers, in whatever memory: true only of instructions that may be told.
-/
import Derived.Test.YtjbhhlhaikmecaaDoorAsmRt
namespace Go.Proofs.YtjbhhlhaikmecaaDoor
open Go.RowKit

/-- the first n are as they should be. -/
def toldTo (l : List Ins) (n : Nat) : Prop := ∀ j, j < n → goodIns (insAt l j) ∧ (jumpsN (insAt l j).op → 0 ≤ (insAt l j).a ∧ (insAt l j).a ≤ (l.length : Int) - j - 1)
theorem toldTo_succ {l : List Ins} {n : Nat} (h : toldTo l n) (hn : goodIns (insAt l n) ∧ (jumpsN (insAt l n).op → 0 ≤ (insAt l n).a ∧ (insAt l n).a ≤ (l.length : Int) - n - 1)) : toldTo l (n + 1) := fun j hj => by
  rcases Nat.lt_or_eq_of_le (Nat.le_of_lt_succ hj) with q | q
  · exact h j q
  · subst q; exact hn
theorem toldTo_all {l : List Ins} (h : toldTo l l.length) (hl : l.length ≤ 64) : tellable l := ⟨hl, fun i hi => (h i hi).1, fun i hi => (h i hi).2⟩

theorem good_of {op a b : Int} {tk : Nat} (h : tk = takesN op) (h1 : ¬ op < 1) (h2 : ¬ 17 < op) (hA : tk < 1 → a = 0) (hB : tk < 2 → b = 0) (a1 : ¬ 1099511627776 < a) (a2 : ¬ a < -1099511627776) (b1 : ¬ 1099511627776 < b) (b2 : ¬ b < -1099511627776) : goodIns ⟨op, a, b⟩ :=
  ⟨(show 1 ≤ op ∧ op ≤ 17 by omega), fun q => hA (by rw [h]; exact q), fun q => hB (by rw [h]; exact q), (show -1099511627776 ≤ a ∧ a ≤ 1099511627776 by omega), (show -1099511627776 ≤ b ∧ b ≤ 1099511627776 by omega)⟩

set_option maxRecDepth 100000 in
set_option maxHeartbeats 16000000 in
theorem tells_any (l : List Ins) (A : Option Addr) (c : Nat) (w : World) (h : Inss w A c l) (hz : l.length ≤ 9223372036854775807) :
    Calls Tryd.prog 18 #[.slice A l.length c] w fun e w' => ∃ b, e = .returned (.bool b) ∧ (b = true → tellable l) ∧ Below w.heap.size w w' := by
  have h' := Lib.hid h
  have hcap := h.2.1
  obtain ⟨N, hN⟩ : ∃ N, N = l.length := ⟨_, rfl⟩
  have hN' := Lib.hid hN
  rw [← hN] at hz hcap ⊢
  clear h hN
  go_enter Tryd.func18, Tryd.ntmps18
  go_wp2
  go_loopw [3] (fun cc wr => ∃ i : Nat, i ≤ N ∧ cc = .int .i64 i ∧ Below w.heap.size w wr ∧ Hid (toldTo l i)) (fun cc _ => N - (intOf cc).toNat)
  case atStart => exact ⟨0, Nat.zero_le _, rfl, Below.refl _ _, Lib.hid (fun j hj => by omega)⟩
  case round =>
    obtain ⟨i, hi, rfl, hb, HT⟩ := hrel
    by_cases hlt : i < N
    · have hil : i < l.length := by rw [← hN'.out]; exact hlt
      obtain ⟨b, off, rfl, hbl, x0, x1, x2⟩ := (h'.out.below hb).cellAt hil
      have hst : Hid (goodIns (insAt l i) ∧ (jumpsN (insAt l i).op → 0 ≤ (insAt l i).a ∧ (insAt l i).a ≤ (N : Int) - i - 1) → toldTo l (i + 1)) := Lib.hid (fun hn => toldTo_succ HT.out (by rw [← hN'.out]; exact hn))
      have htk : Hid (∀ W : World, _) := Lib.hid (fun W => rtakes_any (insAt l i).op W)
      have htl := takes_le (insAt l i).op
      have htj : jumpsN (insAt l i).op → takesN (insAt l i).op = 1 := takes_jump
      have hgd : Hid (takesN (insAt l i).op = takesN (insAt l i).op) := Lib.hid rfl
      clear HT
      generalize insAt l i = x at *
      have hB1 : Hid (Below w.heap.size w (wr.alloc (.cells #[.int .i64 x.op, .int .i64 x.a, .int .i64 x.b] 35))) := Lib.hid (hb.alloc hb.size _)
      have d0 : (i : Int) < (N : Int) := by omega
      have d1 : (i : Int) < (c : Int) := by omega
      have hT : Hid (takesN x.op = takesN x.op) := Lib.hid rfl
      obtain ⟨tk, htk0⟩ : ∃ tk, tk = takesN x.op := ⟨_, rfl⟩
      have htk' := Lib.hid htk0
      rw [← htk0] at htk htl htj
      clear htk0 hT hgd
      obtain ⟨op, xa, xb⟩ := x
      simp only at *
      by_cases c1 : op < 1
      · go_wp2_with (go_at_call 13; go_must ((with_reducible refine (htk.out _).mono ?_); rintro e w1 ⟨rfl, rfl⟩))
        go_ret
        exact ⟨false, rfl, fun h => (by cases h), hB1.out⟩
      · by_cases c2 : 17 < op
        · go_wp2_with (go_at_call 13; go_must ((with_reducible refine (htk.out _).mono ?_); rintro e w1 ⟨rfl, rfl⟩))
          go_ret
          exact ⟨false, rfl, fun h => (by cases h), hB1.out⟩
        · rcases (show tk = 0 ∨ tk = 1 ∨ tk = 2 by omega) with t0 | t0 | t0
          · rw [t0] at htk
            by_cases n1 : xa ≠ 0
            · have e1 : (xa != 0) = true := by simpa using n1
              go_wp2_with (go_at_call 13; go_must ((with_reducible refine (htk.out _).mono ?_); rintro e w1 ⟨rfl, rfl⟩))
              go_ret
              exact ⟨false, rfl, fun h => (by cases h), hB1.out⟩
            · obtain rfl : xa = 0 := by omega
              by_cases n2 : xb ≠ 0
              · have e2 : (xb != 0) = true := by simpa using n2
                go_wp2_with (go_at_call 13; go_must ((with_reducible refine (htk.out _).mono ?_); rintro e w1 ⟨rfl, rfl⟩))
                go_ret
                exact ⟨false, rfl, fun h => (by cases h), hB1.out⟩
              · obtain rfl : xb = 0 := by omega
                have k1 : ¬ op = 13 := fun h => by have := htj (.inl h); omega
                have k2 : ¬ op = 14 := fun h => by have := htj (.inr h); omega
                have e3 : (op == 13) = false := by simpa using k1
                have e4 : (op == 14) = false := by simpa using k2
                have hst' : Hid (toldTo l (i + 1)) := Lib.hid (hst.out ⟨good_of htk'.out c1 c2 (fun _ => by omega) (fun _ => by omega) (by omega) (by omega) (by omega) (by omega), fun hj => (by rcases hj with hj | hj; exact absurd hj k1; exact absurd hj k2)⟩)
                clear hst k1 k2 htj
                go_wp2_with (go_at_call 13; go_must ((with_reducible refine (htk.out _).mono ?_); rintro e w1 ⟨rfl, rfl⟩))
                go_roundw
                case rel => exact ⟨i + 1, by omega, by go_num, hB1.out, hst'⟩
                case measure => simp [intOf]; omega
          · rw [t0] at htk
            by_cases n2 : xb ≠ 0
            · have e2 : (xb != 0) = true := by simpa using n2
              go_wp2_with (go_at_call 13; go_must ((with_reducible refine (htk.out _).mono ?_); rintro e w1 ⟨rfl, rfl⟩))
              go_ret
              exact ⟨false, rfl, fun h => (by cases h), hB1.out⟩
            · obtain rfl : xb = 0 := by omega
              by_cases r1 : 1099511627776 < xa
              · go_wp2_with (go_at_call 13; go_must ((with_reducible refine (htk.out _).mono ?_); rintro e w1 ⟨rfl, rfl⟩))
                go_ret
                exact ⟨false, rfl, fun h => (by cases h), hB1.out⟩
              · by_cases r2 : xa < -1099511627776
                · go_wp2_with (go_at_call 13; go_must ((with_reducible refine (htk.out _).mono ?_); rintro e w1 ⟨rfl, rfl⟩))
                  go_ret
                  exact ⟨false, rfl, fun h => (by cases h), hB1.out⟩
                · by_cases k1 : op = 13
                  · have e3 : (op == 13) = true := by simpa using k1
                    by_cases p1 : xa < 0
                    · clear k1 htj
                      go_wp2_with (go_at_call 13; go_must ((with_reducible refine (htk.out _).mono ?_); rintro e w1 ⟨rfl, rfl⟩))
                      go_ret
                      exact ⟨false, rfl, fun h => (by cases h), hB1.out⟩
                    · by_cases p2 : (N : Int) - (i : Int) - 1 < xa
                      · clear k1 htj
                        go_wp2_with (go_at_call 13; go_must ((with_reducible refine (htk.out _).mono ?_); rintro e w1 ⟨rfl, rfl⟩))
                        go_ret
                        exact ⟨false, rfl, fun h => (by cases h), hB1.out⟩
                      · have hst' : Hid (toldTo l (i + 1)) := Lib.hid (hst.out ⟨good_of htk'.out c1 c2 (fun _ => by omega) (fun _ => by omega) (by omega) (by omega) (by omega) (by omega), fun _ => (show 0 ≤ xa ∧ xa ≤ (N : Int) - (i : Int) - 1 by omega)⟩)
                        clear hst k1 htj
                        go_wp2_with (go_at_call 13; go_must ((with_reducible refine (htk.out _).mono ?_); rintro e w1 ⟨rfl, rfl⟩))
                        go_roundw
                        case rel => exact ⟨i + 1, by omega, by go_num, hB1.out, hst'⟩
                        case measure => simp [intOf]; omega
                  · have e3 : (op == 13) = false := by simpa using k1
                    by_cases k2 : op = 14
                    · have e4 : (op == 14) = true := by simpa using k2
                      by_cases p1 : xa < 0
                      · clear k2 htj
                        go_wp2_with (go_at_call 13; go_must ((with_reducible refine (htk.out _).mono ?_); rintro e w1 ⟨rfl, rfl⟩))
                        go_ret
                        exact ⟨false, rfl, fun h => (by cases h), hB1.out⟩
                      · by_cases p2 : (N : Int) - (i : Int) - 1 < xa
                        · clear k2 htj
                          go_wp2_with (go_at_call 13; go_must ((with_reducible refine (htk.out _).mono ?_); rintro e w1 ⟨rfl, rfl⟩))
                          go_ret
                          exact ⟨false, rfl, fun h => (by cases h), hB1.out⟩
                        · have hst' : Hid (toldTo l (i + 1)) := Lib.hid (hst.out ⟨good_of htk'.out c1 c2 (fun _ => by omega) (fun _ => by omega) (by omega) (by omega) (by omega) (by omega), fun _ => (show 0 ≤ xa ∧ xa ≤ (N : Int) - (i : Int) - 1 by omega)⟩)
                          clear hst k2 htj
                          go_wp2_with (go_at_call 13; go_must ((with_reducible refine (htk.out _).mono ?_); rintro e w1 ⟨rfl, rfl⟩))
                          go_roundw
                          case rel => exact ⟨i + 1, by omega, by go_num, hB1.out, hst'⟩
                          case measure => simp [intOf]; omega
                    · have e4 : (op == 14) = false := by simpa using k2
                      have hst' : Hid (toldTo l (i + 1)) := Lib.hid (hst.out ⟨good_of htk'.out c1 c2 (fun _ => by omega) (fun _ => by omega) (by omega) (by omega) (by omega) (by omega), fun hj => (by rcases hj with hj | hj; exact absurd hj k1; exact absurd hj k2)⟩)
                      clear hst k1 k2 htj
                      go_wp2_with (go_at_call 13; go_must ((with_reducible refine (htk.out _).mono ?_); rintro e w1 ⟨rfl, rfl⟩))
                      go_roundw
                      case rel => exact ⟨i + 1, by omega, by go_num, hB1.out, hst'⟩
                      case measure => simp [intOf]; omega
          · rw [t0] at htk
            by_cases r1 : 1099511627776 < xa
            · go_wp2_with (go_at_call 13; go_must ((with_reducible refine (htk.out _).mono ?_); rintro e w1 ⟨rfl, rfl⟩))
              go_ret
              exact ⟨false, rfl, fun h => (by cases h), hB1.out⟩
            · by_cases r2 : xa < -1099511627776
              · go_wp2_with (go_at_call 13; go_must ((with_reducible refine (htk.out _).mono ?_); rintro e w1 ⟨rfl, rfl⟩))
                go_ret
                exact ⟨false, rfl, fun h => (by cases h), hB1.out⟩
              · by_cases r3 : 1099511627776 < xb
                · go_wp2_with (go_at_call 13; go_must ((with_reducible refine (htk.out _).mono ?_); rintro e w1 ⟨rfl, rfl⟩))
                  go_ret
                  exact ⟨false, rfl, fun h => (by cases h), hB1.out⟩
                · by_cases r4 : xb < -1099511627776
                  · go_wp2_with (go_at_call 13; go_must ((with_reducible refine (htk.out _).mono ?_); rintro e w1 ⟨rfl, rfl⟩))
                    go_ret
                    exact ⟨false, rfl, fun h => (by cases h), hB1.out⟩
                  · have k1 : ¬ op = 13 := fun h => by have := htj (.inl h); omega
                    have k2 : ¬ op = 14 := fun h => by have := htj (.inr h); omega
                    have e3 : (op == 13) = false := by simpa using k1
                    have e4 : (op == 14) = false := by simpa using k2
                    have hst' : Hid (toldTo l (i + 1)) := Lib.hid (hst.out ⟨good_of htk'.out c1 c2 (fun _ => by omega) (fun _ => by omega) (by omega) (by omega) (by omega) (by omega), fun hj => (by rcases hj with hj | hj; exact absurd hj k1; exact absurd hj k2)⟩)
                    clear hst k1 k2 htj
                    go_wp2_with (go_at_call 13; go_must ((with_reducible refine (htk.out _).mono ?_); rintro e w1 ⟨rfl, rfl⟩))
                    go_roundw
                    case rel => exact ⟨i + 1, by omega, by go_num, hB1.out, hst'⟩
                    case measure => simp [intOf]; omega
    · obtain rfl : i = N := by omega
      by_cases h64 : i ≤ 64
      · have hd : (i : Int) ≤ 64 := by omega
        have hfin := Lib.hid (toldTo_all (by rw [← hN'.out]; exact HT.out) (by rw [← hN'.out]; exact h64))
        go_wp2
        go_ret
        exact ⟨true, rfl, fun _ => hfin.out, hb⟩
      · have hd : ¬ (i : Int) ≤ 64 := by omega
        go_wp2
        go_ret
        first
          | exact ⟨false, rfl, fun h => (by cases h), hb⟩
          | exact .inl ⟨rfl, hb⟩

end Go.Proofs.YtjbhhlhaikmecaaDoor
