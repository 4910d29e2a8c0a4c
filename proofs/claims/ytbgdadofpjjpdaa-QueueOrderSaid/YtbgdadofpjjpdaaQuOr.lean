/-
  QueueOrder, walked: true of any numbers, any bools and any number, in whatever memory.
-/
import Derived.Test.YtbgdadofpjjpdaaQueV
import Derived.Test.YtbgdadofpjjpdaaOpenIs
import Derived.Test.YtbgdadofpjjpdaaOpenBo
import Derived.Deep.QuietTactic
import Derived.BigQuiet
namespace Go.Proofs.Ytbgdadofpjjpdaa
open Go.RowKit Go.Shelf
attribute [local go_sem] look findAt
attribute [local simp] depsOf isV Region.binds

section
variable (S : List Int) (sA : Option Addr) (sn sc : Nat) (E : List Bool) (eA : Option Addr) (en ec : Nat) (gone : Int)

set_option maxHeartbeats 4000000 in
theorem queueOrder_no (hno : 60 < sn ∨ en < sn) (w : World) :
    Calls Try.prog 5 #[.slice sA sn sc, .slice eA en ec, .int .i64 gone] w fun e w' => e = .returned (.bool true) ∧ Below w.heap.size w w' := by
  have aw := Lib.hid (fun W => awake14 W)
  by_cases h1 : 60 < sn
  · have d1 : decide ((60 : Int) < (sn : Int)) = true := decide_eq_true (by omega)
    have d2 : decide (60 < sn) = true := decide_eq_true h1
    clear hno
    go_enter Try.func5, Try.ntmps5
    go_wp2_with (go_at_call 7; go_must ((with_reducible refine (aw.out _).mono ?_); rintro e w2 ⟨rfl, hb2⟩; have B2 := Lib.hid hb2))
    go_ret
    exact ⟨rfl, B2.out⟩
  · have h2 : en < sn := by omega
    have d1 : decide ((60 : Int) < (sn : Int)) = false := decide_eq_false (by omega)
    have d2 : decide (60 < sn) = false := decide_eq_false h1
    have d3 : decide ((en : Int) < (sn : Int)) = true := decide_eq_true (by omega)
    have d4 : decide (en < sn) = true := decide_eq_true h2
    clear hno
    go_enter Try.func5, Try.ntmps5
    go_wp2_with (go_at_call 7; go_must ((with_reducible refine (aw.out _).mono ?_); rintro e w2 ⟨rfl, hb2⟩; have B2 := Lib.hid hb2))
    go_ret
    exact ⟨rfl, B2.out⟩

theorem Bools.at {w : World} {A : Option Addr} {c : Nat} {l : List Bool} (h : Bools w A c l) {i : Nat} (hi : i < l.length) : ∃ b off, A = some ⟨b, off, none⟩ ∧ b < w.heap.size ∧ w.cell? ⟨b, off + i, none⟩ = some (.bool (l[i]?.getD false)) := by
  obtain ⟨b, off, rfl, hb, hc⟩ := h.2.2.2 (by omega)
  refine ⟨b, off, rfl, hb, ?_⟩
  rw [hc i (by omega)]
  simp [hi]

set_option maxHeartbeats 32000000 in
set_option maxRecDepth 100000 in
theorem queueOrder_main (h60 : sn ≤ 60) (hle : sn ≤ en) (w : World) (hS : Ints w sA sc S) (hE : Bools w eA ec E) (hsn : S.length = sn) (hen : E.length = en) :
    Calls Try.prog 5 #[.slice sA sn sc, .slice eA en ec, .int .i64 gone] w fun e w' => e = .returned (.bool true) ∧ Below w.heap.size w w' := by
  have aw := Lib.hid (fun W => awake14 W)
  have d1 : decide ((60 : Int) < (sn : Int)) = false := decide_eq_false (by omega)
  have d2 : decide (60 < sn) = false := decide_eq_false (by omega)
  have d3 : decide ((en : Int) < (sn : Int)) = false := decide_eq_false (by omega)
  have d4 : decide (en < sn) = false := decide_eq_false (by omega)
  have hsc : sn ≤ sc := by have := hS.2.1; omega
  have hec : en ≤ ec := by have := hE.2.1; omega
  have HS := Lib.hid hS
  have HE := Lib.hid hE
  have SN := Lib.hid hsn
  have EN := Lib.hid hen
  have O0 : Hid (OwnW w.heap.size w none 0 0 (grK (keysO S E 0))) := Lib.hid (OwnW.none _ _)
  clear hS hE hsn hen
  go_enter Try.func5, Try.ntmps5
  go_wp2
  go_loopw [7, 8] (fun ls cc wr => ∃ (i c : Nat) (A : Option Addr), i ≤ sn ∧ cc = .int .i64 i ∧ ls = .slice A i c ∧ Hid (OwnW w.heap.size wr A i c (grK (keysO S E i))) ∧ Hid (Below w.heap.size w wr)) (fun _ cc _ => sn - (intOf cc).toNat)
  case atStart => exact ⟨0, 0, none, by omega, rfl, rfl, O0, Lib.hid (Below.refl _ _)⟩
  case round =>
    obtain ⟨i, c, A, hi, rfl, rfl, HO, HB⟩ := hrel
    by_cases hlt : i < sn
    · have t1 : (i : Int) < (sn : Int) := by omega
      have t2 : (i : Int) < (sc : Int) := by omega
      have t3 : (i : Int) < (en : Int) := by omega
      have t4 : (i : Int) < (ec : Int) := by omega
      obtain ⟨b1, o1, rfl, hb1, x1⟩ := HS.out.cellAt (j := i) (by rw [SN.out]; exact hlt)
      obtain ⟨b2, o2, rfl, hb2, x2⟩ := HE.out.at (i := i) (by rw [EN.out]; omega)
      have ha : Hid (∀ X, Below wr.heap.size wr X → Calls Try.prog 8 #[.slice A i c, .int .i64 (S[i]?.getD 0), .bool (E[i]?.getD false)] X (VPost w.heap.size (grK (keysO S E (i + 1))) X)) := Lib.hid (fun X hX => by
        have hO := HO.out.below hX
        have := ask_V (B := w.heap.size) hO.sl hO.1 (Nat.le_trans HB.out.size hX.size) (by omega) (S[i]?.getD 0) (E[i]?.getD false)
        rwa [ask_gr, keysO_succ] at this)
      have hQ : Hid (∀ X, Below wr.heap.size wr X → X.cell? ⟨b1, o1 + i, none⟩ = some (.int .i64 (S[i]?.getD 0)) ∧ X.cell? ⟨b2, o2 + i, none⟩ = some (.bool (E[i]?.getD false)) ∧ b1 < X.heap.size ∧ b2 < X.heap.size) := Lib.hid (fun X hX => ⟨((HB.out.trans (hX.mono HB.out.size)).cell (p := ⟨b1, _, none⟩) hb1).trans x1, ((HB.out.trans (hX.mono HB.out.size)).cell (p := ⟨b2, _, none⟩) hb2).trans x2, Nat.lt_of_lt_of_le hb1 (HB.out.trans (hX.mono HB.out.size)).size, Nat.lt_of_lt_of_le hb2 (HB.out.trans (hX.mono HB.out.size)).size⟩)
      clear x1 x2
      generalize hsi : S[i]?.getD 0 = si at *
      generalize hei : E[i]?.getD false = ei at *
      clear hsi hei
      go_wp2
      try simp only [List.append_eq, List.cons_append, List.nil_append]
      refine wp_region_saysK 10 (fun x y => Below x.heap.size x y) (fun _ _ _ h k => bnext h k) wr (below_drew1 wr) (by kernel_rfl) (by kernel_rfl) (by kernel_rfl) (by kernel_rfl) (by rfl) ?_
      simp only [List.take_succ_cons, List.take_zero, List.drop_succ_cons, List.drop_zero]
      refine walkK_is ?_ (by first | exact gs0 rfl | exact gs1 rfl rfl rfl) (fun _ => Below.refl _ _) (fun u X hX hd => ?_) ?_
      rotate_left
      · obtain ⟨q1, q2, q3, q4⟩ := hQ.out X hX
        try simp at hd
        go_simp
        try rfl
      apply walkK_norm
      · first | (simp only [List.nil_append]; rfl) | simp only [List.nil_append]
      refine walkK_is ?_ (by first | exact gs0 rfl | exact gs1 rfl rfl rfl) (fun _ => Below.refl _ _) (fun u X hX hd => ?_) ?_
      rotate_left
      · obtain ⟨q1, q2, q3, q4⟩ := hQ.out X hX
        try simp at hd
        go_simp
        try rfl
      apply walkK_norm
      · first | (simp only [List.nil_append, List.cons_append]; rfl) | simp only [List.nil_append, List.cons_append]
      refine walkK_is ?_ (by first | exact gs0 rfl | exact gs1 rfl rfl rfl) (fun _ => Below.refl _ _) (fun u X hX hd => ?_) ?_
      rotate_left
      · obtain ⟨q1, q2, q3, q4⟩ := hQ.out X hX
        try simp at hd
        go_simp
        try rfl
      apply walkK_norm
      · first | (simp only [List.nil_append, List.cons_append]; rfl) | simp only [List.nil_append, List.cons_append]
      refine walkK_is ?_ (by first | exact gs0 rfl | exact gs1 rfl rfl rfl) (fun _ => Below.refl _ _) (fun u X hX hd => ?_) ?_
      rotate_left
      · obtain ⟨q1, q2, q3, q4⟩ := hQ.out X hX
        try simp at hd
        go_simp
        try rfl
      apply walkK_norm
      · first | (simp only [List.nil_append, List.cons_append]; rfl) | simp only [List.nil_append, List.cons_append]
      refine walkK_is ?_ (by first | exact gs0 rfl | exact gs1 rfl rfl rfl) (fun _ => Below.refl _ _) (fun u X hX hd => ?_) ?_
      rotate_left
      · obtain ⟨q1, q2, q3, q4⟩ := hQ.out X hX
        try simp at hd
        go_simp
        try rfl
      apply walkK_norm
      · first | (simp only [List.nil_append, List.cons_append]; rfl) | simp only [List.nil_append, List.cons_append]
      refine walkK_is ?_ (by first | exact gs0 rfl | exact gs1 rfl rfl rfl) (fun _ => Below.refl _ _) (fun u X hX hd => ?_) ?_
      rotate_left
      · obtain ⟨q1, q2, q3, q4⟩ := hQ.out X hX
        try simp at hd
        go_simp
        try rfl
      apply walkK_norm
      · first | (simp only [List.nil_append, List.cons_append]; rfl) | simp only [List.nil_append, List.cons_append]
      refine walkK_is ?_ (by first | exact gs0 rfl | exact gs1 rfl rfl rfl) (fun _ => Below.refl _ _) (fun u X hX hd => ?_) ?_
      rotate_left
      · obtain ⟨q1, q2, q3, q4⟩ := hQ.out X hX
        try simp at hd
        go_simp
        try rfl
      apply walkK_norm
      · first | (simp only [List.nil_append, List.cons_append]; rfl) | simp only [List.nil_append, List.cons_append]
      refine walkK_is ?_ (by first | exact gs0 rfl | exact gs1 rfl rfl rfl) (fun _ => Below.refl _ _) (fun u X hX hd => ?_) ?_
      rotate_left
      · obtain ⟨q1, q2, q3, q4⟩ := hQ.out X hX
        try simp at hd
        go_simp
        try rfl
      apply walkK_norm
      · first | (simp only [List.nil_append, List.cons_append]; rfl) | simp only [List.nil_append, List.cons_append]
      refine walkK_is ?_ (by first | exact gs0 rfl | exact gs1 rfl rfl rfl) (fun _ => Below.refl _ _) (fun u X hX hd => ?_) ?_
      rotate_left
      · obtain ⟨q1, q2, q3, q4⟩ := hQ.out X hX
        try simp at hd
        go_simp
        try rfl
      apply walkK_norm
      · first | (simp only [List.nil_append, List.cons_append]; rfl) | simp only [List.nil_append, List.cons_append]
      refine walkK_call (wnsV w.heap.size (grK (keysO S E (i + 1)))) 8 ?_ (by first | exact gs0 rfl | exact gs1 rfl rfl rfl) (fun v x y hb h => wnsV_keep v x y hb h) (fun u X hX hd => ?_) (fun X hX => ?_) ?_
      rotate_left
      · obtain ⟨q1, q2, q3, q4⟩ := hQ.out X hX
        try simp at hd
        go_simp
        try rfl
      · exact ha.out X hX
      apply walkK_norm
      · first | (simp only [List.nil_append, List.cons_append]; rfl) | simp only [List.nil_append, List.cons_append]
      intro u X hX hsay
      simp only [sayAll, isV] at hsay
      obtain ⟨-, -, -, -, -, -, -, -, -, v9, -⟩ := hsay
      obtain ⟨A1, n1, c1, v9, hO⟩ := v9
      simp only [putAll, Act.put, v9, List.setIfInBounds_toArray, List.set_cons_succ, List.set_cons_zero]
      have O1 := Lib.hid hO
      have B1 := Lib.hid (HB.out.trans (hX.mono HB.out.size))
      obtain rfl : i + 1 = n1 := by have := hO.1; rw [grK_length, keysO_length] at this; exact this
      clear hO hX v9
      go_wp2
      go_roundw
      case rel => exact ⟨i + 1, c1, A1, by omega, by go_num, rfl, O1, B1⟩
      case measure => simp [intOf]; omega
    · obtain rfl : i = sn := by omega
      have hg := Lib.hid (give_O HO.out HB.out.size (by omega) gone)
      have hlk := keysO_length S E i
      have KL := Lib.hid hlk
      clear hlt hlk
      have hnc := HO.out.cap
      go_wp2_with (go_at_call 10; go_must ((with_reducible refine hg.out.mono ?_); rintro e w1 ⟨A1, n1, c1, rfl, hO, hb1⟩; rw [give_gr] at hO; have O1 := Lib.hid hO; have B1 := Lib.hid (HB.out.trans (hb1.mono HB.out.size)); have P1 := Lib.hid (HO.out.below hb1); clear hO hb1))
      have HL : Hid ((leftO (keysO S E i) gone).length = n1) := Lib.hid (by have := O1.out.1; rw [grK_length] at this; exact this)
      have hmc := O1.out.cap
      have T0 : Hid (∀ j, j < i → (keysO S E i)[j]? = some (S[j]?.getD 0, E[j]?.getD false)) := Lib.hid (fun j hj => keysO_at S E hj)
      have L0 : Hid ((leftO ((keysO S E i).take i) gone).length = n1) := Lib.hid (by have := HL.out; rwa [List.take_of_length_le (by rw [KL.out]; exact Nat.le_refl _)])
      go_loopw [6, 10, 11] (fun _ kk cc wr => ∃ j : Nat, j ≤ i ∧ cc = .int .i64 j ∧ kk = .int .i64 ((leftO ((keysO S E i).take j) gone).length : Nat) ∧ Hid (Below w1.heap.size w1 wr)) (fun _ _ cc _ => i - (intOf cc).toNat)
      case atStart => exact ⟨0, by omega, rfl, rfl, Lib.hid (Below.refl _ _)⟩
      case round =>
        obtain ⟨j, hj, rfl, rfl, HW⟩ := hrel
        by_cases hlt : j < i
        · have t1 : (j : Int) < (i : Int) := by omega
          have t2 : (j : Int) < (sc : Int) := by omega
          have t3 : (j : Int) < (en : Int) := by omega
          have t4 : (j : Int) < (ec : Int) := by omega
          have t5 : (j : Int) < (c : Int) := by omega
          have hkj := T0.out j hlt
          have BW := Lib.hid (B1.out.trans (HW.out.mono B1.out.size))
          obtain ⟨b1, o1, rfl, hb1, x1⟩ := Ints.cellAt (HS.out.below BW.out) (j := j) (by rw [SN.out]; exact hlt)
          obtain ⟨b2, o2, rfl, hb2, x2⟩ := (show Bools _ _ _ E from Sl.below HE.out BW.out).at (i := j) (by rw [EN.out]; omega)
          have hgj := grK_at (K := keysO S E i) (i := j) (by rw [KL.out]; exact hlt)
          have hka : keyAt (keysO S E i) j = (S[j]?.getD 0, E[j]?.getD false) := by unfold keyAt; rw [hkj]; rfl
          rw [hka] at hgj
          obtain ⟨b3, o3, rfl, hb3, y1, y2, y3⟩ := ((P1.out.below HW.out).sl).at hgj
          have n1z : Hid (n1 ≤ i) := Lib.hid (by have h1 := HL.out; have h2 := KL.out; have h3 : (leftO (keysO S E i) gone).length ≤ (keysO S E i).length := List.length_filter_le _ _; omega)
          have l1 := Lib.hid (fun hs : S[j]?.getD 0 = gone => leftO_no (s := gone) hkj hs)
          have l2 := Lib.hid (fun hs : ¬ S[j]?.getD 0 = gone => leftO_yes (s := gone) hkj hs)
          have l3 := Lib.hid (fun hs : ¬ S[j]?.getD 0 = gone => leftO_at (s := gone) hkj hs)
          simp only at y1 y2 y3
          clear hkj hka hgj
          generalize S[j]?.getD 0 = sj at *
          generalize E[j]?.getD false = ej at *
          have e1 : (sj == sj) = true := by simp
          have e2 : (sj != sj) = false := by simp
          have e3 : (ej != ej) = false := by cases ej <;> rfl
          by_cases hs : sj = gone
          · have e4 : (sj == gone) = true := by simp [hs]
            have l1' := l1.out hs
            have LN : Hid ((leftO ((keysO S E i).take (j + 1)) gone).length = (leftO ((keysO S E i).take j) gone).length) := Lib.hid l1'
            clear hs l1 l2 l3 l1'
            generalize hkn : (leftO ((keysO S E i).take j) gone).length = kn at *
            clear hkn
            go_wp2
            go_quiet (fail)
            go_wp2
            go_roundw
            case rel => exact ⟨j + 1, by omega, by go_num, by rw [LN.out], Lib.hid (below_drewN HW.out _)⟩
            case measure => simp [intOf]; omega
          · have e4 : (sj == gone) = false := beq_eq_false_iff_ne.2 hs
            have l2' := l2.out hs
            have l3' := l3.out hs
            have LN : Hid ((leftO ((keysO S E i).take (j + 1)) gone).length = (leftO ((keysO S E i).take j) gone).length + 1) := Lib.hid l2'
            clear hs l1 l2 l3 l2'
            generalize hkn : (leftO ((keysO S E i).take j) gone).length = kn at *
            have hkl : kn < (leftO (keysO S E i) gone).length := by
              rcases Nat.lt_or_ge kn (leftO (keysO S E i) gone).length with h | h
              · exact h
              · rw [List.getElem?_eq_none h] at l3'; cases l3'
            have hgk := grK_at (K := leftO (keysO S E i) gone) (i := kn) hkl
            have hka : keyAt (leftO (keysO S E i) gone) kn = (sj, ej) := by unfold keyAt; rw [l3']; rfl
            rw [hka] at hgk
            obtain ⟨b4, o4, rfl, hb4, z1, z2, z3⟩ := ((O1.out.below HW.out).sl).at hgk
            simp only at z1 z2 z3
            rw [HL.out] at hkl
            have t6 : (kn : Int) < (n1 : Int) := by omega
            have t7 : (kn : Int) < (c1 : Int) := by omega
            have t8 : kn ≤ 60 := by have := n1z.out; omega
            clear hkn l3' hgk hka
            go_wp2
            go_quiet (fail)
            go_wp2
            go_quiet (fail)
            go_wp2
            go_roundw
            case rel => exact ⟨j + 1, by omega, by go_num, by rw [LN.out]; go_num, Lib.hid (below_drewN HW.out _)⟩
            case measure => simp [intOf]; omega
        · obtain rfl : j = i := by omega
          have LL := L0.out
          clear hlt
          rw [LL]
          go_wp2_with (go_at_call 7; go_must ((with_reducible refine (aw.out _).mono ?_); rintro e w9 ⟨rfl, hb9⟩; have B9 := Lib.hid ((B1.out.trans (HW.out.mono B1.out.size)).trans (hb9.mono (Nat.le_trans B1.out.size HW.out.size))); clear hb9))
          go_ret
          exact ⟨rfl, B9.out⟩

theorem queueOrder_walk (w : World) (hS : Ints w sA sc S) (hE : Bools w eA ec E) (hsn : S.length = sn) (hen : E.length = en) :
    Calls Try.prog 5 #[.slice sA sn sc, .slice eA en ec, .int .i64 gone] w fun e w' => e = .returned (.bool true) ∧ Below w.heap.size w w' := by
  by_cases h : 60 < sn ∨ en < sn
  · exact queueOrder_no sA sn sc eA en ec gone h w
  · exact queueOrder_main S sA sn sc E eA en ec gone (by omega) (by omega) w hS hE hsn hen

end
end Go.Proofs.Ytbgdadofpjjpdaa
