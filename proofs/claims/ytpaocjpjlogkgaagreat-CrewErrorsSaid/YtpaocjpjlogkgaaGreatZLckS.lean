/-
  What foremanref15.Same (of what reads the same) answers, in whatever memory. No conditions but those that stand there.
-/
import Derived.Test.YtpaocjpjlogkgaaGreatQLckRa
import Derived.Test.YtpaocjpjlogkgaaGreatQQueA
import Derived.Test.YtpaocjpjlogkgaaGreatQLckA
import Derived.Test.YtpaocjpjlogkgaaGreatQWords
import Derived.Test.YtpaocjpjlogkgaaGreatQQueP
import Derived.Test.YtpaocjpjlogkgaaGreatQRely
import Derived.BigQuiet
import Derived.OwnWalk
namespace Go.Proofs.YtpaocjpjlogkgaaGreat
open Go.RowKit Go.Shelf
set_option maxRecDepth 100000
attribute [local go_sem] look findAt
attribute [local simp] depsOf isV Region.binds


set_option maxHeartbeats 4000000 in
theorem rsame15_yes (L : Lks) (A : Option Addr) (c : Nat) (B : Option Addr) (d n : Nat) (w : World) (h1 : LkSl w A n c L) (h2 : LkSl w B n d L) (hn : n ≤ 1000) (hM : ∀ b, (lkAt L b).length ≤ 9000) :
    Calls Tryz.prog 21 #[.slice A n c, .slice B n d] w fun e w' => e = .returned (.bool true) ∧ Below w.heap.size w w' := by
  have H1 := Lib.hid h1
  have H2 := Lib.hid h2
  have HM := Lib.hid hM
  have hnc := h1.cap
  have hnd := h2.cap
  clear h1 h2 hM
  go_enter Tryz.func21, Tryz.ntmps21
  go_wp2
  go_loopw [5] (fun cc wr => ∃ i : Nat, i ≤ n ∧ cc = .int .i64 i ∧ Hid (Below w.heap.size w wr)) (fun cc _ => n - (intOf cc).toNat)
  case atStart => exact ⟨0, Nat.zero_le _, rfl, Lib.hid (Below.refl _ _)⟩
  case round =>
    obtain ⟨i, hi, rfl, HB⟩ := hrel
    by_cases hlt : i < n
    · obtain ⟨g1, o1, A1, m1, k1, rfl, hl1, x0, hm1, hw1, -⟩ := (H1.out.below HB.out).at hlt
      obtain ⟨g2, o2, A2, m2, k2, rfl, hl2, y0, hm2, hw2, -⟩ := (H2.out.below HB.out).at hlt
      obtain rfl : m1 = m2 := by omega
      have hm1' : (lkAt L i).length = m1 := hm1
      have hmM : m1 ≤ 9000 := by have h1 := HM.out i; omega
      have d0 : (i : Int) < (n : Int) := by omega
      have d1 : (i : Int) < (c : Int) := by omega
      have d2 : (i : Int) < (d : Int) := by omega
      have hQ : Hid (∀ X, Below wr.heap.size wr X → X.cell? ⟨g1, o1 + i, none⟩ = some (.slice A1 m1 k1) ∧ X.cell? ⟨g2, o2 + i, none⟩ = some (.slice A2 m1 k2) ∧ g1 < X.heap.size ∧ g2 < X.heap.size) := Lib.hid (fun X hX => ⟨(hX.cell (p := ⟨g1, _, none⟩) hl1).trans x0, (hX.cell (p := ⟨g2, _, none⟩) hl2).trans y0, Nat.lt_of_lt_of_le hl1 hX.size, Nat.lt_of_lt_of_le hl2 hX.size⟩)
      have sm : Hid (∀ X, Below wr.heap.size wr X → Calls Tryz.prog 52 #[.slice A1 m1 k1, .slice A2 m1 k2] X fun e w' => e = .returned (.bool true) ∧ Below X.heap.size X w') := Lib.hid (fun X hX => rsameW_yes (lkAt L i) A1 k1 A2 k2 m1 X (hw1.below hX) (hw2.below hX) hm1 (by omega))
      clear hm1' hm1 hm2 hw1 hw2 x0 y0
      go_wp2
      try simp only [List.append_eq, List.cons_append, List.nil_append]
      refine wp_region_saysK 9 (fun x y => Below x.heap.size x y) (fun _ _ _ h k => bnext h k) wr (below_drew1 wr) (by kernel_rfl) (by kernel_rfl) (by kernel_rfl) (by kernel_rfl) (by rfl) ?_
      simp only [List.take_succ_cons, List.take_zero, List.drop_succ_cons, List.drop_zero]
      refine walkK_is ?_ (by first | exact gs0 rfl | exact gs1 rfl rfl rfl) (fun _ => Below.refl _ _) (fun u X hX hd => ?_) ?_
      rotate_left
      · obtain ⟨q1, q2, q3, q4⟩ := hQ.out X hX
        try simp at hd
        go_simp
        try rfl
      apply walkK_norm
      · first | (simp only [List.nil_append]; rfl) | simp only [List.nil_append]
      refine walkK_is ?_ (by first | exact gs0 rfl | exact gs1 rfl rfl rfl) (fun _ => Below.refl _ _) (fun u X hX hd => ?_) ?_
      rotate_left
      · obtain ⟨q1, q2, q3, q4⟩ := hQ.out X hX
        try simp at hd
        go_simp
        try rfl
      apply walkK_norm
      · first | (simp only [List.nil_append, List.cons_append]; rfl) | simp only [List.nil_append, List.cons_append]
      refine walkK_is ?_ (by first | exact gs0 rfl | exact gs1 rfl rfl rfl) (fun _ => Below.refl _ _) (fun u X hX hd => ?_) ?_
      rotate_left
      · obtain ⟨q1, q2, q3, q4⟩ := hQ.out X hX
        try simp at hd
        go_simp
        try rfl
      apply walkK_norm
      · first | (simp only [List.nil_append, List.cons_append]; rfl) | simp only [List.nil_append, List.cons_append]
      refine walkK_is ?_ (by first | exact gs0 rfl | exact gs1 rfl rfl rfl) (fun _ => Below.refl _ _) (fun u X hX hd => ?_) ?_
      rotate_left
      · obtain ⟨q1, q2, q3, q4⟩ := hQ.out X hX
        try simp at hd
        go_simp
        try rfl
      apply walkK_norm
      · first | (simp only [List.nil_append, List.cons_append]; rfl) | simp only [List.nil_append, List.cons_append]
      refine walkK_is ?_ (by first | exact gs0 rfl | exact gs1 rfl rfl rfl) (fun _ => Below.refl _ _) (fun u X hX hd => ?_) ?_
      rotate_left
      · obtain ⟨q1, q2, q3, q4⟩ := hQ.out X hX
        try simp at hd
        go_simp
        try rfl
      apply walkK_norm
      · first | (simp only [List.nil_append, List.cons_append]; rfl) | simp only [List.nil_append, List.cons_append]
      refine walkK_is ?_ (by first | exact gs0 rfl | exact gs1 rfl rfl rfl) (fun _ => Below.refl _ _) (fun u X hX hd => ?_) ?_
      rotate_left
      · obtain ⟨q1, q2, q3, q4⟩ := hQ.out X hX
        try simp at hd
        go_simp
        try rfl
      apply walkK_norm
      · first | (simp only [List.nil_append, List.cons_append]; rfl) | simp only [List.nil_append, List.cons_append]
      refine walkK_is ?_ (by first | exact gs0 rfl | exact gs1 rfl rfl rfl) (fun _ => Below.refl _ _) (fun u X hX hd => ?_) ?_
      rotate_left
      · obtain ⟨q1, q2, q3, q4⟩ := hQ.out X hX
        try simp at hd
        go_simp
        try rfl
      apply walkK_norm
      · first | (simp only [List.nil_append, List.cons_append]; rfl) | simp only [List.nil_append, List.cons_append]
      refine walkK_is ?_ (by first | exact gs0 rfl | exact gs1 rfl rfl rfl) (fun _ => Below.refl _ _) (fun u X hX hd => ?_) ?_
      rotate_left
      · obtain ⟨q1, q2, q3, q4⟩ := hQ.out X hX
        try simp at hd
        go_simp
        try rfl
      apply walkK_norm
      · first | (simp only [List.nil_append, List.cons_append]; rfl) | simp only [List.nil_append, List.cons_append]
      refine walkK_call (isV (.bool true)) 52 ?_ (by first | exact gs0 rfl | exact gs1 rfl rfl rfl) (fun _ _ _ _ h => h) (fun u X hX hd => ?_) (fun X hX => ?_) ?_
      rotate_left
      · obtain ⟨q1, q2, q3, q4⟩ := hQ.out X hX
        try simp at hd
        go_simp
        try rfl
      · exact (sm.out X hX).mono fun e X' ⟨he, hb⟩ => ⟨_, he, hb, rfl⟩
      apply walkK_norm
      · first | (simp only [List.nil_append, List.cons_append]; rfl) | simp only [List.nil_append, List.cons_append]
      intro u X hX hsay
      simp only [sayAll, isV] at hsay
      obtain ⟨-, -, -, -, -, -, -, -, v8, -⟩ := hsay
      simp only [putAll, Act.put, v8, List.setIfInBounds_toArray, List.set_cons_succ, List.set_cons_zero, Nat.zero_add, Nat.reduceAdd]
      have BX := Lib.hid (bnext HB.out hX)
      clear hX v8
      go_wp2
      go_roundw
      case rel => exact ⟨i + 1, by omega, by go_num, BX⟩
      case measure => simp [intOf]; omega
    · go_wp2
      go_ret
      exact ⟨rfl, HB.out⟩

end Go.Proofs.YtpaocjpjlogkgaaGreat
