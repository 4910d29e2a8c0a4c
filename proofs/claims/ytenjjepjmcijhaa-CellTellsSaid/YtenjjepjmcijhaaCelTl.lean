/-
  CellTells, walked: true for any block, any string of at most 200 bytes and any two numbers, in whatever memory.
-/
import Derived.Test.YtenjjepjmcijhaaCelW
import Derived.Test.YtenjjepjmcijhaaCelD
import Derived.Test.YtenjjepjmcijhaaCelR
import Derived.Test.YtenjjepjmcijhaaSaysP
import Derived.Test.YtenjjepjmcijhaaTurn
namespace Go.Proofs.Ytenjjepjmcijhaa
open Go.RowKit
attribute [local go_sem] look findAt
attribute [local simp] depsOf isV isB Region.binds

theorem but_bad {s : ByteArray} {r : Rd} {w : World} {g : Nat} {t : TypeId} (h : Bk w g t (frV s r)) : w.cell? ⟨g, 2, none⟩ = some (.bool r.bad) := h.frs.2.2.1

set_option maxRecDepth 100000 in
set_option maxHeartbeats 16000000 in
theorem cellTells_main (b : List Int) (h8 : b.length = 8) (s : ByteArray) (hs : s.size ≤ 200) (m n : Int) (w : World) :
    Calls Try.prog 3 #[.agg (bkC b), .string s, .agg #[.int .i64 m, .int .i64 n]] w fun e w' => e = .returned (.bool true) ∧ Below w.heap.size w w' := by
  have d0 : ¬ (200 : Int) < (s.size : Int) := by omega
  have hs2 : s.size ≤ 4611686018427387904 := by omega
  have hr8 : (numsOf s 8 ⟨0, false⟩).length = 8 := numsOf_length _ _ _
  have hp8 : (putC b m n).length = 8 := by rw [putC_length, h8]
  have aw := Lib.hid (fun W => awake9 W)
  have p1 := Lib.hid (fun W => print_any b h8 W)
  have p2 := Lib.hid (fun W => rprint_any b h8 W)
  have r1 := Lib.hid (fun g W h => read_any s ⟨0, false⟩ g W h hs2)
  have r2 := Lib.hid (fun g W h => rread_any s ⟨0, false⟩ g W h hs2)
  have g1 := Lib.hid (fun W => get_any b h8 m W)
  have g2 := Lib.hid (fun W => rget_any b h8 m W)
  have q1 := Lib.hid (fun W => put_any b h8 m n W)
  have q2 := Lib.hid (fun W => rput_any b h8 m n W)
  have er : Hid (∀ W : World, (binOp .eql 23 (.agg (bkC (numsOf s 8 ⟨0, false⟩))) (.agg (bkC (numsOf s 8 ⟨0, false⟩)))).run Try.prog W = .ok (.bool true) W) := Lib.hid (fun W => by rw [eql_blk W hr8 hr8, decide_eq_true rfl])
  have ep : Hid (∀ W : World, (binOp .eql 23 (.agg (bkC (putC b m n))) (.agg (bkC (putC b m n)))).run Try.prog W = .ok (.bool true) W) := Lib.hid (fun W => by rw [eql_blk W hp8 hp8, decide_eq_true rfl])
  have kb := Lib.hid (fun (W : World) (g : Nat) (h : Bk W g 23 (bkC b)) => load_blk h8 h)
  obtain ⟨bad, hbad⟩ : ∃ c, c = (itN s 8 ⟨0, false⟩).bad := ⟨_, rfl⟩
  obtain ⟨E, hEE⟩ : ∃ E, E = frV s (itN s 8 ⟨0, false⟩) := ⟨_, rfl⟩
  obtain ⟨F, hFF⟩ : ∃ F, F = frV s ⟨0, false⟩ := ⟨_, rfl⟩
  have bdE : Hid (∀ (W : World) (g : Nat) (t : TypeId), Bk W g t E → W.cell? ⟨g, 2, none⟩ = some (.bool bad)) := Lib.hid (fun W g t h => by rw [hEE] at h; rw [hbad]; exact but_bad h)
  rw [← hEE, ← hFF] at r1 r2
  have hFn := Lib.hid (fun (v : World) (t : TypeId) => Bk.newF v t s)
  rw [← hFF] at hFn
  clear hbad hEE hFF hs2 hr8 hp8 h8
  generalize bkC (numsOf s 8 ⟨0, false⟩) = cr at *
  generalize bkC (putC b m n) = cp at *
  generalize strL (cellB b) = S at *
  generalize getC b m = z at *
  generalize bkC b = cb at *
  have hv0 : Hid (∃ v, v = (((w.alloc (.cells cb 23)).alloc (.cells #[.int .i64 m, .int .i64 n] 24)).alloc (.cells #[.string s, .int .i64 0, .bool false] 28)).alloc (.cells #[.string s, .int .i64 0, .bool false] 30)) := Lib.hid ⟨_, rfl⟩
  obtain ⟨v, hv⟩ := hv0.out
  have zz : ∀ (a : World) (o : Obj), (a.alloc o).heap.size = a.heap.size + 1 := fun a o => World.size_alloc a o
  have Bv := Lib.hid (show Below w.heap.size w v by rw [hv]; exact ((((Below.refl _ _).alloc (Nat.le_refl _) _).alloc (by simp) _).alloc (by simp; omega) _).alloc (by simp; omega) _)
  have Kb : Hid (Bk v w.heap.size 23 cb) := Lib.hid (by rw [hv]; exact (((Bk.new _ _ _).alloc _).alloc _).alloc _)
  have Kt : Hid (Bk v (w.heap.size + 1) 24 #[.int .i64 m, .int .i64 n]) := Lib.hid (by rw [hv]; exact Bk.alloc (Bk.alloc (w := (w.alloc (.cells cb 23)).alloc (.cells #[.int .i64 m, .int .i64 n] 24)) (heap_alloc2_new _ _ _) _) _)
  have K1 : Hid (Bk v (w.heap.size + 1 + 1) 28 F) := Lib.hid (by
    have := (hFn.out ((w.alloc (.cells cb 23)).alloc (.cells #[.int .i64 m, .int .i64 n] 24)) 28).alloc (.cells #[.string s, .int .i64 0, .bool false] 30)
    rw [zz, zz] at this
    rw [hv]
    exact this)
  have K2 : Hid (Bk v (w.heap.size + 1 + 1 + 1) 30 F) := Lib.hid (by
    have := hFn.out (((w.alloc (.cells cb 23)).alloc (.cells #[.int .i64 m, .int .i64 n] 24)).alloc (.cells #[.string s, .int .i64 0, .bool false] 28)) 30
    rw [zz, zz, zz] at this
    rw [hv]
    exact this)
  clear hv0 zz
  go_enter Try.func3, Try.ntmps3
  go_wp2
  rw [← hv]
  clear hv
  obtain ⟨ψ1, hψ1⟩ : ∃ ψ : World → Prop, ψ = fun X => Bk X (w.heap.size + 1 + 1) 28 E := ⟨_, rfl⟩
  obtain ⟨ψ2, hψ2⟩ : ∃ ψ : World → Prop, ψ = fun X => Bk X (w.heap.size + 1 + 1 + 1) 30 E := ⟨_, rfl⟩
  obtain ⟨ψ, hψ⟩ : ∃ ψ : World → Prop, ψ = fun X => ψ1 X ∧ ψ2 X := ⟨_, rfl⟩
  have hψi : ∀ X, ψ1 X → ψ2 X → ψ X := by rw [hψ]; exact fun X a c => ⟨a, c⟩
  have hRr : ∀ w', Turn (w.heap.size + 1 + 1) (w.heap.size + 1 + 1 + 1) 28 30 E E w' w' := Turn.refl
  have hRp1 : ∀ x y, Turn (w.heap.size + 1 + 1) (w.heap.size + 1 + 1 + 1) 28 30 E E x y → ψ1 x → ψ1 y := by rw [hψ1]; exact fun x y h q => h.one q
  have hRp2 : ∀ x y, Turn (w.heap.size + 1 + 1) (w.heap.size + 1 + 1 + 1) 28 30 E E x y → ψ2 x → ψ2 y := by rw [hψ2]; exact fun x y h q => h.two q
  have hRp : ∀ x y, Turn (w.heap.size + 1 + 1) (w.heap.size + 1 + 1 + 1) 28 30 E E x y → ψ x → ψ y := by rw [hψ]; exact fun x y h q => ⟨hRp1 x y h q.1, hRp2 x y h q.2⟩
  have hBR : ∀ x y, Below x.heap.size x y → Turn (w.heap.size + 1 + 1) (w.heap.size + 1 + 1 + 1) 28 30 E E x y ∧ ∀ j : Nat, ((j = 10 → Bk x (w.heap.size + 1 + 1) 28 F) ∧ (j = 12 → Bk x (w.heap.size + 1 + 1 + 1) 30 F)) → ((j = 10 → Bk y (w.heap.size + 1 + 1) 28 F) ∧ (j = 12 → Bk y (w.heap.size + 1 + 1 + 1) 30 F)) := fun x y h => ⟨Turn.of_below h, fun j q => ⟨fun e => (q.1 e).below h, fun e => (q.2 e).below h⟩⟩
  have hpre : ∀ j : Nat, (j = 10 → Bk v.drew (w.heap.size + 1 + 1) 28 F) ∧ (j = 12 → Bk v.drew (w.heap.size + 1 + 1 + 1) 30 F) := fun _ => ⟨fun _ => K1.out.below (below_drew1 v), fun _ => K2.out.below (below_drew1 v)⟩
  have once1 : ∀ X, Turn (w.heap.size + 1 + 1) (w.heap.size + 1 + 1 + 1) 28 30 E E v X → ((10 = 10 → Bk X (w.heap.size + 1 + 1) 28 F) ∧ (10 = 12 → Bk X (w.heap.size + 1 + 1 + 1) 30 F)) → Calls Try.prog 10 #[.pointer (some ⟨w.heap.size + 1 + 1, 0, none⟩)] X fun e w' => e = .returned (.agg cr) ∧ (Turn (w.heap.size + 1 + 1) (w.heap.size + 1 + 1 + 1) 28 30 E E X w' ∧ ∀ j : Nat, j ≠ 10 → ((j = 10 → Bk X (w.heap.size + 1 + 1) 28 F) ∧ (j = 12 → Bk X (w.heap.size + 1 + 1 + 1) 30 F)) → ((j = 10 → Bk w' (w.heap.size + 1 + 1) 28 F) ∧ (j = 12 → Bk w' (w.heap.size + 1 + 1 + 1) 30 F))) ∧ ψ1 w' :=
    fun X hX hp => (r1.out (w.heap.size + 1 + 1) X (hp.1 rfl)).mono fun e w' ⟨he, hk', hb'⟩ => ⟨he, ⟨Turn.of_one hb' hk' (fun q => hb'.bk q (by omega)), fun j hj q => ⟨fun e => absurd e hj, fun e => hb'.bk (q.2 e) (by omega)⟩⟩, by rw [hψ1]; exact hk'⟩
  have once2 : ∀ X, Turn (w.heap.size + 1 + 1) (w.heap.size + 1 + 1 + 1) 28 30 E E v X → ((12 = 10 → Bk X (w.heap.size + 1 + 1) 28 F) ∧ (12 = 12 → Bk X (w.heap.size + 1 + 1 + 1) 30 F)) → Calls Try.prog 11 #[.pointer (some ⟨w.heap.size + 1 + 1 + 1, 0, none⟩)] X fun e w' => e = .returned (.agg cr) ∧ (Turn (w.heap.size + 1 + 1) (w.heap.size + 1 + 1 + 1) 28 30 E E X w' ∧ ∀ j : Nat, j ≠ 12 → ((j = 10 → Bk X (w.heap.size + 1 + 1) 28 F) ∧ (j = 12 → Bk X (w.heap.size + 1 + 1 + 1) 30 F)) → ((j = 10 → Bk w' (w.heap.size + 1 + 1) 28 F) ∧ (j = 12 → Bk w' (w.heap.size + 1 + 1 + 1) 30 F))) ∧ ψ2 w' :=
    fun X hX hp => (r2.out (w.heap.size + 1 + 1 + 1) X (hp.2 rfl)).mono fun e w' ⟨he, hk', hb'⟩ => ⟨he, ⟨Turn.of_two hb' hk' (fun q => hb'.bk q (by omega)), fun j hj q => ⟨fun e => hb'.bk (q.1 e) (by omega), fun e => absurd e hj⟩⟩, by rw [hψ2]; exact hk'⟩
  have lb := Lib.hid (fun X (hX : Turn (w.heap.size + 1 + 1) (w.heap.size + 1 + 1 + 1) 28 30 E E v X) => kb.out X w.heap.size (hX.bk Kb.out (by omega) (by omega)))
  have ct : Hid (∀ X, Turn (w.heap.size + 1 + 1) (w.heap.size + 1 + 1 + 1) 28 30 E E v X → X.cell? ⟨w.heap.size + 1, 0, none⟩ = some (.int .i64 m) ∧ X.cell? ⟨w.heap.size + 1, 1, none⟩ = some (.int .i64 n)) := Lib.hid (fun X hX => ⟨(hX.bk Kt.out (by omega) (by omega)).two.1, (hX.bk Kt.out (by omega) (by omega)).two.2.1⟩)
  have bd1 : ∀ X, ψ X → X.cell? ⟨w.heap.size + 1 + 1, 2, none⟩ = some (.bool bad) := by rw [hψ, hψ1]; exact fun X h => bdE.out X _ _ h.1
  have bd2 : ∀ X, ψ X → X.cell? ⟨w.heap.size + 1 + 1 + 1, 2, none⟩ = some (.bool bad) := by rw [hψ, hψ2]; exact fun X h => bdE.out X _ _ h.2
  clear hψ hψ1 hψ2
  try simp only [List.append_eq, List.cons_append, List.nil_append]
  refine wp_region_saysP 52 (Turn (w.heap.size + 1 + 1) (w.heap.size + 1 + 1 + 1) 28 30 E E) (fun _ _ _ h k => h.trans k) (fun j X => (j = 10 → Bk X (w.heap.size + 1 + 1) 28 F) ∧ (j = 12 → Bk X (w.heap.size + 1 + 1 + 1) 30 F)) hpre v (Turn.of_below (below_drew1 v)) (by kernel_rfl) (by kernel_rfl) (by kernel_rfl) (by kernel_rfl) (by rfl) ?_
  simp only [List.take_succ_cons, List.take_zero, List.drop_succ_cons, List.drop_zero]
  refine walkP_call (.bool true) 7 ?_ (by first | exact gs0 rfl | exact gsB rfl rfl rfl | exact gs1 rfl rfl rfl) hBR (fun u X hX hd => ?_) (fun u X hX hd => ?_) ?_
  rotate_left
  · skip
    try simp at hd
    go_simp
    try rfl
  · exact aw.out X
  apply walkP_norm
  · first | (simp only [List.nil_append]; rfl) | simp only [List.nil_append]
  refine walkP_is ?_ (by first | exact gs0 rfl | exact gsB rfl rfl rfl | exact gs1 rfl rfl rfl) hRr (fun u X hX hd => ?_) ?_
  rotate_left
  · skip
    try simp at hd
    go_simp
    try rfl
  apply walkP_norm
  · first | (simp only [List.nil_append, List.cons_append]; rfl) | simp only [List.nil_append, List.cons_append]
  refine walkP_is _ (by first | exact gs0 rfl | exact gsB rfl rfl rfl | exact gs1 rfl rfl rfl) hRr (fun u X hX hd => op_load_blk (w.heap.size) (lb.out X hX) _ rfl rfl) ?_
  apply walkP_norm
  · first | (simp only [List.nil_append, List.cons_append]; rfl) | simp only [List.nil_append, List.cons_append]
  refine walkP_call (.string S) 8 ?_ (by first | exact gs0 rfl | exact gsB rfl rfl rfl | exact gs1 rfl rfl rfl) hBR (fun u X hX hd => ?_) (fun u X hX hd => ?_) ?_
  rotate_left
  · skip
    try simp at hd
    go_simp
    try rfl
  · exact p1.out X
  apply walkP_norm
  · first | (simp only [List.nil_append, List.cons_append]; rfl) | simp only [List.nil_append, List.cons_append]
  refine walkP_is _ (by first | exact gs0 rfl | exact gsB rfl rfl rfl | exact gs1 rfl rfl rfl) hRr (fun u X hX hd => op_load_blk (w.heap.size) (lb.out X hX) _ rfl rfl) ?_
  apply walkP_norm
  · first | (simp only [List.nil_append, List.cons_append]; rfl) | simp only [List.nil_append, List.cons_append]
  refine walkP_call (.string S) 9 ?_ (by first | exact gs0 rfl | exact gsB rfl rfl rfl | exact gs1 rfl rfl rfl) hBR (fun u X hX hd => ?_) (fun u X hX hd => ?_) ?_
  rotate_left
  · skip
    try simp at hd
    go_simp
    try rfl
  · exact p2.out X
  apply walkP_norm
  · first | (simp only [List.nil_append, List.cons_append]; rfl) | simp only [List.nil_append, List.cons_append]
  refine walkP_is (.bool true) (by first | exact gs0 rfl | exact gsB rfl rfl rfl | exact gs1 rfl rfl rfl) hRr (fun u X hX hd => ?_) ?_
  · skip
    try simp at hd
    go_simp
    try rfl
  apply walkP_norm
  · first | (simp only [List.nil_append, List.cons_append]; rfl) | simp only [List.nil_append, List.cons_append]
  refine walkP_is (.bool true) (by first | exact gs0 rfl | exact gsB rfl rfl rfl | exact gs1 rfl rfl rfl) hRr (fun u X hX hd => ?_) ?_
  · skip
    try simp at hd
    go_simp
    try rfl
  apply walkP_norm
  · first | (simp only [List.nil_append, List.cons_append]; rfl) | simp only [List.nil_append, List.cons_append]
  refine walkP_is (.bool true) (by first | exact gs0 rfl | exact gsB rfl rfl rfl | exact gs1 rfl rfl rfl) hRr (fun u X hX hd => ?_) ?_
  · skip
    try simp at hd
    go_simp
    try rfl
  apply walkP_norm
  · first | (simp only [List.nil_append, List.cons_append]; rfl) | simp only [List.nil_append, List.cons_append]
  refine walkP_is ?_ (by first | exact gs0 rfl | exact gsB rfl rfl rfl | exact gs1 rfl rfl rfl) hRr (fun u X hX hd => ?_) ?_
  rotate_left
  · skip
    try simp at hd
    go_simp
    try rfl
  apply walkP_norm
  · first | (simp only [List.nil_append, List.cons_append]; rfl) | simp only [List.nil_append, List.cons_append]
  refine walkP_once (.agg cr) ψ1 hRp1 10 ?_ (by first | exact gs0 rfl | exact gsB rfl rfl rfl | exact gs1 rfl rfl rfl) (fun u X hX hd => ?_) (fun X hX hp => ?_) ?_
  rotate_left
  · skip
    try simp at hd
    go_simp
    try rfl
  · exact once1 X hX hp
  apply walkP_norm
  · first | (simp only [List.nil_append, List.cons_append]; rfl) | simp only [List.nil_append, List.cons_append]
  refine walkP_is ?_ (by first | exact gs0 rfl | exact gsB rfl rfl rfl | exact gs1 rfl rfl rfl) hRr (fun u X hX hd => ?_) ?_
  rotate_left
  · skip
    try simp at hd
    go_simp
    try rfl
  apply walkP_norm
  · first | (simp only [List.nil_append, List.cons_append]; rfl) | simp only [List.nil_append, List.cons_append]
  refine walkP_once (.agg cr) ψ2 hRp2 11 ?_ (by first | exact gs0 rfl | exact gsB rfl rfl rfl | exact gs1 rfl rfl rfl) (fun u X hX hd => ?_) (fun X hX hp => ?_) ?_
  rotate_left
  · skip
    try simp at hd
    go_simp
    try rfl
  · exact once2 X hX hp
  apply walkP_norm
  · first | (simp only [List.nil_append, List.cons_append]; rfl) | simp only [List.nil_append, List.cons_append]
  refine walkP_isB (.bool true) ψ hRp (by first | exact gs0 rfl | exact gsB rfl rfl rfl | exact gs1 rfl rfl rfl) hRr (fun u X hX hd => ?_) ?_
  · skip
    simp at hd
    refine ⟨op_eql_blk true er.out _ _ _ rfl ?_ ?_, hψi X (by simp [hd]) (by simp [hd])⟩
    · go_simp
      try rfl
    · go_simp
      try rfl
  apply walkP_norm
  · first | (simp only [List.nil_append, List.cons_append]; rfl) | simp only [List.nil_append, List.cons_append]
  refine walkP_isB (.bool true) ψ hRp (by first | exact gs0 rfl | exact gsB rfl rfl rfl | exact gs1 rfl rfl rfl) hRr (fun u X hX hd => ?_) ?_
  · skip
    simp at hd
    refine ⟨?_, by simp [hd]⟩
    go_simp
    try rfl
  apply walkP_norm
  · first | (simp only [List.nil_append, List.cons_append]; rfl) | simp only [List.nil_append, List.cons_append]
  refine walkP_isB (.bool true) ψ hRp (by first | exact gs0 rfl | exact gsB rfl rfl rfl | exact gs1 rfl rfl rfl) hRr (fun u X hX hd => ?_) ?_
  · skip
    simp at hd
    refine ⟨?_, by simp [hd]⟩
    go_simp
    try rfl
  apply walkP_norm
  · first | (simp only [List.nil_append, List.cons_append]; rfl) | simp only [List.nil_append, List.cons_append]
  refine walkP_is ?_ (by first | exact gs0 rfl | exact gsB rfl rfl rfl | exact gs1 rfl rfl rfl) hRr (fun u X hX hd => ?_) ?_
  rotate_left
  · skip
    try simp at hd
    go_simp
    try rfl
  apply walkP_norm
  · first | (simp only [List.nil_append, List.cons_append]; rfl) | simp only [List.nil_append, List.cons_append]
  refine walkP_is ?_ (by first | exact gs0 rfl | exact gsB rfl rfl rfl | exact gs1 rfl rfl rfl) hRr (fun u X hX hd => ?_) ?_
  rotate_left
  · skip
    try simp at hd
    go_simp
    try rfl
  apply walkP_norm
  · first | (simp only [List.nil_append, List.cons_append]; rfl) | simp only [List.nil_append, List.cons_append]
  refine walkP_is ?_ (by first | exact gs0 rfl | exact gsB rfl rfl rfl | exact gs1 rfl rfl rfl) hRr (fun u X hX hd => ?_) ?_
  rotate_left
  · skip
    try simp at hd
    go_simp
    try rfl
  apply walkP_norm
  · first | (simp only [List.nil_append, List.cons_append]; rfl) | simp only [List.nil_append, List.cons_append]
  refine walkP_is ?_ (by first | exact gs0 rfl | exact gsB rfl rfl rfl | exact gs1 rfl rfl rfl) hRr (fun u X hX hd => ?_) ?_
  rotate_left
  · skip
    simp at hd
    have q := bd1 X (by simp [hd])
    go_simp
    try rfl
  apply walkP_norm
  · first | (simp only [List.nil_append, List.cons_append]; rfl) | simp only [List.nil_append, List.cons_append]
  refine walkP_is ?_ (by first | exact gs0 rfl | exact gsB rfl rfl rfl | exact gs1 rfl rfl rfl) hRr (fun u X hX hd => ?_) ?_
  rotate_left
  · skip
    try simp at hd
    go_simp
    try rfl
  apply walkP_norm
  · first | (simp only [List.nil_append, List.cons_append]; rfl) | simp only [List.nil_append, List.cons_append]
  refine walkP_is ?_ (by first | exact gs0 rfl | exact gsB rfl rfl rfl | exact gs1 rfl rfl rfl) hRr (fun u X hX hd => ?_) ?_
  rotate_left
  · skip
    try simp at hd
    go_simp
    try rfl
  apply walkP_norm
  · first | (simp only [List.nil_append, List.cons_append]; rfl) | simp only [List.nil_append, List.cons_append]
  refine walkP_is ?_ (by first | exact gs0 rfl | exact gsB rfl rfl rfl | exact gs1 rfl rfl rfl) hRr (fun u X hX hd => ?_) ?_
  rotate_left
  · skip
    try simp at hd
    go_simp
    try rfl
  apply walkP_norm
  · first | (simp only [List.nil_append, List.cons_append]; rfl) | simp only [List.nil_append, List.cons_append]
  refine walkP_is ?_ (by first | exact gs0 rfl | exact gsB rfl rfl rfl | exact gs1 rfl rfl rfl) hRr (fun u X hX hd => ?_) ?_
  rotate_left
  · skip
    simp at hd
    have q := bd2 X (by simp [hd])
    go_simp
    try rfl
  apply walkP_norm
  · first | (simp only [List.nil_append, List.cons_append]; rfl) | simp only [List.nil_append, List.cons_append]
  refine walkP_is (.bool true) (by first | exact gs0 rfl | exact gsB rfl rfl rfl | exact gs1 rfl rfl rfl) hRr (fun u X hX hd => ?_) ?_
  · skip
    try simp at hd
    go_simp
    try rfl
  apply walkP_norm
  · first | (simp only [List.nil_append, List.cons_append]; rfl) | simp only [List.nil_append, List.cons_append]
  refine walkP_is (.bool true) (by first | exact gs0 rfl | exact gsB rfl rfl rfl | exact gs1 rfl rfl rfl) hRr (fun u X hX hd => ?_) ?_
  · skip
    try simp at hd
    go_simp
    try rfl
  apply walkP_norm
  · first | (simp only [List.nil_append, List.cons_append]; rfl) | simp only [List.nil_append, List.cons_append]
  refine walkP_is (.bool true) (by first | exact gs0 rfl | exact gsB rfl rfl rfl | exact gs1 rfl rfl rfl) hRr (fun u X hX hd => ?_) ?_
  · skip
    try simp at hd
    go_simp
    try rfl
  apply walkP_norm
  · first | (simp only [List.nil_append, List.cons_append]; rfl) | simp only [List.nil_append, List.cons_append]
  refine walkP_is _ (by first | exact gs0 rfl | exact gsB rfl rfl rfl | exact gs1 rfl rfl rfl) hRr (fun u X hX hd => op_load_blk (w.heap.size) (lb.out X hX) _ rfl rfl) ?_
  apply walkP_norm
  · first | (simp only [List.nil_append, List.cons_append]; rfl) | simp only [List.nil_append, List.cons_append]
  refine walkP_is ?_ (by first | exact gs0 rfl | exact gsB rfl rfl rfl | exact gs1 rfl rfl rfl) hRr (fun u X hX hd => ?_) ?_
  rotate_left
  · skip
    try simp at hd
    go_simp
    try rfl
  apply walkP_norm
  · first | (simp only [List.nil_append, List.cons_append]; rfl) | simp only [List.nil_append, List.cons_append]
  refine walkP_is ?_ (by first | exact gs0 rfl | exact gsB rfl rfl rfl | exact gs1 rfl rfl rfl) hRr (fun u X hX hd => ?_) ?_
  rotate_left
  · skip
    try simp at hd
    obtain ⟨e0, e1⟩ := ct.out X hX
    go_simp
    try rfl
  apply walkP_norm
  · first | (simp only [List.nil_append, List.cons_append]; rfl) | simp only [List.nil_append, List.cons_append]
  refine walkP_call (.int .i64 z) 12 ?_ (by first | exact gs0 rfl | exact gsB rfl rfl rfl | exact gs1 rfl rfl rfl) hBR (fun u X hX hd => ?_) (fun u X hX hd => ?_) ?_
  rotate_left
  · skip
    try simp at hd
    go_simp
    try rfl
  · exact g1.out X
  apply walkP_norm
  · first | (simp only [List.nil_append, List.cons_append]; rfl) | simp only [List.nil_append, List.cons_append]
  refine walkP_is _ (by first | exact gs0 rfl | exact gsB rfl rfl rfl | exact gs1 rfl rfl rfl) hRr (fun u X hX hd => op_load_blk (w.heap.size) (lb.out X hX) _ rfl rfl) ?_
  apply walkP_norm
  · first | (simp only [List.nil_append, List.cons_append]; rfl) | simp only [List.nil_append, List.cons_append]
  refine walkP_is ?_ (by first | exact gs0 rfl | exact gsB rfl rfl rfl | exact gs1 rfl rfl rfl) hRr (fun u X hX hd => ?_) ?_
  rotate_left
  · skip
    try simp at hd
    go_simp
    try rfl
  apply walkP_norm
  · first | (simp only [List.nil_append, List.cons_append]; rfl) | simp only [List.nil_append, List.cons_append]
  refine walkP_is ?_ (by first | exact gs0 rfl | exact gsB rfl rfl rfl | exact gs1 rfl rfl rfl) hRr (fun u X hX hd => ?_) ?_
  rotate_left
  · skip
    try simp at hd
    obtain ⟨e0, e1⟩ := ct.out X hX
    go_simp
    try rfl
  apply walkP_norm
  · first | (simp only [List.nil_append, List.cons_append]; rfl) | simp only [List.nil_append, List.cons_append]
  refine walkP_call (.int .i64 z) 13 ?_ (by first | exact gs0 rfl | exact gsB rfl rfl rfl | exact gs1 rfl rfl rfl) hBR (fun u X hX hd => ?_) (fun u X hX hd => ?_) ?_
  rotate_left
  · skip
    try simp at hd
    go_simp
    try rfl
  · exact g2.out X
  apply walkP_norm
  · first | (simp only [List.nil_append, List.cons_append]; rfl) | simp only [List.nil_append, List.cons_append]
  refine walkP_is (.bool true) (by first | exact gs0 rfl | exact gsB rfl rfl rfl | exact gs1 rfl rfl rfl) hRr (fun u X hX hd => ?_) ?_
  · skip
    try simp at hd
    go_simp
    try rfl
  apply walkP_norm
  · first | (simp only [List.nil_append, List.cons_append]; rfl) | simp only [List.nil_append, List.cons_append]
  refine walkP_is (.bool true) (by first | exact gs0 rfl | exact gsB rfl rfl rfl | exact gs1 rfl rfl rfl) hRr (fun u X hX hd => ?_) ?_
  · skip
    try simp at hd
    go_simp
    try rfl
  apply walkP_norm
  · first | (simp only [List.nil_append, List.cons_append]; rfl) | simp only [List.nil_append, List.cons_append]
  refine walkP_is (.bool true) (by first | exact gs0 rfl | exact gsB rfl rfl rfl | exact gs1 rfl rfl rfl) hRr (fun u X hX hd => ?_) ?_
  · skip
    try simp at hd
    go_simp
    try rfl
  apply walkP_norm
  · first | (simp only [List.nil_append, List.cons_append]; rfl) | simp only [List.nil_append, List.cons_append]
  refine walkP_is _ (by first | exact gs0 rfl | exact gsB rfl rfl rfl | exact gs1 rfl rfl rfl) hRr (fun u X hX hd => op_load_blk (w.heap.size) (lb.out X hX) _ rfl rfl) ?_
  apply walkP_norm
  · first | (simp only [List.nil_append, List.cons_append]; rfl) | simp only [List.nil_append, List.cons_append]
  refine walkP_is ?_ (by first | exact gs0 rfl | exact gsB rfl rfl rfl | exact gs1 rfl rfl rfl) hRr (fun u X hX hd => ?_) ?_
  rotate_left
  · skip
    try simp at hd
    go_simp
    try rfl
  apply walkP_norm
  · first | (simp only [List.nil_append, List.cons_append]; rfl) | simp only [List.nil_append, List.cons_append]
  refine walkP_is ?_ (by first | exact gs0 rfl | exact gsB rfl rfl rfl | exact gs1 rfl rfl rfl) hRr (fun u X hX hd => ?_) ?_
  rotate_left
  · skip
    try simp at hd
    obtain ⟨e0, e1⟩ := ct.out X hX
    go_simp
    try rfl
  apply walkP_norm
  · first | (simp only [List.nil_append, List.cons_append]; rfl) | simp only [List.nil_append, List.cons_append]
  refine walkP_is ?_ (by first | exact gs0 rfl | exact gsB rfl rfl rfl | exact gs1 rfl rfl rfl) hRr (fun u X hX hd => ?_) ?_
  rotate_left
  · skip
    try simp at hd
    go_simp
    try rfl
  apply walkP_norm
  · first | (simp only [List.nil_append, List.cons_append]; rfl) | simp only [List.nil_append, List.cons_append]
  refine walkP_is ?_ (by first | exact gs0 rfl | exact gsB rfl rfl rfl | exact gs1 rfl rfl rfl) hRr (fun u X hX hd => ?_) ?_
  rotate_left
  · skip
    try simp at hd
    obtain ⟨e0, e1⟩ := ct.out X hX
    go_simp
    try rfl
  apply walkP_norm
  · first | (simp only [List.nil_append, List.cons_append]; rfl) | simp only [List.nil_append, List.cons_append]
  refine walkP_call (.agg cp) 14 ?_ (by first | exact gs0 rfl | exact gsB rfl rfl rfl | exact gs1 rfl rfl rfl) hBR (fun u X hX hd => ?_) (fun u X hX hd => ?_) ?_
  rotate_left
  · skip
    try simp at hd
    go_simp
    try rfl
  · exact q1.out X
  apply walkP_norm
  · first | (simp only [List.nil_append, List.cons_append]; rfl) | simp only [List.nil_append, List.cons_append]
  refine walkP_is _ (by first | exact gs0 rfl | exact gsB rfl rfl rfl | exact gs1 rfl rfl rfl) hRr (fun u X hX hd => op_load_blk (w.heap.size) (lb.out X hX) _ rfl rfl) ?_
  apply walkP_norm
  · first | (simp only [List.nil_append, List.cons_append]; rfl) | simp only [List.nil_append, List.cons_append]
  refine walkP_is ?_ (by first | exact gs0 rfl | exact gsB rfl rfl rfl | exact gs1 rfl rfl rfl) hRr (fun u X hX hd => ?_) ?_
  rotate_left
  · skip
    try simp at hd
    go_simp
    try rfl
  apply walkP_norm
  · first | (simp only [List.nil_append, List.cons_append]; rfl) | simp only [List.nil_append, List.cons_append]
  refine walkP_is ?_ (by first | exact gs0 rfl | exact gsB rfl rfl rfl | exact gs1 rfl rfl rfl) hRr (fun u X hX hd => ?_) ?_
  rotate_left
  · skip
    try simp at hd
    obtain ⟨e0, e1⟩ := ct.out X hX
    go_simp
    try rfl
  apply walkP_norm
  · first | (simp only [List.nil_append, List.cons_append]; rfl) | simp only [List.nil_append, List.cons_append]
  refine walkP_is ?_ (by first | exact gs0 rfl | exact gsB rfl rfl rfl | exact gs1 rfl rfl rfl) hRr (fun u X hX hd => ?_) ?_
  rotate_left
  · skip
    try simp at hd
    go_simp
    try rfl
  apply walkP_norm
  · first | (simp only [List.nil_append, List.cons_append]; rfl) | simp only [List.nil_append, List.cons_append]
  refine walkP_is ?_ (by first | exact gs0 rfl | exact gsB rfl rfl rfl | exact gs1 rfl rfl rfl) hRr (fun u X hX hd => ?_) ?_
  rotate_left
  · skip
    try simp at hd
    obtain ⟨e0, e1⟩ := ct.out X hX
    go_simp
    try rfl
  apply walkP_norm
  · first | (simp only [List.nil_append, List.cons_append]; rfl) | simp only [List.nil_append, List.cons_append]
  refine walkP_call (.agg cp) 15 ?_ (by first | exact gs0 rfl | exact gsB rfl rfl rfl | exact gs1 rfl rfl rfl) hBR (fun u X hX hd => ?_) (fun u X hX hd => ?_) ?_
  rotate_left
  · skip
    try simp at hd
    go_simp
    try rfl
  · exact q2.out X
  apply walkP_norm
  · first | (simp only [List.nil_append, List.cons_append]; rfl) | simp only [List.nil_append, List.cons_append]
  refine walkP_is (.bool true) (by first | exact gs0 rfl | exact gsB rfl rfl rfl | exact gs1 rfl rfl rfl) hRr (fun u X hX hd => ?_) ?_
  · skip
    simp at hd
    refine op_eql_blk true ep.out _ _ _ rfl ?_ ?_
    · go_simp
      try rfl
    · go_simp
      try rfl
  apply walkP_norm
  · first | (simp only [List.nil_append, List.cons_append]; rfl) | simp only [List.nil_append, List.cons_append]
  refine walkP_is (.bool true) (by first | exact gs0 rfl | exact gsB rfl rfl rfl | exact gs1 rfl rfl rfl) hRr (fun u X hX hd => ?_) ?_
  · skip
    try simp at hd
    go_simp
    try rfl
  apply walkP_norm
  · first | (simp only [List.nil_append, List.cons_append]; rfl) | simp only [List.nil_append, List.cons_append]
  intro u X hX hsay
  simp only [sayAll, isV, isB] at hsay
  obtain ⟨-, -, -, -, -, -, -, -, -, -, -, -, -, -, -, -, -, -, -, -, -, -, -, -, -, -, -, -, -, -, -, -, -, -, -, -, -, -, -, -, -, -, -, -, -, -, -, -, -, -, -, h10, -⟩ := hsay
  simp only [putAll, Act.put, h10, List.setIfInBounds_toArray, List.set_cons_succ, List.set_cons_zero]
  go_wp2
  go_ret
  exact ⟨rfl, hX.below Bv.out (by omega) (by omega) Bv.out.size⟩

theorem cellTells_walk (b : List Int) (h8 : b.length = 8) (s : ByteArray) (m n : Int) (w : World) :
    Calls Try.prog 3 #[.agg (bkC b), .string s, .agg #[.int .i64 m, .int .i64 n]] w fun e w' => e = .returned (.bool true) ∧ Below w.heap.size w w' := by
  by_cases hs : s.size ≤ 200
  · exact cellTells_main b h8 s hs m n w
  · have d0 : (200 : Int) < (s.size : Int) := by omega
    have aw := Lib.hid (fun W => awake9 W)
    have B0 := Lib.hid (((Below.refl w.heap.size w).alloc (Nat.le_refl _) (.cells (bkC b) 23)).alloc (by simp) (.cells #[.int .i64 m, .int .i64 n] 24))
    generalize bkC b = cb at *
    go_enter Try.func3, Try.ntmps3
    go_wp2_with (go_at_call 7; go_must ((with_reducible refine (aw.out _).mono ?_); rintro e w1 ⟨rfl, hb1⟩))
    go_ret
    exact ⟨rfl, bnext B0.out hb1⟩

end Go.Proofs.Ytenjjepjmcijhaa
