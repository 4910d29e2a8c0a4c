/-
  CellTwo, walked: true for any block, any two places and any two numbers, in whatever memory.
-/
import Derived.Test.YtenjjepjmcijhaaCelW
import Derived.Test.YtenjjepjmcijhaaSaysK
namespace Go.Proofs.Ytenjjepjmcijhaa
open Go.RowKit
attribute [local go_sem] look findAt
attribute [local simp] depsOf isV Region.binds

/-- a pointer to a new block of noughts. -/
def freshB (B : Nat) (v : Value) (w : World) : Prop := ∃ g, v = .pointer (some ⟨g, 0, none⟩) ∧ B ≤ g ∧ Bk w g 23 (bkC (List.replicate 8 0))
theorem freshB_keep {B : Nat} {v : Value} {x y : World} (hb : Below x.heap.size x y) (h : freshB B v x) : freshB B v y := by
  obtain ⟨g, e, hg, hk⟩ := h
  exact ⟨g, e, hg, hk.below hb⟩
theorem freshB_new {B : Nat} (w : World) (h : B ≤ w.heap.size) : freshB B (.pointer (some ⟨w.heap.size, 0, none⟩)) (w.alloc (.cells (bkC (List.replicate 8 0)) 23)) := ⟨_, rfl, h, Bk.new _ _ _⟩
theorem run_alloc_blk (ρ : Operand → Value) (w : World) (o : Oper) (ho : o.op = .alloc 23) : (execOp ρ o).run Try.prog w = .ok (.value (.pointer (some ⟨w.heap.size, 0, none⟩))) (w.alloc (.cells (bkC (List.replicate 8 0)) 23)) := by
  unfold execOp
  simp only [ho]
  rw [bkC_noughts]
  go_simp

set_option maxRecDepth 100000 in
set_option maxHeartbeats 16000000 in
theorem cellTwo_main (b : List Int) (h8 : b.length = 8) (p q m n : Int) (w : World) :
    Calls Try.prog 5 #[.agg (bkC b), .agg #[.int .i64 p, .int .i64 q], .agg #[.int .i64 m, .int .i64 n]] w fun e w' => e = .returned (.bool true) ∧ Below w.heap.size w w' := by
  have h1 : (putC b p m).length = 8 := by rw [putC_length, h8]
  have h2 : (putC b q n).length = 8 := by rw [putC_length, h8]
  have h3 : (putC (putC b p m) q n).length = 8 := by rw [putC_length, h1]
  have h4 : (putC (putC b q n) p m).length = 8 := by rw [putC_length, h2]
  have aw := Lib.hid (fun W => awake9 W)
  have p1 := Lib.hid (fun W => put_any b h8 p m W)
  have p2 := Lib.hid (fun W => put_any (putC b p m) h1 q n W)
  have p3 := Lib.hid (fun W => put_any b h8 q n W)
  have p4 := Lib.hid (fun W => put_any (putC b q n) h2 p m W)
  have hxy := Lib.hid (fun W : World => eql_blk W h3 h4)
  have hxz := Lib.hid (fun W : World => eql_blk W h3 h2)
  have exy : ¬ p = q → putC (putC b p m) q n = putC (putC b q n) p m := fun h => putC_comm b h m n
  have exz : p = q → putC (putC b p m) q n = putC b q n := fun h => by rw [h, putC_twice]
  have l3 := infoBlk h3
  have l4 := infoBlk h4
  have s3 : (bkC (putC (putC b p m) q n)).size = 8 := by rw [bkC_size, h3]
  have s4 : (bkC (putC (putC b q n) p m)).size = 8 := by rw [bkC_size, h4]
  have a3 := bkC_all (putC (putC b p m) q n)
  have a4 := bkC_all (putC (putC b q n) p m)
  have kx := Lib.hid (fun (W : World) (g : Nat) (h : Bk W g 23 (bkC (putC (putC b p m) q n))) => kw_load h3 h)
  have ky := Lib.hid (fun (W : World) (g : Nat) (h : Bk W g 23 (bkC (putC (putC b q n) p m))) => kw_load h4 h)
  have kb := Lib.hid (fun (W : World) (g : Nat) (h : Bk W g 23 (bkC b)) => kw_load h8 h)
  have oxy : Hid (¬ p = q → ∀ W : World, (binOp .eql 23 (.agg (bkC (putC (putC b p m) q n))) (.agg (bkC (putC (putC b q n) p m)))).run Try.prog W = .ok (.bool true) W) := Lib.hid (fun h W => by rw [hxy.out, decide_eq_true (exy h)])
  have oxz : Hid (p = q → ∀ W : World, (binOp .eql 23 (.agg (bkC (putC (putC b p m) q n))) (.agg (bkC (putC b q n)))).run Try.prog W = .ok (.bool true) W) := Lib.hid (fun h W => by rw [hxz.out, decide_eq_true (exz h)])
  clear h1 h2 h3 h4 h8 exy exz hxy hxz
  generalize bkC (putC (putC b p m) q n) = cx at *
  generalize bkC (putC (putC b q n) p m) = cy at *
  generalize bkC (putC b p m) = c1 at *
  generalize bkC (putC b q n) = c2 at *
  generalize bkC b = cb at *
  obtain ⟨wr, hW⟩ : ∃ W, W = ((w.alloc (.cells cb 23)).alloc (.cells #[.int .i64 p, .int .i64 q] 24)).alloc (.cells #[.int .i64 m, .int .i64 n] 24) := ⟨_, rfl⟩
  have B0 := Lib.hid (show Below w.heap.size w wr by rw [hW]; exact (((Below.refl _ _).alloc (Nat.le_refl _) _).alloc (by simp) _).alloc (by simp; omega) _)
  have K0 : Hid (Bk wr w.heap.size 23 cb) := Lib.hid (by rw [hW]; exact ((Bk.new _ _ _).alloc _).alloc _)
  have A0 : Hid (Bk wr (w.heap.size + 1) 24 #[.int .i64 p, .int .i64 q]) := Lib.hid (by rw [hW]; exact Bk.alloc (w := (w.alloc (.cells cb 23)).alloc (.cells #[.int .i64 p, .int .i64 q] 24)) (heap_alloc2_new _ _ _) _)
  have N0 : Hid (Bk wr (w.heap.size + 2) 24 #[.int .i64 m, .int .i64 n]) := Lib.hid (by rw [hW]; have := Bk.new ((w.alloc (.cells cb 23)).alloc (.cells #[.int .i64 p, .int .i64 q] 24)) 24 #[.int .i64 m, .int .i64 n]; simpa using this)
  have lb : Hid (∀ X, Below wr.heap.size wr X → (loadVar 23 ⟨w.heap.size, 0, none⟩).run Try.prog X = .ok (.agg cb) X) := Lib.hid (fun X hX => kb.out wr _ K0.out X ⟨⟨X, hX⟩, rfl⟩)
  have la : Hid (∀ X, Below wr.heap.size wr X → X.cell? ⟨w.heap.size + 1, 0, none⟩ = some (.int .i64 p) ∧ X.cell? ⟨w.heap.size + 1, 1, none⟩ = some (.int .i64 q)) := Lib.hid (fun X hX => ⟨(A0.out.below hX).two.1, (A0.out.below hX).two.2.1⟩)
  have ln : Hid (∀ X, Below wr.heap.size wr X → X.cell? ⟨w.heap.size + 2, 0, none⟩ = some (.int .i64 m) ∧ X.cell? ⟨w.heap.size + 2, 1, none⟩ = some (.int .i64 n)) := Lib.hid (fun X hX => ⟨(N0.out.below hX).two.1, (N0.out.below hX).two.2.1⟩)
  have hsz : w.heap.size ≤ wr.heap.size := B0.out.size
  go_enter Try.func5, Try.ntmps5
  go_wp2
  rw [← hW]
  clear hW
  try simp only [List.append_eq, List.cons_append, List.nil_append]
  refine wp_region_saysK 12 (fun x y => Below x.heap.size x y) (fun _ _ _ h k => bnext h k) wr (below_drew1 wr) (by kernel_rfl) (by kernel_rfl) (by kernel_rfl) (by kernel_rfl) (by rfl) ?_
  simp only [List.take_succ_cons, List.take_zero, List.drop_succ_cons, List.drop_zero]
  refine walkK_is (.agg cb) (by exact gs0 rfl) (fun _ => Below.refl _ _) (fun u X hX hd => op_load_blk w.heap.size (lb.out X hX) _ rfl rfl) ?_
  apply walkK_norm
  · first | (simp only [List.nil_append]; rfl) | simp only [List.nil_append]
  refine walkK_is ?_ (by exact gs0 rfl) (fun _ => Below.refl _ _) (fun u X hX hd => ?_) ?_
  rotate_left
  · have hb := lb.out X hX; obtain ⟨e0, e1⟩ := la.out X hX; obtain ⟨f0, f1⟩ := ln.out X hX
    try simp at hd
    go_simp
    try rfl
  apply walkK_norm
  · first | (simp only [List.nil_append, List.cons_append]; rfl) | simp only [List.nil_append, List.cons_append]
  refine walkK_is ?_ (by exact gs0 rfl) (fun _ => Below.refl _ _) (fun u X hX hd => ?_) ?_
  rotate_left
  · have hb := lb.out X hX; obtain ⟨e0, e1⟩ := la.out X hX; obtain ⟨f0, f1⟩ := ln.out X hX
    try simp at hd
    go_simp
    try rfl
  apply walkK_norm
  · first | (simp only [List.nil_append, List.cons_append]; rfl) | simp only [List.nil_append, List.cons_append]
  refine walkK_is ?_ (by exact gs0 rfl) (fun _ => Below.refl _ _) (fun u X hX hd => ?_) ?_
  rotate_left
  · have hb := lb.out X hX; obtain ⟨e0, e1⟩ := la.out X hX; obtain ⟨f0, f1⟩ := ln.out X hX
    try simp at hd
    go_simp
    try rfl
  apply walkK_norm
  · first | (simp only [List.nil_append, List.cons_append]; rfl) | simp only [List.nil_append, List.cons_append]
  refine walkK_is ?_ (by exact gs0 rfl) (fun _ => Below.refl _ _) (fun u X hX hd => ?_) ?_
  rotate_left
  · have hb := lb.out X hX; obtain ⟨e0, e1⟩ := la.out X hX; obtain ⟨f0, f1⟩ := ln.out X hX
    try simp at hd
    go_simp
    try rfl
  apply walkK_norm
  · first | (simp only [List.nil_append, List.cons_append]; rfl) | simp only [List.nil_append, List.cons_append]
  refine walkK_call (isV (.agg c1)) 14 ?_ (by exact gs0 rfl) (fun _ _ _ _ h => h) (fun u X hX hd => ?_) (fun X hX => ?_) ?_
  rotate_left
  · have hb := lb.out X hX; obtain ⟨e0, e1⟩ := la.out X hX; obtain ⟨f0, f1⟩ := ln.out X hX
    try simp at hd
    go_simp
    try rfl
  · exact (p1.out X).mono fun e X' ⟨he, hb⟩ => ⟨_, he, hb, rfl⟩
  apply walkK_norm
  · first | (simp only [List.nil_append, List.cons_append]; rfl) | simp only [List.nil_append, List.cons_append]
  refine walkK_is ?_ (by exact gs0 rfl) (fun _ => Below.refl _ _) (fun u X hX hd => ?_) ?_
  rotate_left
  · have hb := lb.out X hX; obtain ⟨e0, e1⟩ := la.out X hX; obtain ⟨f0, f1⟩ := ln.out X hX
    try simp at hd
    go_simp
    try rfl
  apply walkK_norm
  · first | (simp only [List.nil_append, List.cons_append]; rfl) | simp only [List.nil_append, List.cons_append]
  refine walkK_is ?_ (by exact gs0 rfl) (fun _ => Below.refl _ _) (fun u X hX hd => ?_) ?_
  rotate_left
  · have hb := lb.out X hX; obtain ⟨e0, e1⟩ := la.out X hX; obtain ⟨f0, f1⟩ := ln.out X hX
    try simp at hd
    go_simp
    try rfl
  apply walkK_norm
  · first | (simp only [List.nil_append, List.cons_append]; rfl) | simp only [List.nil_append, List.cons_append]
  refine walkK_is ?_ (by exact gs0 rfl) (fun _ => Below.refl _ _) (fun u X hX hd => ?_) ?_
  rotate_left
  · have hb := lb.out X hX; obtain ⟨e0, e1⟩ := la.out X hX; obtain ⟨f0, f1⟩ := ln.out X hX
    try simp at hd
    go_simp
    try rfl
  apply walkK_norm
  · first | (simp only [List.nil_append, List.cons_append]; rfl) | simp only [List.nil_append, List.cons_append]
  refine walkK_is ?_ (by exact gs0 rfl) (fun _ => Below.refl _ _) (fun u X hX hd => ?_) ?_
  rotate_left
  · have hb := lb.out X hX; obtain ⟨e0, e1⟩ := la.out X hX; obtain ⟨f0, f1⟩ := ln.out X hX
    try simp at hd
    go_simp
    try rfl
  apply walkK_norm
  · first | (simp only [List.nil_append, List.cons_append]; rfl) | simp only [List.nil_append, List.cons_append]
  refine walkK_call (isV (.agg cx)) 14 ?_ (by exact gs0 rfl) (fun _ _ _ _ h => h) (fun u X hX hd => ?_) (fun X hX => ?_) ?_
  rotate_left
  · have hb := lb.out X hX; obtain ⟨e0, e1⟩ := la.out X hX; obtain ⟨f0, f1⟩ := ln.out X hX
    try simp at hd
    go_simp
    try rfl
  · exact (p2.out X).mono fun e X' ⟨he, hb⟩ => ⟨_, he, hb, rfl⟩
  apply walkK_norm
  · first | (simp only [List.nil_append, List.cons_append]; rfl) | simp only [List.nil_append, List.cons_append]
  refine walkK_new (freshB wr.heap.size) (by exact gs0 rfl) (fun v x y hxy h => freshB_keep hxy h) (fun u X hX hd => ⟨_, _, run_alloc_blk _ X _ rfl, (Below.refl _ _).alloc (Nat.le_refl _) _, freshB_new X hX.size⟩) ?_
  apply walkK_norm
  · first | (simp only [List.nil_append, List.cons_append]; rfl) | simp only [List.nil_append, List.cons_append]
  intro u1 X1 hX hsay
  simp only [sayAll, isV] at hsay
  obtain ⟨-, -, -, -, -, -, -, -, -, -, h10, ⟨gx, h11, hggx, hkgx⟩, -⟩ := hsay
  simp only [putAll, Act.put, h10, h11, List.setIfInBounds_toArray, List.set_cons_succ, List.set_cons_zero]
  rw [bkC_noughts] at hkgx
  have B1 := Lib.hid (below_row hX hggx cx)
  have Kgx := Lib.hid (Bk.setRow hkgx cx)
  go_wp2_with (refine wpList_store_row rfl 23 _ _ rfl gx cx rfl rfl 23 _ hkgx l3 (by rw [s3]; rfl) a3 ?_)
  clear hkgx hX h10 h11 hggx
  generalize X1.setRow gx cx = v at *
  simp only [Act.put]
  have lb2 : Hid (∀ X, Below v.heap.size v X → (loadVar 23 ⟨w.heap.size, 0, none⟩).run Try.prog X = .ok (.agg cb) X) := Lib.hid (fun X hX => lb.out X (bnext B1.out hX))
  have la2 : Hid (∀ X, Below v.heap.size v X → X.cell? ⟨w.heap.size + 1, 0, none⟩ = some (.int .i64 p) ∧ X.cell? ⟨w.heap.size + 1, 1, none⟩ = some (.int .i64 q)) := Lib.hid (fun X hX => la.out X (bnext B1.out hX))
  have ln2 : Hid (∀ X, Below v.heap.size v X → X.cell? ⟨w.heap.size + 2, 0, none⟩ = some (.int .i64 m) ∧ X.cell? ⟨w.heap.size + 2, 1, none⟩ = some (.int .i64 n)) := Lib.hid (fun X hX => ln.out X (bnext B1.out hX))
  try simp only [List.append_eq, List.cons_append, List.nil_append]
  refine wp_region_saysK 12 (fun x y => Below x.heap.size x y) (fun _ _ _ h k => bnext h k) v (below_drew1 v) (by kernel_rfl) (by kernel_rfl) (by kernel_rfl) (by kernel_rfl) (by rfl) ?_
  simp only [List.take_succ_cons, List.take_zero, List.drop_succ_cons, List.drop_zero]
  refine walkK_is (.agg cb) (by exact gs0 rfl) (fun _ => Below.refl _ _) (fun u X hX hd => op_load_blk w.heap.size (lb2.out X hX) _ rfl rfl) ?_
  apply walkK_norm
  · first | (simp only [List.nil_append]; rfl) | simp only [List.nil_append]
  refine walkK_is ?_ (by exact gs0 rfl) (fun _ => Below.refl _ _) (fun u X hX hd => ?_) ?_
  rotate_left
  · have hb := lb2.out X hX; obtain ⟨e0, e1⟩ := la2.out X hX; obtain ⟨f0, f1⟩ := ln2.out X hX
    try simp at hd
    go_simp
    try rfl
  apply walkK_norm
  · first | (simp only [List.nil_append, List.cons_append]; rfl) | simp only [List.nil_append, List.cons_append]
  refine walkK_is ?_ (by exact gs0 rfl) (fun _ => Below.refl _ _) (fun u X hX hd => ?_) ?_
  rotate_left
  · have hb := lb2.out X hX; obtain ⟨e0, e1⟩ := la2.out X hX; obtain ⟨f0, f1⟩ := ln2.out X hX
    try simp at hd
    go_simp
    try rfl
  apply walkK_norm
  · first | (simp only [List.nil_append, List.cons_append]; rfl) | simp only [List.nil_append, List.cons_append]
  refine walkK_is ?_ (by exact gs0 rfl) (fun _ => Below.refl _ _) (fun u X hX hd => ?_) ?_
  rotate_left
  · have hb := lb2.out X hX; obtain ⟨e0, e1⟩ := la2.out X hX; obtain ⟨f0, f1⟩ := ln2.out X hX
    try simp at hd
    go_simp
    try rfl
  apply walkK_norm
  · first | (simp only [List.nil_append, List.cons_append]; rfl) | simp only [List.nil_append, List.cons_append]
  refine walkK_is ?_ (by exact gs0 rfl) (fun _ => Below.refl _ _) (fun u X hX hd => ?_) ?_
  rotate_left
  · have hb := lb2.out X hX; obtain ⟨e0, e1⟩ := la2.out X hX; obtain ⟨f0, f1⟩ := ln2.out X hX
    try simp at hd
    go_simp
    try rfl
  apply walkK_norm
  · first | (simp only [List.nil_append, List.cons_append]; rfl) | simp only [List.nil_append, List.cons_append]
  refine walkK_call (isV (.agg c2)) 14 ?_ (by exact gs0 rfl) (fun _ _ _ _ h => h) (fun u X hX hd => ?_) (fun X hX => ?_) ?_
  rotate_left
  · have hb := lb2.out X hX; obtain ⟨e0, e1⟩ := la2.out X hX; obtain ⟨f0, f1⟩ := ln2.out X hX
    try simp at hd
    go_simp
    try rfl
  · exact (p3.out X).mono fun e X' ⟨he, hb⟩ => ⟨_, he, hb, rfl⟩
  apply walkK_norm
  · first | (simp only [List.nil_append, List.cons_append]; rfl) | simp only [List.nil_append, List.cons_append]
  refine walkK_is ?_ (by exact gs0 rfl) (fun _ => Below.refl _ _) (fun u X hX hd => ?_) ?_
  rotate_left
  · have hb := lb2.out X hX; obtain ⟨e0, e1⟩ := la2.out X hX; obtain ⟨f0, f1⟩ := ln2.out X hX
    try simp at hd
    go_simp
    try rfl
  apply walkK_norm
  · first | (simp only [List.nil_append, List.cons_append]; rfl) | simp only [List.nil_append, List.cons_append]
  refine walkK_is ?_ (by exact gs0 rfl) (fun _ => Below.refl _ _) (fun u X hX hd => ?_) ?_
  rotate_left
  · have hb := lb2.out X hX; obtain ⟨e0, e1⟩ := la2.out X hX; obtain ⟨f0, f1⟩ := ln2.out X hX
    try simp at hd
    go_simp
    try rfl
  apply walkK_norm
  · first | (simp only [List.nil_append, List.cons_append]; rfl) | simp only [List.nil_append, List.cons_append]
  refine walkK_is ?_ (by exact gs0 rfl) (fun _ => Below.refl _ _) (fun u X hX hd => ?_) ?_
  rotate_left
  · have hb := lb2.out X hX; obtain ⟨e0, e1⟩ := la2.out X hX; obtain ⟨f0, f1⟩ := ln2.out X hX
    try simp at hd
    go_simp
    try rfl
  apply walkK_norm
  · first | (simp only [List.nil_append, List.cons_append]; rfl) | simp only [List.nil_append, List.cons_append]
  refine walkK_is ?_ (by exact gs0 rfl) (fun _ => Below.refl _ _) (fun u X hX hd => ?_) ?_
  rotate_left
  · have hb := lb2.out X hX; obtain ⟨e0, e1⟩ := la2.out X hX; obtain ⟨f0, f1⟩ := ln2.out X hX
    try simp at hd
    go_simp
    try rfl
  apply walkK_norm
  · first | (simp only [List.nil_append, List.cons_append]; rfl) | simp only [List.nil_append, List.cons_append]
  refine walkK_call (isV (.agg cy)) 14 ?_ (by exact gs0 rfl) (fun _ _ _ _ h => h) (fun u X hX hd => ?_) (fun X hX => ?_) ?_
  rotate_left
  · have hb := lb2.out X hX; obtain ⟨e0, e1⟩ := la2.out X hX; obtain ⟨f0, f1⟩ := ln2.out X hX
    try simp at hd
    go_simp
    try rfl
  · exact (p4.out X).mono fun e X' ⟨he, hb⟩ => ⟨_, he, hb, rfl⟩
  apply walkK_norm
  · first | (simp only [List.nil_append, List.cons_append]; rfl) | simp only [List.nil_append, List.cons_append]
  refine walkK_new (freshB v.heap.size) (by exact gs0 rfl) (fun v x y hxy h => freshB_keep hxy h) (fun u X hX hd => ⟨_, _, run_alloc_blk _ X _ rfl, (Below.refl _ _).alloc (Nat.le_refl _) _, freshB_new X hX.size⟩) ?_
  apply walkK_norm
  · first | (simp only [List.nil_append, List.cons_append]; rfl) | simp only [List.nil_append, List.cons_append]
  intro u2 X2 hX hsay
  simp only [sayAll, isV] at hsay
  obtain ⟨-, -, -, -, -, -, -, -, -, -, h10, ⟨gy, h11, hggy, hkgy⟩, -⟩ := hsay
  simp only [putAll, Act.put, h10, h11, List.setIfInBounds_toArray, List.set_cons_succ, List.set_cons_zero]
  rw [bkC_noughts] at hkgy
  have B2 := Lib.hid (below_row hX hggy cy)
  have Kgy := Lib.hid (Bk.setRow hkgy cy)
  have Kx := Lib.hid ((Kgx.out.below hX).farRow (show gx ≠ gy by have := Kgx.out.lt; omega) cy)
  have B4 := Lib.hid (bnext B0.out (bnext B1.out B2.out))
  have lb3 : Hid (∀ X, Below (X2.setRow gy cy).heap.size (X2.setRow gy cy) X → (loadVar 23 ⟨w.heap.size, 0, none⟩).run Try.prog X = .ok (.agg cb) X) := Lib.hid (fun X hX => lb2.out X (bnext B2.out hX))
  have la3 : Hid (∀ X, Below (X2.setRow gy cy).heap.size (X2.setRow gy cy) X → X.cell? ⟨w.heap.size + 1, 0, none⟩ = some (.int .i64 p) ∧ X.cell? ⟨w.heap.size + 1, 1, none⟩ = some (.int .i64 q)) := Lib.hid (fun X hX => la2.out X (bnext B2.out hX))
  have ln3 : Hid (∀ X, Below (X2.setRow gy cy).heap.size (X2.setRow gy cy) X → X.cell? ⟨w.heap.size + 2, 0, none⟩ = some (.int .i64 m) ∧ X.cell? ⟨w.heap.size + 2, 1, none⟩ = some (.int .i64 n)) := Lib.hid (fun X hX => ln2.out X (bnext B2.out hX))
  obtain ⟨e0, e1⟩ := la3.out _ (Below.refl _ _)
  by_cases hpq : p = q
  · obtain rfl := hpq
    have z := Lib.hid (oxz.out rfl)
    go_wp2_with (refine wpList_store_row rfl 23 _ _ rfl gy cy rfl rfl 23 _ hkgy l4 (by rw [s4]; rfl) a4 ?_)
    clear hkgy hX hggy e0 e1
    generalize X2.setRow gy cy = v2 at *
    have hne : Nonempty (KW v2) := ⟨⟨v2, Below.refl _ _⟩⟩
    have r1 := Lib.hid (kx.out v2 gx Kx.out)
    have r2 := Lib.hid (show ∀ W, (∃ x : KW v2, W = x.1) → (loadVar 23 ⟨w.heap.size, 0, none⟩).run Try.prog W = .ok (.agg cb) W by rintro _ ⟨x, rfl⟩; exact lb3.out _ x.2)
    have r3 : ∀ x : KW v2, x.1.cell? ⟨w.heap.size + 1, 1, none⟩ = some (.int .i64 p) := fun x => (la3.out _ x.2).2
    have r4 : ∀ x : KW v2, x.1.cell? ⟨w.heap.size + 1 + 1, 1, none⟩ = some (.int .i64 n) := fun x => (ln3.out _ x.2).2
    try simp only [List.append_eq, List.cons_append, List.nil_append]
    refine wp_region_kept v2 (Below.refl _ _) (by kernel_rfl) (by kernel_rfl) ?_
    repeat (first
      | (go_big_quiet_want; (first | refine quiet_load_blk gx r1.out _ rfl rfl ?_ | refine quiet_load_blk w.heap.size r2.out _ rfl rfl ?_ | refine quiet_eql_blk true z.out _ _ _ rfl rfl rfl ?_); go_simp; go_big_quiet_on)
      | go_big_quiet_step ((first
        | (go_at_call 7; with_reducible exact kept_of _ (aw.out _))
        | (go_at_call 14; with_reducible exact kept_of _ (p3.out _)))))
    refine wpQuiet_nil ?_
    rintro _ ⟨wx, rfl⟩
    go_wp2
    go_ret
    exact ⟨rfl, bnext B4.out wx.2⟩
  · have z := Lib.hid (oxy.out hpq)
    have ey := Lib.hid (ky.out _ gy Kgy.out)
    have ex := Lib.hid (kx.out _ gx Kx.out)
    have d1 : (p == q) = false := beq_eq_false_iff_ne.2 hpq
    go_wp2_with (first
      | (refine wpList_store_row rfl 23 _ _ rfl gy cy rfl rfl 23 _ hkgy l4 (by rw [s4]; rfl) a4 ?_)
      | (go_at_call 7; go_must ((with_reducible refine (aw.out _).mono ?_); rintro e w9 ⟨rfl, hb9⟩))
      | (refine wpList_load_blk gx (ex.out w9 ⟨⟨w9, hb9⟩, rfl⟩) _ rfl rfl rfl ?_)
      | (refine wpList_load_blk gy (ey.out w9 ⟨⟨w9, hb9⟩, rfl⟩) _ rfl rfl rfl ?_)
      | (refine wpList_eql_blk true z.out _ _ _ rfl rfl rfl rfl ?_))
    go_ret
    exact ⟨rfl, bnext B4.out hb9⟩

end Go.Proofs.Ytenjjepjmcijhaa
