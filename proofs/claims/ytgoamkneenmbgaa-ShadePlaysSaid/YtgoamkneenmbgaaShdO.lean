/-
  ShadeOff, walked: true of any blocks and any place, in whatever memory.
-/
import Derived.Test.YtgoamkneenmbgaaShdW
namespace Go.Proofs.Ytgoamkneenmbgaa
open Go.RowKit
attribute [local go_sem] look findAt
attribute [local simp] depsOf isV Region.binds

theorem op_eqop_at {ρ : Operand → Value} {o : Oper} {w : World} {cs cs' : Array Value} (op : BinOp) (hop : op = .eql ∨ op = .neq) (ty : TypeId) (r : Bool) (hg : Try.prog.eqGuardType Try.prog.depth ty = false) (hl : (binOp op ty (.agg cs) (.agg cs')).run Try.prog w = .ok (.bool r) w) (x y : Operand) (t : TypeId)
    (ho : o.op = .binOp op ty x y t) (hx : ρ x = .agg cs) (hy : ρ y = .agg cs') : (execOp ρ o).run Try.prog w = .ok (.value (.bool r)) w := by
  unfold execOp
  rcases hop with rfl | rfl <;>
  · simp only [ho, hx, hy, Sem.run_bind, run_eqGuard_agg w _ _ _ _ _ _ hg, Sem.run_pure, Result.andThen_ok, hl]

/-- a variable more: an entry. -/
theorem varE_below (w : World) (zs cs : Array Value) : Below w.heap.size w ((w.alloc (.cells zs 34)).setRow w.heap.size cs) := below_row (below_alloc1 _ _) (Nat.le_refl _) _
theorem varE_bk (w : World) (zs cs : Array Value) : Bk ((w.alloc (.cells zs 34)).setRow w.heap.size cs) w.heap.size 34 cs := Bk.setRow (Bk.new _ _ _) _
theorem load_ent {w : World} {g : Nat} {cs : Array Value} (h9 : cs.size = 9) (hk : Bk w g 34 cs) : (loadVar 34 ⟨g, 0, none⟩).run Try.prog w = .ok (.agg cs) w :=
  run_loadVar_row w g _ _ _ (0, 0) _ hk Try.underlying34 rfl (by rw [h9]; exact infoEnt9)
abbrev eZ : Array Value := #[.int .i64 0, .int .i64 0, .int .i64 0, .int .i64 0, .int .i64 0, .int .i64 0, .int .i64 0, .int .i64 0, .int .i64 0]

section
variable (l : List Ent) (lA : Option Addr) (ln lc : Nat) (i : Int)

set_option maxHeartbeats 4000000 in
theorem shadeOff_long (hl : 70 < ln) (w : World) :
    Calls Try.prog 5 #[.slice lA ln lc, .int .i64 i] w fun e w' => e = .returned (.bool true) ∧ Below w.heap.size w w' := by
  have aw := Lib.hid (fun W => awake13 W)
  have d0 : (70 : Int) < (ln : Int) := by omega
  go_enter Try.func5, Try.ntmps5
  go_wp2_with (go_at_call 7; go_must ((with_reducible refine (aw.out _).mono ?_); rintro e w2 ⟨rfl, hb2⟩; have B2 := Lib.hid hb2))
  go_ret
  exact ⟨rfl, B2.out⟩

set_option maxHeartbeats 16000000 in
set_option maxRecDepth 100000 in
theorem shadeOff_main (hl : ln ≤ 70) (w : World) (hL : Ents w lA lc l) (h8 : Eight l) (hln : l.length = ln) :
    Calls Try.prog 5 #[.slice lA ln lc, .int .i64 i] w fun e w' => e = .returned (.bool true) ∧ Below w.heap.size w w' := by
  have aw := Lib.hid (fun W => awake13 W)
  have d0 : ¬ (70 : Int) < (ln : Int) := by omega
  have hlc : ln ≤ lc := by have := hL.2.1; omega
  have kp : Hid (∀ W : World, Below w.heap.size w W → Calls Try.prog 10 #[.agg (mkC false 0 0 0 0 0 0 (.slice none 0 0) (.slice none 0 0)), .slice lA ln lc, .int .i64 i] W (MkPost false 0 0 0 0 0 0 0 ⟨false, [], []⟩ W)) := Lib.hid (fun W hW => by
    have := keep_any false 0 0 0 0 0 0 none 0 0 none 0 [] [] l lA ln lc i W (mk_none W) (hL.below hW) h8 hln (by decide)
    rwa [keep_off rfl] at this)
  obtain ⟨x, hx⟩ : ∃ x, x = seeS ⟨false, [], []⟩ l i := ⟨_, rfl⟩
  have hx8 : x.cells.length = 8 := by
    rw [hx, see_off rfl]
    split
    · exact h8.at _
    · rfl
  have se : Hid (∀ (W : World) (oA : Option Addr) (oc : Nat) (kA : Option Addr) (kc : Nat), Below w.heap.size w W → MkIn W [] [] oA 0 oc kA 0 kc → Calls Try.prog 13 #[.agg (mkC false 0 0 0 0 0 0 (.slice oA 0 oc) (.slice kA 0 kc)), .slice lA ln lc, .int .i64 i] W fun e w' => e = .returned (.agg (bkC (entI x))) ∧ Below W.heap.size W w') := Lib.hid (fun W oA oc kA kc hW hM => by
    have := see_any false 0 0 0 0 0 0 oA 0 oc kA kc [] [] l lA ln lc i W hM (hL.below hW) h8 hln
    rwa [← hx] at this)
  have E9 : (bkC (entI x)).size = 9 := by rw [bkC_size, entI_length hx8]
  have EI := infoEnt hx8
  have EQ1 : Hid (∀ W : World, (binOp .eql 34 (.agg (bkC (entI x))) (.agg (bkC (entI x)))).run Try.prog W = .ok (.bool true) W) := Lib.hid (fun W => by rw [eql_ent W hx8 hx8, decide_eq_true rfl])
  have EA : (bkC (entI x)).all (·.oneCell') = true := bkC_all _
  have HL := Lib.hid hL
  have H8 := Lib.hid h8
  have HLN := Lib.hid hln
  have HX := Lib.hid hx
  clear hL h8 hx
  by_cases hi : 0 ≤ i ∧ i < (ln : Int)
  · obtain ⟨j, rfl⟩ : ∃ j : Nat, i = (j : Int) := ⟨i.toNat, by omega⟩
    have hj : j < ln := by omega
    have d1 : (j : Int) < (ln : Int) := by omega
    have d2 : (j : Int) < (lc : Int) := by omega
    obtain ⟨g, og, rfl, hg, hl0⟩ := HL.out.load H8.out (i := j) (by rw [HLN.out]; exact hj)
    have hxj : x = l[j]?.getD entZ := by
      rw [HX.out, see_off rfl, if_pos (by rw [HLN.out]; exact hi), Int.toNat_natCast]
    have hll : Hid (∀ X, Below w.heap.size w X → (loadVar 34 ⟨g, og + j * 9, none⟩).run Try.prog X = .ok (.agg (bkC (entI x))) X) := Lib.hid (fun X hX => by rw [hxj]; exact (hl0 X hX).1)
    clear hl0 hxj HX hx8 hi hln
    generalize bkC (entI x) = E at *
    have B0 := Lib.hid (Below.refl w.heap.size w)
    go_enter Try.func5, Try.ntmps5
    go_wp2_with (first
      | (go_at_call 10; go_must ((with_reducible refine (kp.out _ B0.out).mono ?_); rintro e w1 ⟨oA, oc, kA, kc, rfl, hM, hb⟩; have B1 := Lib.hid (bnext hb (varK_below w1 (mkC false 0 0 0 0 0 0 (.slice oA 0 oc) (.slice kA 0 kc)))); have M1 := Lib.hid (hM.below (varK_below w1 (mkC false 0 0 0 0 0 0 (.slice oA 0 oc) (.slice kA 0 kc)))); have V1 := Lib.hid (varK_bk w1 (mkC false 0 0 0 0 0 0 (.slice oA 0 oc) (.slice kA 0 kc))); have N1 := Lib.hid (Bk.new w1 25 mkZ); clear hM hb))
      | (with_reducible refine st_mk w1.heap.size N1.out rfl rfl rfl _ _ rfl rfl rfl rfl ?_)
      | (with_reducible refine ld_mk w1.heap.size V1.out _ rfl rfl rfl ?_)
      | (go_at_call 13; go_must ((with_reducible refine (se.out _ _ _ _ _ B1.out M1.out.inn).mono ?_); rintro e w2 ⟨rfl, hb⟩; have B2 := Lib.hid (bnext (bnext B1.out hb) (varE_below w2 eZ E)); have M2 := Lib.hid ((M1.out.below hb).below (varE_below w2 eZ E)); have V2 := Lib.hid ((V1.out.below hb).below (varE_below w2 eZ E)); have N2 := Lib.hid (Bk.new w2 34 eZ); have W2 := Lib.hid (varE_bk w2 eZ E); clear hb))
      | (refine wpList_store_row rfl 34 _ _ rfl w2.heap.size E rfl rfl 34 _ N2.out EI (by rw [E9]; rfl) EA ?_))
    obtain ⟨wr, hW⟩ : ∃ W, W = (w2.alloc (.cells eZ 34)).setRow w2.heap.size E := ⟨_, rfl⟩
    try rw [← hW]
    rw [← hW] at B2 V2 W2
    have hQ : Hid (∀ X, Below wr.heap.size wr X → X.cell? ⟨w1.heap.size, 0, none⟩ = some (.bool false) ∧ X.cell? ⟨w1.heap.size, 8, none⟩ = some (.slice kA 0 kc)) := Lib.hid (fun X hX => ⟨(V2.out.below hX).cell 0, (V2.out.below hX).cell 8⟩)
    have hE : Hid (∀ X, Below wr.heap.size wr X → (loadVar 34 ⟨w2.heap.size, 0, none⟩).run Try.prog X = .ok (.agg E) X) := Lib.hid (fun X hX => load_ent E9 (W2.out.below hX))
    have hLE : Hid (∀ X, Below wr.heap.size wr X → (loadVar 34 ⟨g, og + j * 9, none⟩).run Try.prog X = .ok (.agg E) X) := Lib.hid (fun X hX => hll.out X (bnext B2.out hX))
    clear hW M2 M1 V1 B1 N1 N2 W2
    try simp only [List.append_eq, List.cons_append, List.nil_append]
    refine wp_region_saysK 32 (fun x y => Below x.heap.size x y) (fun _ _ _ h k => bnext h k) wr (below_drew1 wr) (by kernel_rfl) (by kernel_rfl) (by kernel_rfl) (by kernel_rfl) (by rfl) ?_
    simp only [List.take_succ_cons, List.take_zero, List.drop_succ_cons, List.drop_zero]
    refine walkK_call (isV (.bool true)) 7 ?_ (by first | exact gs0 rfl | exact gs1 rfl rfl rfl) (fun _ _ _ _ h => h) (fun u X hX hd => ?_) (fun X hX => ?_) ?_
    rotate_left
    · obtain ⟨q0, q8⟩ := hQ.out X hX
      try simp at hd
      go_simp
      try rfl
    · exact (aw.out X).mono fun e X' ⟨he, hb⟩ => ⟨_, he, hb, rfl⟩
    apply walkK_norm
    · first | (simp only [List.nil_append]; rfl) | simp only [List.nil_append]
    refine walkK_is ?_ (by first | exact gs0 rfl | exact gs1 rfl rfl rfl) (fun _ => Below.refl _ _) (fun u X hX hd => ?_) ?_
    rotate_left
    · obtain ⟨q0, q8⟩ := hQ.out X hX
      try simp at hd
      go_simp
      try rfl
    apply walkK_norm
    · first | (simp only [List.nil_append, List.cons_append]; rfl) | simp only [List.nil_append, List.cons_append]
    refine walkK_is ?_ (by first | exact gs0 rfl | exact gs1 rfl rfl rfl) (fun _ => Below.refl _ _) (fun u X hX hd => ?_) ?_
    rotate_left
    · obtain ⟨q0, q8⟩ := hQ.out X hX
      try simp at hd
      go_simp
      try rfl
    apply walkK_norm
    · first | (simp only [List.nil_append, List.cons_append]; rfl) | simp only [List.nil_append, List.cons_append]
    refine walkK_is ?_ (by first | exact gs0 rfl | exact gs1 rfl rfl rfl) (fun _ => Below.refl _ _) (fun u X hX hd => ?_) ?_
    rotate_left
    · obtain ⟨q0, q8⟩ := hQ.out X hX
      try simp at hd
      go_simp
      try rfl
    apply walkK_norm
    · first | (simp only [List.nil_append, List.cons_append]; rfl) | simp only [List.nil_append, List.cons_append]
    refine walkK_is ?_ (by first | exact gs0 rfl | exact gs1 rfl rfl rfl) (fun _ => Below.refl _ _) (fun u X hX hd => ?_) ?_
    rotate_left
    · obtain ⟨q0, q8⟩ := hQ.out X hX
      try simp at hd
      go_simp
      try rfl
    apply walkK_norm
    · first | (simp only [List.nil_append, List.cons_append]; rfl) | simp only [List.nil_append, List.cons_append]
    refine walkK_is ?_ (by first | exact gs0 rfl | exact gs1 rfl rfl rfl) (fun _ => Below.refl _ _) (fun u X hX hd => ?_) ?_
    rotate_left
    · obtain ⟨q0, q8⟩ := hQ.out X hX
      try simp at hd
      go_simp
      try rfl
    apply walkK_norm
    · first | (simp only [List.nil_append, List.cons_append]; rfl) | simp only [List.nil_append, List.cons_append]
    refine walkK_is ?_ (by first | exact gs0 rfl | exact gs1 rfl rfl rfl) (fun _ => Below.refl _ _) (fun u X hX hd => ?_) ?_
    rotate_left
    · obtain ⟨q0, q8⟩ := hQ.out X hX
      try simp at hd
      go_simp
      try rfl
    apply walkK_norm
    · first | (simp only [List.nil_append, List.cons_append]; rfl) | simp only [List.nil_append, List.cons_append]
    refine walkK_is ?_ (by first | exact gs0 rfl | exact gs1 rfl rfl rfl) (fun _ => Below.refl _ _) (fun u X hX hd => ?_) ?_
    rotate_left
    · obtain ⟨q0, q8⟩ := hQ.out X hX
      try simp at hd
      go_simp
      try rfl
    apply walkK_norm
    · first | (simp only [List.nil_append, List.cons_append]; rfl) | simp only [List.nil_append, List.cons_append]
    refine walkK_is ?_ (by first | exact gs0 rfl | exact gs1 rfl rfl rfl) (fun _ => Below.refl _ _) (fun u X hX hd => ?_) ?_
    rotate_left
    · obtain ⟨q0, q8⟩ := hQ.out X hX
      try simp at hd
      go_simp
      try rfl
    apply walkK_norm
    · first | (simp only [List.nil_append, List.cons_append]; rfl) | simp only [List.nil_append, List.cons_append]
    refine walkK_is ?_ (by first | exact gs0 rfl | exact gs1 rfl rfl rfl) (fun _ => Below.refl _ _) (fun u X hX hd => ?_) ?_
    rotate_left
    · obtain ⟨q0, q8⟩ := hQ.out X hX
      try simp at hd
      go_simp
      try rfl
    apply walkK_norm
    · first | (simp only [List.nil_append, List.cons_append]; rfl) | simp only [List.nil_append, List.cons_append]
    refine walkK_is ?_ (by first | exact gs0 rfl | exact gs1 rfl rfl rfl) (fun _ => Below.refl _ _) (fun u X hX hd => ?_) ?_
    rotate_left
    · obtain ⟨q0, q8⟩ := hQ.out X hX
      try simp at hd
      go_simp
      try rfl
    apply walkK_norm
    · first | (simp only [List.nil_append, List.cons_append]; rfl) | simp only [List.nil_append, List.cons_append]
    refine walkK_is ?_ (by first | exact gs0 rfl | exact gs1 rfl rfl rfl) (fun _ => Below.refl _ _) (fun u X hX hd => ?_) ?_
    rotate_left
    · obtain ⟨q0, q8⟩ := hQ.out X hX
      try simp at hd
      go_simp
      try rfl
    apply walkK_norm
    · first | (simp only [List.nil_append, List.cons_append]; rfl) | simp only [List.nil_append, List.cons_append]
    refine walkK_is ?_ (by first | exact gs0 rfl | exact gs1 rfl rfl rfl) (fun _ => Below.refl _ _) (fun u X hX hd => ?_) ?_
    rotate_left
    · obtain ⟨q0, q8⟩ := hQ.out X hX
      try simp at hd
      go_simp
      try rfl
    apply walkK_norm
    · first | (simp only [List.nil_append, List.cons_append]; rfl) | simp only [List.nil_append, List.cons_append]
    refine walkK_is (.bool true) (by first | exact gs0 rfl | exact gs1 rfl rfl rfl) (fun _ => Below.refl _ _) (fun u X hX hd => ?_) ?_
    · obtain ⟨q0, q8⟩ := hQ.out X hX
      try simp at hd
      go_simp
      try rfl
    apply walkK_norm
    · first | (simp only [List.nil_append, List.cons_append]; rfl) | simp only [List.nil_append, List.cons_append]
    refine walkK_is (.bool false) (by first | exact gs0 rfl | exact gs1 rfl rfl rfl) (fun _ => Below.refl _ _) (fun u X hX hd => ?_) ?_
    · obtain ⟨q0, q8⟩ := hQ.out X hX
      try simp at hd
      go_simp
      try rfl
    apply walkK_norm
    · first | (simp only [List.nil_append, List.cons_append]; rfl) | simp only [List.nil_append, List.cons_append]
    refine walkK_is (.bool false) (by first | exact gs0 rfl | exact gs1 rfl rfl rfl) (fun _ => Below.refl _ _) (fun u X hX hd => ?_) ?_
    · obtain ⟨q0, q8⟩ := hQ.out X hX
      try simp at hd
      go_simp
      try rfl
    apply walkK_norm
    · first | (simp only [List.nil_append, List.cons_append]; rfl) | simp only [List.nil_append, List.cons_append]
    refine walkK_is (.agg (E)) (by first | exact gs0 rfl | exact gs1 rfl rfl rfl) (fun _ => Below.refl _ _) (fun u X hX hd => ?_) ?_
    · have hl := hE.out X hX
      try simp at hd
      refine op_load_at 34 (w2.heap.size) (0) hl _ rfl ?_
      go_simp
    apply walkK_norm
    · first | (simp only [List.nil_append, List.cons_append]; rfl) | simp only [List.nil_append, List.cons_append]
    refine walkK_is ?_ (by first | exact gs0 rfl | exact gs1 rfl rfl rfl) (fun _ => Below.refl _ _) (fun u X hX hd => ?_) ?_
    rotate_left
    · obtain ⟨q0, q8⟩ := hQ.out X hX
      try simp at hd
      go_simp
      try rfl
    apply walkK_norm
    · first | (simp only [List.nil_append, List.cons_append]; rfl) | simp only [List.nil_append, List.cons_append]
    refine walkK_is ?_ (by first | exact gs0 rfl | exact gs1 rfl rfl rfl) (fun _ => Below.refl _ _) (fun u X hX hd => ?_) ?_
    rotate_left
    · obtain ⟨q0, q8⟩ := hQ.out X hX
      try simp at hd
      go_simp
      try rfl
    apply walkK_norm
    · first | (simp only [List.nil_append, List.cons_append]; rfl) | simp only [List.nil_append, List.cons_append]
    refine walkK_is ?_ (by first | exact gs0 rfl | exact gs1 rfl rfl rfl) (fun _ => Below.refl _ _) (fun u X hX hd => ?_) ?_
    rotate_left
    · obtain ⟨q0, q8⟩ := hQ.out X hX
      try simp at hd
      go_simp
      try rfl
    apply walkK_norm
    · first | (simp only [List.nil_append, List.cons_append]; rfl) | simp only [List.nil_append, List.cons_append]
    refine walkK_is (.agg (E)) (by first | exact gs0 rfl | exact gs1 rfl rfl rfl) (fun _ => Below.refl _ _) (fun u X hX hd => ?_) ?_
    · have hl := hLE.out X hX
      try simp at hd
      refine op_load_at 34 (g) (og + j * 9) hl _ rfl ?_
      go_simp
    apply walkK_norm
    · first | (simp only [List.nil_append, List.cons_append]; rfl) | simp only [List.nil_append, List.cons_append]
    refine walkK_is (.bool true) (by first | exact gs0 rfl | exact gs1 rfl rfl rfl) (fun _ => Below.refl _ _) (fun u X hX hd => ?_) ?_
    · try simp at hd
      exact op_eqop_at .eql (.inl rfl) 34 true eqGuardEnt (EQ1.out X) _ _ _ rfl (by simp [look, findAt, hd]) (by simp [look, findAt, hd])
    apply walkK_norm
    · first | (simp only [List.nil_append, List.cons_append]; rfl) | simp only [List.nil_append, List.cons_append]
    refine walkK_is (.bool true) (by first | exact gs0 rfl | exact gs1 rfl rfl rfl) (fun _ => Below.refl _ _) (fun u X hX hd => ?_) ?_
    · obtain ⟨q0, q8⟩ := hQ.out X hX
      try simp at hd
      go_simp
      try rfl
    apply walkK_norm
    · first | (simp only [List.nil_append, List.cons_append]; rfl) | simp only [List.nil_append, List.cons_append]
    refine walkK_is (.bool true) (by first | exact gs0 rfl | exact gs1 rfl rfl rfl) (fun _ => Below.refl _ _) (fun u X hX hd => ?_) ?_
    · obtain ⟨q0, q8⟩ := hQ.out X hX
      try simp at hd
      go_simp
      try rfl
    apply walkK_norm
    · first | (simp only [List.nil_append, List.cons_append]; rfl) | simp only [List.nil_append, List.cons_append]
    refine walkK_is (.bool true) (by first | exact gs0 rfl | exact gs1 rfl rfl rfl) (fun _ => Below.refl _ _) (fun u X hX hd => ?_) ?_
    · obtain ⟨q0, q8⟩ := hQ.out X hX
      try simp at hd
      go_simp
      try rfl
    apply walkK_norm
    · first | (simp only [List.nil_append, List.cons_append]; rfl) | simp only [List.nil_append, List.cons_append]
    refine walkK_is (.bool true) (by first | exact gs0 rfl | exact gs1 rfl rfl rfl) (fun _ => Below.refl _ _) (fun u X hX hd => ?_) ?_
    · obtain ⟨q0, q8⟩ := hQ.out X hX
      try simp at hd
      go_simp
      try rfl
    apply walkK_norm
    · first | (simp only [List.nil_append, List.cons_append]; rfl) | simp only [List.nil_append, List.cons_append]
    refine walkK_is (.bool true) (by first | exact gs0 rfl | exact gs1 rfl rfl rfl) (fun _ => Below.refl _ _) (fun u X hX hd => ?_) ?_
    · obtain ⟨q0, q8⟩ := hQ.out X hX
      try simp at hd
      go_simp
      try rfl
    apply walkK_norm
    · first | (simp only [List.nil_append, List.cons_append]; rfl) | simp only [List.nil_append, List.cons_append]
    refine walkK_skip (st1 rfl rfl (by simp)) ?_
    apply walkK_norm
    · first | (simp only [List.nil_append, List.cons_append]; rfl) | simp only [List.nil_append, List.cons_append]
    refine walkK_skip (st1 rfl rfl (by simp)) ?_
    apply walkK_norm
    · first | (simp only [List.nil_append, List.cons_append]; rfl) | simp only [List.nil_append, List.cons_append]
    refine walkK_skip (st1 rfl rfl (by simp)) ?_
    apply walkK_norm
    · first | (simp only [List.nil_append, List.cons_append]; rfl) | simp only [List.nil_append, List.cons_append]
    refine walkK_is (.bool true) (by first | exact gs0 rfl | exact gs1 rfl rfl rfl) (fun _ => Below.refl _ _) (fun u X hX hd => ?_) ?_
    · obtain ⟨q0, q8⟩ := hQ.out X hX
      try simp at hd
      go_simp
      try rfl
    apply walkK_norm
    · first | (simp only [List.nil_append, List.cons_append]; rfl) | simp only [List.nil_append, List.cons_append]
    refine walkK_is (.bool true) (by first | exact gs0 rfl | exact gs1 rfl rfl rfl) (fun _ => Below.refl _ _) (fun u X hX hd => ?_) ?_
    · obtain ⟨q0, q8⟩ := hQ.out X hX
      try simp at hd
      go_simp
      try rfl
    apply walkK_norm
    · first | (simp only [List.nil_append, List.cons_append]; rfl) | simp only [List.nil_append, List.cons_append]
    intro u X hX hsay
    simp only [sayAll, isV] at hsay
    obtain ⟨-, -, -, -, -, -, -, -, -, -, -, -, -, -, -, -, -, -, -, -, -, -, -, -, -, -, -, -, -, -, -, v31, -⟩ := hsay
    simp only [putAll, Act.put]
    go_wp2
    go_ret
    exact ⟨rfl, bnext B2.out hX⟩
  · obtain rfl : x = entZ := by
      rw [HX.out, see_off rfl, if_neg (by rw [HLN.out]; exact hi)]
    have EQ2 : Hid (∀ W : World, (binOp .eql 34 (.agg (bkC (entI entZ))) (.agg eZ)).run Try.prog W = .ok (.bool true) W) := EQ1
    clear HX hx8 hln
    generalize bkC (entI entZ) = E at *
    by_cases h0 : 0 ≤ i
    · have h1 : ¬ i < (ln : Int) := fun q => hi ⟨h0, q⟩
      clear hi
      have B0 := Lib.hid (Below.refl w.heap.size w)
      go_enter Try.func5, Try.ntmps5
      go_wp2_with (first
        | (go_at_call 10; go_must ((with_reducible refine (kp.out _ B0.out).mono ?_); rintro e w1 ⟨oA, oc, kA, kc, rfl, hM, hb⟩; have B1 := Lib.hid (bnext hb (varK_below w1 (mkC false 0 0 0 0 0 0 (.slice oA 0 oc) (.slice kA 0 kc)))); have M1 := Lib.hid (hM.below (varK_below w1 (mkC false 0 0 0 0 0 0 (.slice oA 0 oc) (.slice kA 0 kc)))); have V1 := Lib.hid (varK_bk w1 (mkC false 0 0 0 0 0 0 (.slice oA 0 oc) (.slice kA 0 kc))); have N1 := Lib.hid (Bk.new w1 25 mkZ); clear hM hb))
        | (with_reducible refine st_mk w1.heap.size N1.out rfl rfl rfl _ _ rfl rfl rfl rfl ?_)
        | (with_reducible refine ld_mk w1.heap.size V1.out _ rfl rfl rfl ?_)
        | (go_at_call 13; go_must ((with_reducible refine (se.out _ _ _ _ _ B1.out M1.out.inn).mono ?_); rintro e w2 ⟨rfl, hb⟩; have B2 := Lib.hid (bnext (bnext B1.out hb) (varE_below w2 eZ E)); have M2 := Lib.hid ((M1.out.below hb).below (varE_below w2 eZ E)); have V2 := Lib.hid ((V1.out.below hb).below (varE_below w2 eZ E)); have N2 := Lib.hid (Bk.new w2 34 eZ); have W2 := Lib.hid (varE_bk w2 eZ E); clear hb))
        | (refine wpList_store_row rfl 34 _ _ rfl w2.heap.size E rfl rfl 34 _ N2.out EI (by rw [E9]; rfl) EA ?_))
      obtain ⟨wr, hW⟩ : ∃ W, W = (w2.alloc (.cells eZ 34)).setRow w2.heap.size E := ⟨_, rfl⟩
      try rw [← hW]
      rw [← hW] at B2 V2 W2
      have hQ : Hid (∀ X, Below wr.heap.size wr X → X.cell? ⟨w1.heap.size, 0, none⟩ = some (.bool false) ∧ X.cell? ⟨w1.heap.size, 8, none⟩ = some (.slice kA 0 kc)) := Lib.hid (fun X hX => ⟨(V2.out.below hX).cell 0, (V2.out.below hX).cell 8⟩)
      have hE : Hid (∀ X, Below wr.heap.size wr X → (loadVar 34 ⟨w2.heap.size, 0, none⟩).run Try.prog X = .ok (.agg E) X) := Lib.hid (fun X hX => load_ent E9 (W2.out.below hX))
      clear hW M2 M1 V1 B1 N1 N2 W2
      try simp only [List.append_eq, List.cons_append, List.nil_append]
      refine wp_region_saysK 32 (fun x y => Below x.heap.size x y) (fun _ _ _ h k => bnext h k) wr (below_drew1 wr) (by kernel_rfl) (by kernel_rfl) (by kernel_rfl) (by kernel_rfl) (by rfl) ?_
      simp only [List.take_succ_cons, List.take_zero, List.drop_succ_cons, List.drop_zero]
      refine walkK_call (isV (.bool true)) 7 ?_ (by first | exact gs0 rfl | exact gs1 rfl rfl rfl) (fun _ _ _ _ h => h) (fun u X hX hd => ?_) (fun X hX => ?_) ?_
      rotate_left
      · obtain ⟨q0, q8⟩ := hQ.out X hX
        try simp at hd
        go_simp
        try rfl
      · exact (aw.out X).mono fun e X' ⟨he, hb⟩ => ⟨_, he, hb, rfl⟩
      apply walkK_norm
      · first | (simp only [List.nil_append]; rfl) | simp only [List.nil_append]
      refine walkK_is ?_ (by first | exact gs0 rfl | exact gs1 rfl rfl rfl) (fun _ => Below.refl _ _) (fun u X hX hd => ?_) ?_
      rotate_left
      · obtain ⟨q0, q8⟩ := hQ.out X hX
        try simp at hd
        go_simp
        try rfl
      apply walkK_norm
      · first | (simp only [List.nil_append, List.cons_append]; rfl) | simp only [List.nil_append, List.cons_append]
      refine walkK_is ?_ (by first | exact gs0 rfl | exact gs1 rfl rfl rfl) (fun _ => Below.refl _ _) (fun u X hX hd => ?_) ?_
      rotate_left
      · obtain ⟨q0, q8⟩ := hQ.out X hX
        try simp at hd
        go_simp
        try rfl
      apply walkK_norm
      · first | (simp only [List.nil_append, List.cons_append]; rfl) | simp only [List.nil_append, List.cons_append]
      refine walkK_is ?_ (by first | exact gs0 rfl | exact gs1 rfl rfl rfl) (fun _ => Below.refl _ _) (fun u X hX hd => ?_) ?_
      rotate_left
      · obtain ⟨q0, q8⟩ := hQ.out X hX
        try simp at hd
        go_simp
        try rfl
      apply walkK_norm
      · first | (simp only [List.nil_append, List.cons_append]; rfl) | simp only [List.nil_append, List.cons_append]
      refine walkK_is ?_ (by first | exact gs0 rfl | exact gs1 rfl rfl rfl) (fun _ => Below.refl _ _) (fun u X hX hd => ?_) ?_
      rotate_left
      · obtain ⟨q0, q8⟩ := hQ.out X hX
        try simp at hd
        go_simp
        try rfl
      apply walkK_norm
      · first | (simp only [List.nil_append, List.cons_append]; rfl) | simp only [List.nil_append, List.cons_append]
      refine walkK_is ?_ (by first | exact gs0 rfl | exact gs1 rfl rfl rfl) (fun _ => Below.refl _ _) (fun u X hX hd => ?_) ?_
      rotate_left
      · obtain ⟨q0, q8⟩ := hQ.out X hX
        try simp at hd
        go_simp
        try rfl
      apply walkK_norm
      · first | (simp only [List.nil_append, List.cons_append]; rfl) | simp only [List.nil_append, List.cons_append]
      refine walkK_is ?_ (by first | exact gs0 rfl | exact gs1 rfl rfl rfl) (fun _ => Below.refl _ _) (fun u X hX hd => ?_) ?_
      rotate_left
      · obtain ⟨q0, q8⟩ := hQ.out X hX
        try simp at hd
        go_simp
        try rfl
      apply walkK_norm
      · first | (simp only [List.nil_append, List.cons_append]; rfl) | simp only [List.nil_append, List.cons_append]
      refine walkK_is ?_ (by first | exact gs0 rfl | exact gs1 rfl rfl rfl) (fun _ => Below.refl _ _) (fun u X hX hd => ?_) ?_
      rotate_left
      · obtain ⟨q0, q8⟩ := hQ.out X hX
        try simp at hd
        go_simp
        try rfl
      apply walkK_norm
      · first | (simp only [List.nil_append, List.cons_append]; rfl) | simp only [List.nil_append, List.cons_append]
      refine walkK_is ?_ (by first | exact gs0 rfl | exact gs1 rfl rfl rfl) (fun _ => Below.refl _ _) (fun u X hX hd => ?_) ?_
      rotate_left
      · obtain ⟨q0, q8⟩ := hQ.out X hX
        try simp at hd
        go_simp
        try rfl
      apply walkK_norm
      · first | (simp only [List.nil_append, List.cons_append]; rfl) | simp only [List.nil_append, List.cons_append]
      refine walkK_is ?_ (by first | exact gs0 rfl | exact gs1 rfl rfl rfl) (fun _ => Below.refl _ _) (fun u X hX hd => ?_) ?_
      rotate_left
      · obtain ⟨q0, q8⟩ := hQ.out X hX
        try simp at hd
        go_simp
        try rfl
      apply walkK_norm
      · first | (simp only [List.nil_append, List.cons_append]; rfl) | simp only [List.nil_append, List.cons_append]
      refine walkK_is ?_ (by first | exact gs0 rfl | exact gs1 rfl rfl rfl) (fun _ => Below.refl _ _) (fun u X hX hd => ?_) ?_
      rotate_left
      · obtain ⟨q0, q8⟩ := hQ.out X hX
        try simp at hd
        go_simp
        try rfl
      apply walkK_norm
      · first | (simp only [List.nil_append, List.cons_append]; rfl) | simp only [List.nil_append, List.cons_append]
      refine walkK_is ?_ (by first | exact gs0 rfl | exact gs1 rfl rfl rfl) (fun _ => Below.refl _ _) (fun u X hX hd => ?_) ?_
      rotate_left
      · obtain ⟨q0, q8⟩ := hQ.out X hX
        try simp at hd
        go_simp
        try rfl
      apply walkK_norm
      · first | (simp only [List.nil_append, List.cons_append]; rfl) | simp only [List.nil_append, List.cons_append]
      refine walkK_is ?_ (by first | exact gs0 rfl | exact gs1 rfl rfl rfl) (fun _ => Below.refl _ _) (fun u X hX hd => ?_) ?_
      rotate_left
      · obtain ⟨q0, q8⟩ := hQ.out X hX
        try simp at hd
        go_simp
        try rfl
      apply walkK_norm
      · first | (simp only [List.nil_append, List.cons_append]; rfl) | simp only [List.nil_append, List.cons_append]
      refine walkK_is (.bool false) (by first | exact gs0 rfl | exact gs1 rfl rfl rfl) (fun _ => Below.refl _ _) (fun u X hX hd => ?_) ?_
      · obtain ⟨q0, q8⟩ := hQ.out X hX
        try simp at hd
        go_simp
        try rfl
      apply walkK_norm
      · first | (simp only [List.nil_append, List.cons_append]; rfl) | simp only [List.nil_append, List.cons_append]
      refine walkK_is (.bool true) (by first | exact gs0 rfl | exact gs1 rfl rfl rfl) (fun _ => Below.refl _ _) (fun u X hX hd => ?_) ?_
      · obtain ⟨q0, q8⟩ := hQ.out X hX
        try simp at hd
        go_simp
        try rfl
      apply walkK_norm
      · first | (simp only [List.nil_append, List.cons_append]; rfl) | simp only [List.nil_append, List.cons_append]
      refine walkK_is (.bool true) (by first | exact gs0 rfl | exact gs1 rfl rfl rfl) (fun _ => Below.refl _ _) (fun u X hX hd => ?_) ?_
      · obtain ⟨q0, q8⟩ := hQ.out X hX
        try simp at hd
        go_simp
        try rfl
      apply walkK_norm
      · first | (simp only [List.nil_append, List.cons_append]; rfl) | simp only [List.nil_append, List.cons_append]
      refine walkK_skip (st1 rfl rfl (by simp)) ?_
      apply walkK_norm
      · first | (simp only [List.nil_append, List.cons_append]; rfl) | simp only [List.nil_append, List.cons_append]
      refine walkK_skip (st1 rfl rfl (by simp)) ?_
      apply walkK_norm
      · first | (simp only [List.nil_append, List.cons_append]; rfl) | simp only [List.nil_append, List.cons_append]
      refine walkK_skip (st1 rfl rfl (by simp)) ?_
      apply walkK_norm
      · first | (simp only [List.nil_append, List.cons_append]; rfl) | simp only [List.nil_append, List.cons_append]
      refine walkK_skip (st1 rfl rfl (by simp)) ?_
      apply walkK_norm
      · first | (simp only [List.nil_append, List.cons_append]; rfl) | simp only [List.nil_append, List.cons_append]
      refine walkK_skip (st1 rfl rfl (by simp)) ?_
      apply walkK_norm
      · first | (simp only [List.nil_append, List.cons_append]; rfl) | simp only [List.nil_append, List.cons_append]
      refine walkK_skip (st1 rfl rfl (by simp)) ?_
      apply walkK_norm
      · first | (simp only [List.nil_append, List.cons_append]; rfl) | simp only [List.nil_append, List.cons_append]
      refine walkK_is (.bool true) (by first | exact gs0 rfl | exact gs1 rfl rfl rfl) (fun _ => Below.refl _ _) (fun u X hX hd => ?_) ?_
      · obtain ⟨q0, q8⟩ := hQ.out X hX
        try simp at hd
        go_simp
        try rfl
      apply walkK_norm
      · first | (simp only [List.nil_append, List.cons_append]; rfl) | simp only [List.nil_append, List.cons_append]
      refine walkK_is (.bool true) (by first | exact gs0 rfl | exact gs1 rfl rfl rfl) (fun _ => Below.refl _ _) (fun u X hX hd => ?_) ?_
      · obtain ⟨q0, q8⟩ := hQ.out X hX
        try simp at hd
        go_simp
        try rfl
      apply walkK_norm
      · first | (simp only [List.nil_append, List.cons_append]; rfl) | simp only [List.nil_append, List.cons_append]
      refine walkK_is (.bool true) (by first | exact gs0 rfl | exact gs1 rfl rfl rfl) (fun _ => Below.refl _ _) (fun u X hX hd => ?_) ?_
      · obtain ⟨q0, q8⟩ := hQ.out X hX
        try simp at hd
        go_simp
        try rfl
      apply walkK_norm
      · first | (simp only [List.nil_append, List.cons_append]; rfl) | simp only [List.nil_append, List.cons_append]
      refine walkK_is (.bool false) (by first | exact gs0 rfl | exact gs1 rfl rfl rfl) (fun _ => Below.refl _ _) (fun u X hX hd => ?_) ?_
      · obtain ⟨q0, q8⟩ := hQ.out X hX
        try simp at hd
        go_simp
        try rfl
      apply walkK_norm
      · first | (simp only [List.nil_append, List.cons_append]; rfl) | simp only [List.nil_append, List.cons_append]
      refine walkK_is (.bool false) (by first | exact gs0 rfl | exact gs1 rfl rfl rfl) (fun _ => Below.refl _ _) (fun u X hX hd => ?_) ?_
      · obtain ⟨q0, q8⟩ := hQ.out X hX
        try simp at hd
        go_simp
        try rfl
      apply walkK_norm
      · first | (simp only [List.nil_append, List.cons_append]; rfl) | simp only [List.nil_append, List.cons_append]
      refine walkK_is (.agg (E)) (by first | exact gs0 rfl | exact gs1 rfl rfl rfl) (fun _ => Below.refl _ _) (fun u X hX hd => ?_) ?_
      · have hl := hE.out X hX
        try simp at hd
        refine op_load_at 34 (w2.heap.size) (0) hl _ rfl ?_
        go_simp
      apply walkK_norm
      · first | (simp only [List.nil_append, List.cons_append]; rfl) | simp only [List.nil_append, List.cons_append]
      refine walkK_is (.agg eZ) (by first | exact gs0 rfl | exact gs1 rfl rfl rfl) (fun _ => Below.refl _ _) (fun u X hX hd => ?_) ?_
      · obtain ⟨q0, q8⟩ := hQ.out X hX
        try simp at hd
        go_simp
        try rfl
      apply walkK_norm
      · first | (simp only [List.nil_append, List.cons_append]; rfl) | simp only [List.nil_append, List.cons_append]
      refine walkK_is (.bool true) (by first | exact gs0 rfl | exact gs1 rfl rfl rfl) (fun _ => Below.refl _ _) (fun u X hX hd => ?_) ?_
      · try simp at hd
        exact op_eqop_at .eql (.inl rfl) 34 true eqGuardEnt (EQ2.out X) _ _ _ rfl (by simp [look, findAt, hd]) (by simp [look, findAt, hd])
      apply walkK_norm
      · first | (simp only [List.nil_append, List.cons_append]; rfl) | simp only [List.nil_append, List.cons_append]
      refine walkK_is (.bool true) (by first | exact gs0 rfl | exact gs1 rfl rfl rfl) (fun _ => Below.refl _ _) (fun u X hX hd => ?_) ?_
      · obtain ⟨q0, q8⟩ := hQ.out X hX
        try simp at hd
        go_simp
        try rfl
      apply walkK_norm
      · first | (simp only [List.nil_append, List.cons_append]; rfl) | simp only [List.nil_append, List.cons_append]
      refine walkK_is (.bool true) (by first | exact gs0 rfl | exact gs1 rfl rfl rfl) (fun _ => Below.refl _ _) (fun u X hX hd => ?_) ?_
      · obtain ⟨q0, q8⟩ := hQ.out X hX
        try simp at hd
        go_simp
        try rfl
      apply walkK_norm
      · first | (simp only [List.nil_append, List.cons_append]; rfl) | simp only [List.nil_append, List.cons_append]
      intro u X hX hsay
      simp only [sayAll, isV] at hsay
      obtain ⟨-, -, -, -, -, -, -, -, -, -, -, -, -, -, -, -, -, -, -, -, -, -, -, -, -, -, -, -, -, -, -, v31, -⟩ := hsay
      simp only [putAll, Act.put]
      go_wp2
      go_ret
      exact ⟨rfl, bnext B2.out hX⟩
    · clear hi
      have B0 := Lib.hid (Below.refl w.heap.size w)
      go_enter Try.func5, Try.ntmps5
      go_wp2_with (first
        | (go_at_call 10; go_must ((with_reducible refine (kp.out _ B0.out).mono ?_); rintro e w1 ⟨oA, oc, kA, kc, rfl, hM, hb⟩; have B1 := Lib.hid (bnext hb (varK_below w1 (mkC false 0 0 0 0 0 0 (.slice oA 0 oc) (.slice kA 0 kc)))); have M1 := Lib.hid (hM.below (varK_below w1 (mkC false 0 0 0 0 0 0 (.slice oA 0 oc) (.slice kA 0 kc)))); have V1 := Lib.hid (varK_bk w1 (mkC false 0 0 0 0 0 0 (.slice oA 0 oc) (.slice kA 0 kc))); have N1 := Lib.hid (Bk.new w1 25 mkZ); clear hM hb))
        | (with_reducible refine st_mk w1.heap.size N1.out rfl rfl rfl _ _ rfl rfl rfl rfl ?_)
        | (with_reducible refine ld_mk w1.heap.size V1.out _ rfl rfl rfl ?_)
        | (go_at_call 13; go_must ((with_reducible refine (se.out _ _ _ _ _ B1.out M1.out.inn).mono ?_); rintro e w2 ⟨rfl, hb⟩; have B2 := Lib.hid (bnext (bnext B1.out hb) (varE_below w2 eZ E)); have M2 := Lib.hid ((M1.out.below hb).below (varE_below w2 eZ E)); have V2 := Lib.hid ((V1.out.below hb).below (varE_below w2 eZ E)); have N2 := Lib.hid (Bk.new w2 34 eZ); have W2 := Lib.hid (varE_bk w2 eZ E); clear hb))
        | (refine wpList_store_row rfl 34 _ _ rfl w2.heap.size E rfl rfl 34 _ N2.out EI (by rw [E9]; rfl) EA ?_))
      obtain ⟨wr, hW⟩ : ∃ W, W = (w2.alloc (.cells eZ 34)).setRow w2.heap.size E := ⟨_, rfl⟩
      try rw [← hW]
      rw [← hW] at B2 V2 W2
      have hQ : Hid (∀ X, Below wr.heap.size wr X → X.cell? ⟨w1.heap.size, 0, none⟩ = some (.bool false) ∧ X.cell? ⟨w1.heap.size, 8, none⟩ = some (.slice kA 0 kc)) := Lib.hid (fun X hX => ⟨(V2.out.below hX).cell 0, (V2.out.below hX).cell 8⟩)
      have hE : Hid (∀ X, Below wr.heap.size wr X → (loadVar 34 ⟨w2.heap.size, 0, none⟩).run Try.prog X = .ok (.agg E) X) := Lib.hid (fun X hX => load_ent E9 (W2.out.below hX))
      clear hW M2 M1 V1 B1 N1 N2 W2
      try simp only [List.append_eq, List.cons_append, List.nil_append]
      refine wp_region_saysK 32 (fun x y => Below x.heap.size x y) (fun _ _ _ h k => bnext h k) wr (below_drew1 wr) (by kernel_rfl) (by kernel_rfl) (by kernel_rfl) (by kernel_rfl) (by rfl) ?_
      simp only [List.take_succ_cons, List.take_zero, List.drop_succ_cons, List.drop_zero]
      refine walkK_call (isV (.bool true)) 7 ?_ (by first | exact gs0 rfl | exact gs1 rfl rfl rfl) (fun _ _ _ _ h => h) (fun u X hX hd => ?_) (fun X hX => ?_) ?_
      rotate_left
      · obtain ⟨q0, q8⟩ := hQ.out X hX
        try simp at hd
        go_simp
        try rfl
      · exact (aw.out X).mono fun e X' ⟨he, hb⟩ => ⟨_, he, hb, rfl⟩
      apply walkK_norm
      · first | (simp only [List.nil_append]; rfl) | simp only [List.nil_append]
      refine walkK_is ?_ (by first | exact gs0 rfl | exact gs1 rfl rfl rfl) (fun _ => Below.refl _ _) (fun u X hX hd => ?_) ?_
      rotate_left
      · obtain ⟨q0, q8⟩ := hQ.out X hX
        try simp at hd
        go_simp
        try rfl
      apply walkK_norm
      · first | (simp only [List.nil_append, List.cons_append]; rfl) | simp only [List.nil_append, List.cons_append]
      refine walkK_is ?_ (by first | exact gs0 rfl | exact gs1 rfl rfl rfl) (fun _ => Below.refl _ _) (fun u X hX hd => ?_) ?_
      rotate_left
      · obtain ⟨q0, q8⟩ := hQ.out X hX
        try simp at hd
        go_simp
        try rfl
      apply walkK_norm
      · first | (simp only [List.nil_append, List.cons_append]; rfl) | simp only [List.nil_append, List.cons_append]
      refine walkK_is ?_ (by first | exact gs0 rfl | exact gs1 rfl rfl rfl) (fun _ => Below.refl _ _) (fun u X hX hd => ?_) ?_
      rotate_left
      · obtain ⟨q0, q8⟩ := hQ.out X hX
        try simp at hd
        go_simp
        try rfl
      apply walkK_norm
      · first | (simp only [List.nil_append, List.cons_append]; rfl) | simp only [List.nil_append, List.cons_append]
      refine walkK_is ?_ (by first | exact gs0 rfl | exact gs1 rfl rfl rfl) (fun _ => Below.refl _ _) (fun u X hX hd => ?_) ?_
      rotate_left
      · obtain ⟨q0, q8⟩ := hQ.out X hX
        try simp at hd
        go_simp
        try rfl
      apply walkK_norm
      · first | (simp only [List.nil_append, List.cons_append]; rfl) | simp only [List.nil_append, List.cons_append]
      refine walkK_is ?_ (by first | exact gs0 rfl | exact gs1 rfl rfl rfl) (fun _ => Below.refl _ _) (fun u X hX hd => ?_) ?_
      rotate_left
      · obtain ⟨q0, q8⟩ := hQ.out X hX
        try simp at hd
        go_simp
        try rfl
      apply walkK_norm
      · first | (simp only [List.nil_append, List.cons_append]; rfl) | simp only [List.nil_append, List.cons_append]
      refine walkK_is ?_ (by first | exact gs0 rfl | exact gs1 rfl rfl rfl) (fun _ => Below.refl _ _) (fun u X hX hd => ?_) ?_
      rotate_left
      · obtain ⟨q0, q8⟩ := hQ.out X hX
        try simp at hd
        go_simp
        try rfl
      apply walkK_norm
      · first | (simp only [List.nil_append, List.cons_append]; rfl) | simp only [List.nil_append, List.cons_append]
      refine walkK_is ?_ (by first | exact gs0 rfl | exact gs1 rfl rfl rfl) (fun _ => Below.refl _ _) (fun u X hX hd => ?_) ?_
      rotate_left
      · obtain ⟨q0, q8⟩ := hQ.out X hX
        try simp at hd
        go_simp
        try rfl
      apply walkK_norm
      · first | (simp only [List.nil_append, List.cons_append]; rfl) | simp only [List.nil_append, List.cons_append]
      refine walkK_is ?_ (by first | exact gs0 rfl | exact gs1 rfl rfl rfl) (fun _ => Below.refl _ _) (fun u X hX hd => ?_) ?_
      rotate_left
      · obtain ⟨q0, q8⟩ := hQ.out X hX
        try simp at hd
        go_simp
        try rfl
      apply walkK_norm
      · first | (simp only [List.nil_append, List.cons_append]; rfl) | simp only [List.nil_append, List.cons_append]
      refine walkK_is ?_ (by first | exact gs0 rfl | exact gs1 rfl rfl rfl) (fun _ => Below.refl _ _) (fun u X hX hd => ?_) ?_
      rotate_left
      · obtain ⟨q0, q8⟩ := hQ.out X hX
        try simp at hd
        go_simp
        try rfl
      apply walkK_norm
      · first | (simp only [List.nil_append, List.cons_append]; rfl) | simp only [List.nil_append, List.cons_append]
      refine walkK_is ?_ (by first | exact gs0 rfl | exact gs1 rfl rfl rfl) (fun _ => Below.refl _ _) (fun u X hX hd => ?_) ?_
      rotate_left
      · obtain ⟨q0, q8⟩ := hQ.out X hX
        try simp at hd
        go_simp
        try rfl
      apply walkK_norm
      · first | (simp only [List.nil_append, List.cons_append]; rfl) | simp only [List.nil_append, List.cons_append]
      refine walkK_is ?_ (by first | exact gs0 rfl | exact gs1 rfl rfl rfl) (fun _ => Below.refl _ _) (fun u X hX hd => ?_) ?_
      rotate_left
      · obtain ⟨q0, q8⟩ := hQ.out X hX
        try simp at hd
        go_simp
        try rfl
      apply walkK_norm
      · first | (simp only [List.nil_append, List.cons_append]; rfl) | simp only [List.nil_append, List.cons_append]
      refine walkK_is ?_ (by first | exact gs0 rfl | exact gs1 rfl rfl rfl) (fun _ => Below.refl _ _) (fun u X hX hd => ?_) ?_
      rotate_left
      · obtain ⟨q0, q8⟩ := hQ.out X hX
        try simp at hd
        go_simp
        try rfl
      apply walkK_norm
      · first | (simp only [List.nil_append, List.cons_append]; rfl) | simp only [List.nil_append, List.cons_append]
      refine walkK_is (.bool false) (by first | exact gs0 rfl | exact gs1 rfl rfl rfl) (fun _ => Below.refl _ _) (fun u X hX hd => ?_) ?_
      · obtain ⟨q0, q8⟩ := hQ.out X hX
        try simp at hd
        go_simp
        try rfl
      apply walkK_norm
      · first | (simp only [List.nil_append, List.cons_append]; rfl) | simp only [List.nil_append, List.cons_append]
      refine walkK_is (.bool true) (by first | exact gs0 rfl | exact gs1 rfl rfl rfl) (fun _ => Below.refl _ _) (fun u X hX hd => ?_) ?_
      · obtain ⟨q0, q8⟩ := hQ.out X hX
        try simp at hd
        go_simp
        try rfl
      apply walkK_norm
      · first | (simp only [List.nil_append, List.cons_append]; rfl) | simp only [List.nil_append, List.cons_append]
      refine walkK_is (.bool true) (by first | exact gs0 rfl | exact gs1 rfl rfl rfl) (fun _ => Below.refl _ _) (fun u X hX hd => ?_) ?_
      · obtain ⟨q0, q8⟩ := hQ.out X hX
        try simp at hd
        go_simp
        try rfl
      apply walkK_norm
      · first | (simp only [List.nil_append, List.cons_append]; rfl) | simp only [List.nil_append, List.cons_append]
      refine walkK_skip (st1 rfl rfl (by simp)) ?_
      apply walkK_norm
      · first | (simp only [List.nil_append, List.cons_append]; rfl) | simp only [List.nil_append, List.cons_append]
      refine walkK_skip (st1 rfl rfl (by simp)) ?_
      apply walkK_norm
      · first | (simp only [List.nil_append, List.cons_append]; rfl) | simp only [List.nil_append, List.cons_append]
      refine walkK_skip (st1 rfl rfl (by simp)) ?_
      apply walkK_norm
      · first | (simp only [List.nil_append, List.cons_append]; rfl) | simp only [List.nil_append, List.cons_append]
      refine walkK_skip (st1 rfl rfl (by simp)) ?_
      apply walkK_norm
      · first | (simp only [List.nil_append, List.cons_append]; rfl) | simp only [List.nil_append, List.cons_append]
      refine walkK_skip (st1 rfl rfl (by simp)) ?_
      apply walkK_norm
      · first | (simp only [List.nil_append, List.cons_append]; rfl) | simp only [List.nil_append, List.cons_append]
      refine walkK_skip (st1 rfl rfl (by simp)) ?_
      apply walkK_norm
      · first | (simp only [List.nil_append, List.cons_append]; rfl) | simp only [List.nil_append, List.cons_append]
      refine walkK_is (.bool true) (by first | exact gs0 rfl | exact gs1 rfl rfl rfl) (fun _ => Below.refl _ _) (fun u X hX hd => ?_) ?_
      · obtain ⟨q0, q8⟩ := hQ.out X hX
        try simp at hd
        go_simp
        try rfl
      apply walkK_norm
      · first | (simp only [List.nil_append, List.cons_append]; rfl) | simp only [List.nil_append, List.cons_append]
      refine walkK_is (.bool true) (by first | exact gs0 rfl | exact gs1 rfl rfl rfl) (fun _ => Below.refl _ _) (fun u X hX hd => ?_) ?_
      · obtain ⟨q0, q8⟩ := hQ.out X hX
        try simp at hd
        go_simp
        try rfl
      apply walkK_norm
      · first | (simp only [List.nil_append, List.cons_append]; rfl) | simp only [List.nil_append, List.cons_append]
      refine walkK_is (.bool true) (by first | exact gs0 rfl | exact gs1 rfl rfl rfl) (fun _ => Below.refl _ _) (fun u X hX hd => ?_) ?_
      · obtain ⟨q0, q8⟩ := hQ.out X hX
        try simp at hd
        go_simp
        try rfl
      apply walkK_norm
      · first | (simp only [List.nil_append, List.cons_append]; rfl) | simp only [List.nil_append, List.cons_append]
      refine walkK_is (.bool false) (by first | exact gs0 rfl | exact gs1 rfl rfl rfl) (fun _ => Below.refl _ _) (fun u X hX hd => ?_) ?_
      · obtain ⟨q0, q8⟩ := hQ.out X hX
        try simp at hd
        go_simp
        try rfl
      apply walkK_norm
      · first | (simp only [List.nil_append, List.cons_append]; rfl) | simp only [List.nil_append, List.cons_append]
      refine walkK_is (.bool false) (by first | exact gs0 rfl | exact gs1 rfl rfl rfl) (fun _ => Below.refl _ _) (fun u X hX hd => ?_) ?_
      · obtain ⟨q0, q8⟩ := hQ.out X hX
        try simp at hd
        go_simp
        try rfl
      apply walkK_norm
      · first | (simp only [List.nil_append, List.cons_append]; rfl) | simp only [List.nil_append, List.cons_append]
      refine walkK_is (.agg (E)) (by first | exact gs0 rfl | exact gs1 rfl rfl rfl) (fun _ => Below.refl _ _) (fun u X hX hd => ?_) ?_
      · have hl := hE.out X hX
        try simp at hd
        refine op_load_at 34 (w2.heap.size) (0) hl _ rfl ?_
        go_simp
      apply walkK_norm
      · first | (simp only [List.nil_append, List.cons_append]; rfl) | simp only [List.nil_append, List.cons_append]
      refine walkK_is (.agg eZ) (by first | exact gs0 rfl | exact gs1 rfl rfl rfl) (fun _ => Below.refl _ _) (fun u X hX hd => ?_) ?_
      · obtain ⟨q0, q8⟩ := hQ.out X hX
        try simp at hd
        go_simp
        try rfl
      apply walkK_norm
      · first | (simp only [List.nil_append, List.cons_append]; rfl) | simp only [List.nil_append, List.cons_append]
      refine walkK_is (.bool true) (by first | exact gs0 rfl | exact gs1 rfl rfl rfl) (fun _ => Below.refl _ _) (fun u X hX hd => ?_) ?_
      · try simp at hd
        exact op_eqop_at .eql (.inl rfl) 34 true eqGuardEnt (EQ2.out X) _ _ _ rfl (by simp [look, findAt, hd]) (by simp [look, findAt, hd])
      apply walkK_norm
      · first | (simp only [List.nil_append, List.cons_append]; rfl) | simp only [List.nil_append, List.cons_append]
      refine walkK_is (.bool true) (by first | exact gs0 rfl | exact gs1 rfl rfl rfl) (fun _ => Below.refl _ _) (fun u X hX hd => ?_) ?_
      · obtain ⟨q0, q8⟩ := hQ.out X hX
        try simp at hd
        go_simp
        try rfl
      apply walkK_norm
      · first | (simp only [List.nil_append, List.cons_append]; rfl) | simp only [List.nil_append, List.cons_append]
      refine walkK_is (.bool true) (by first | exact gs0 rfl | exact gs1 rfl rfl rfl) (fun _ => Below.refl _ _) (fun u X hX hd => ?_) ?_
      · obtain ⟨q0, q8⟩ := hQ.out X hX
        try simp at hd
        go_simp
        try rfl
      apply walkK_norm
      · first | (simp only [List.nil_append, List.cons_append]; rfl) | simp only [List.nil_append, List.cons_append]
      intro u X hX hsay
      simp only [sayAll, isV] at hsay
      obtain ⟨-, -, -, -, -, -, -, -, -, -, -, -, -, -, -, -, -, -, -, -, -, -, -, -, -, -, -, -, -, -, -, v31, -⟩ := hsay
      simp only [putAll, Act.put]
      go_wp2
      go_ret
      exact ⟨rfl, bnext B2.out hX⟩

theorem shadeOff_walk (w : World) (hL : Ents w lA lc l) (h8 : Eight l) (hln : l.length = ln) :
    Calls Try.prog 5 #[.slice lA ln lc, .int .i64 i] w fun e w' => e = .returned (.bool true) ∧ Below w.heap.size w w' := by
  by_cases hl : ln ≤ 70
  · exact shadeOff_main l lA ln lc i hl w hL h8 hln
  · exact shadeOff_long lA ln lc i (by omega) w

end
end Go.Proofs.Ytgoamkneenmbgaa
