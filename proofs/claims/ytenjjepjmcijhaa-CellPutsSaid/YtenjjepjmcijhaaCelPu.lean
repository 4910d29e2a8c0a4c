/-
  CellPuts, walked: true for any block, any place and any number, in whatever memory.
-/
import Derived.Test.YtenjjepjmcijhaaCelW
import Derived.Test.YtenjjepjmcijhaaSaysP
import Derived.Test.YtenjjepjmcijhaaTurn
namespace Go.Proofs.Ytenjjepjmcijhaa
open Go.RowKit
attribute [local go_sem] look findAt
attribute [local simp] depsOf isV isB Region.binds

theorem getC_at {b : List Int} (j : Nat) (h : j < 8) : getC b j = b[j]?.getD 0 := by rw [getC, if_pos (by omega), Int.toNat_natCast]

set_option maxRecDepth 100000 in
set_option maxHeartbeats 16000000 in
theorem cellPuts_walk (b : List Int) (h8 : b.length = 8) (ib : inB b) (i : Int) (hi0 : 0 ≤ i ∧ i ≤ 255) (n : Int) (hn : -9223372036854775808 ≤ n ∧ n ≤ 9223372036854775807) (w : World) :
    Calls Try.prog 4 #[.agg (bkC b), .int .u8 i, .int .i64 n] w fun e w' => e = .returned (.bool true) ∧ Below w.heap.size w w' := by
  obtain ⟨k, hk⟩ : ∃ k : Nat, i % 12 = (k : Int) := Int.eq_ofNat_of_zero_le (by omega)
  have hk12 : k < 12 := by omega
  have htm : i.tmod 12 = (k : Int) := by rw [Int.tmod_eq_emod_of_nonneg hi0.1, hk]
  obtain ⟨hi0, hi1⟩ := hi0
  have h8x : (putC b k n).length = 8 := by rw [putC_length, h8]
  have ix := putC_in ib k hn
  have aw := Lib.hid (fun W => awake9 W)
  have pt := Lib.hid (fun W => put_any b h8 k n W)
  have gt := Lib.hid (fun (j : Nat) (_ : j < 8) W => get_any (putC b k n) h8x j W)
  have wt : Hid (∀ j : Nat, j < 8 → getC (putC b k n) j = if j = k then n else b[j]?.getD 0) := Lib.hid (fun j hj => by
    rw [getC_putC h8]
    by_cases e : j = k
    · subst e; rw [if_pos (by omega), if_pos rfl]
    · rw [if_neg (by omega), if_neg e, getC_at j hj])
  have pr := Lib.hid (fun W => print_any (putC b k n) h8x W)
  have rd := Lib.hid (fun g W h => read_back h8x ix g W h)
  have dn0 := Lib.hid (fun g W h => done_yes h8x g W h)
  have ex : Hid (∀ W : World, (binOp .eql 23 (.agg (bkC (putC b k n))) (.agg (bkC (putC b k n)))).run Try.prog W = .ok (.bool true) W) := Lib.hid (fun W => by rw [eql_blk W h8x h8x, decide_eq_true rfl])
  have hat := Lib.hid (fun j h => bkC_at (b := b) (i := j) h)
  have i8 := infoBlk h8
  have i8x := infoBlk h8x
  have s8x : (bkC (putC b k n)).size = 8 := by rw [bkC_size, h8x]
  have a8x := bkC_all (putC b k n)
  have kx := Lib.hid (fun (W : World) (g : Nat) (h : Bk W g 23 (bkC (putC b k n))) => load_blk h8x h)
  have hE : Hid (∀ r, frV (strL (cellB (putC b k n))) r = #[.string (strL (cellB (putC b k n))), .int .i64 r.at_, .bool r.bad]) := Lib.hid (fun r => rfl)
  generalize getC (putC b k n) = G at *
  obtain ⟨E, hEE⟩ : ∃ E, E = frV (strL (cellB (putC b k n))) ⟨64, false⟩ := ⟨_, rfl⟩
  obtain ⟨F, hFF⟩ : ∃ F, F = frV (strL (cellB (putC b k n))) ⟨0, false⟩ := ⟨_, rfl⟩
  rw [← hEE] at rd dn0
  rw [← hFF] at rd
  have hFn := Lib.hid (fun v : World => Bk.newF v 28 (strL (cellB (putC b k n))))
  rw [← hFF] at hFn
  clear hE hEE hFF ix ib hn h8x
  generalize strL (cellB (putC b k n)) = S at *
  generalize bkC (putC b k n) = cx at *
  have hOb := Bk.new w 23 (bkC b)
  have hB0 := (Below.refl w.heap.size w).alloc (Nat.le_refl _) (.cells (bkC b) 23)
  generalize bkC b = cb at *
  have O1 := Lib.hid hOb
  have B0 := Lib.hid hB0
  clear hOb hB0
  have hst : Hid (∀ v : World, Bk (v.alloc (.cells #[.int .i64 0, .int .i64 0, .int .i64 0, .int .i64 0, .int .i64 0, .int .i64 0, .int .i64 0, .int .i64 0] 23)) v.heap.size 23 #[.int .i64 0, .int .i64 0, .int .i64 0, .int .i64 0, .int .i64 0, .int .i64 0, .int .i64 0, .int .i64 0]) := Lib.hid (fun v => Bk.new v _ _)
  have hss : Hid (∀ v : World, Bk ((v.alloc (.cells #[.int .i64 0, .int .i64 0, .int .i64 0, .int .i64 0, .int .i64 0, .int .i64 0, .int .i64 0, .int .i64 0] 23)).setRow v.heap.size cx) v.heap.size 23 cx ∧ Below v.heap.size v ((v.alloc (.cells #[.int .i64 0, .int .i64 0, .int .i64 0, .int .i64 0, .int .i64 0, .int .i64 0, .int .i64 0, .int .i64 0] 23)).setRow v.heap.size cx)) := Lib.hid (fun v => ⟨(Bk.new v _ _).setRow cx, below_row ((Below.refl _ _).alloc (Nat.le_refl _) _) (Nat.le_refl _) _⟩)
  obtain ⟨w0, hw0⟩ : ∃ w0, w0 = w.alloc (.cells cb 23) := ⟨_, rfl⟩
  have hw0' := Lib.hid hw0
  rw [← hw0] at O1 B0
  have O2 : Hid (Bk (w.alloc (.cells cb 23)) w.heap.size 23 cb) := Lib.hid (Bk.new _ _ _)
  clear hw0
  go_enter Try.func4, Try.ntmps4
  go_wp2_with (first
    | (go_at_call 14; go_must ((with_reducible refine (pt.out _).mono ?_); rintro e w1 ⟨rfl, hb1⟩; rw [← hw0'.out] at hb1; have B1 := Lib.hid (bnext B0.out hb1); have O3 := Lib.hid (O1.out.below hb1); clear hb1))
    | (refine wpList_load_row rfl 23 _ rfl w.heap.size rfl 23 cb (0, 0) _ O2.out Try.underlying23 rfl i8 ?_)
    | (refine wpList_store_row rfl 23 _ _ rfl w1.heap.size cx rfl rfl 23 _ (hst.out w1) i8x (by rw [s8x]; rfl) a8x ?_; have q2 := hss.out w1; generalize (w1.alloc _).setRow w1.heap.size cx = w2 at *; have X2 := Lib.hid q2.1; have O4 := Lib.hid (O3.out.below q2.2); have B2 := Lib.hid (bnext B1.out q2.2); clear q2 B1; generalize w1.heap.size = gx at *))
  go_loopw [9] (fun cc wr => ∃ j : Nat, j ≤ 8 ∧ cc = .int .i64 j ∧ Below w2.heap.size w2 wr) (fun cc _ => 8 - (intOf cc).toNat)
  case atStart => exact ⟨0, Nat.zero_le _, rfl, Below.refl _ _⟩
  case round =>
    obtain ⟨j, hj, rfl, hb⟩ := hrel
    have O5 := Lib.hid (O4.out.below hb)
    have X5 := Lib.hid (X2.out.below hb)
    by_cases hlt : j < 8
    · have hc := (O5.out.cell j).trans (hat.out j (by omega))
      have hol := O5.out.lt
      have hwt := wt.out j hlt
      have hg := gt.out j hlt
      rw [hwt] at hg
      have hg' := Lib.hid hg
      clear hg hwt
      by_cases e : j = k
      · subst e
        rw [if_pos rfl] at hg'
        go_wp2_with (first
          | (refine wpList_load_row rfl 23 _ rfl gx rfl 23 cx (0, 0) _ X5.out Try.underlying23 rfl i8x ?_)
          | (go_at_call 12; go_must ((with_reducible refine (hg'.out _).mono ?_); rintro e w3 ⟨rfl, hb3⟩)))
        go_roundw
        case rel => exact ⟨j + 1, hlt, by go_num, bnext hb hb3⟩
        case measure => simp [intOf]; omega
      · rw [if_neg e] at hg'
        have d1 : ((j : Int) == (k : Int)) = false := by rw [beq_eq_false_iff_ne]; omega
        go_wp2_with (first
          | (refine wpList_load_row rfl 23 _ rfl gx rfl 23 cx (0, 0) _ X5.out Try.underlying23 rfl i8x ?_)
          | (go_at_call 12; go_must ((with_reducible refine (hg'.out _).mono ?_); rintro e w3 ⟨rfl, hb3⟩)))
        go_roundw
        case rel => exact ⟨j + 1, hlt, by go_num, bnext hb hb3⟩
        case measure => simp [intOf]; omega
    · obtain rfl : j = 8 := by omega
      clear hlt wt gt
      go_wp2_with (first
        | (refine wpList_load_row rfl 23 _ rfl gx rfl 23 cx (0, 0) _ X5.out Try.underlying23 rfl i8x ?_)
        | (go_at_call 8; go_must ((with_reducible refine (pr.out _).mono ?_); rintro e w3 ⟨rfl, hb3⟩; have X6 := Lib.hid (X5.out.below hb3); have B6 := Lib.hid (bnext B2.out (bnext hb hb3)); clear hb3)))
      have Rv := Lib.hid (hFn.out w3)
      have Xv := Lib.hid (X6.out.alloc (.cells #[.string S, .int .i64 0, .bool false] 28))
      have Bv := Lib.hid (B6.out.alloc B6.out.size (.cells #[.string S, .int .i64 0, .bool false] 28))
      have hgr : w.heap.size ≤ w3.heap.size := B6.out.size
      have hxr : gx ≠ w3.heap.size := by have := X6.out.lt; omega
      generalize w3.alloc (.cells #[.string S, .int .i64 0, .bool false] 28) = v at *
      generalize w3.heap.size = gr at *
      obtain ⟨ψ, hψ⟩ : ∃ ψ : World → Prop, ψ = fun X => Bk X gr 28 E := ⟨_, rfl⟩
      have hRr : ∀ w, Turn gr gr 28 28 E E w w := Turn.refl
      have hRp : ∀ x y, Turn gr gr 28 28 E E x y → ψ x → ψ y := by rw [hψ]; exact fun x y h q => h.one q
      have hBR : ∀ x y, Below x.heap.size x y → Turn gr gr 28 28 E E x y ∧ ∀ j, (j = 3 → Bk x gr 28 F) → (j = 3 → Bk y gr 28 F) := fun x y h => ⟨Turn.of_below h, fun j q e => (q e).below h⟩
      have hpre : ∀ j : Nat, j = 3 → Bk v.drew gr 28 F := fun _ _ => Rv.out.below (below_drew1 v)
      have once : ∀ X, Turn gr gr 28 28 E E v X → (3 = 3 → Bk X gr 28 F) → Calls Try.prog 10 #[.pointer (some ⟨gr, 0, none⟩)] X fun e w' => e = .returned (.agg cx) ∧ (Turn gr gr 28 28 E E X w' ∧ ∀ j, j ≠ 3 → (j = 3 → Bk X gr 28 F) → (j = 3 → Bk w' gr 28 F)) ∧ ψ w' :=
        fun X hX hp => (rd.out gr X (hp rfl)).mono fun e w' ⟨he, hk', hb'⟩ => ⟨he, ⟨Turn.of_one hb' hk' (fun _ => hk'), fun j hj _ e => absurd e hj⟩, by rw [hψ]; exact hk'⟩
      have lx := Lib.hid (fun X (hX : Turn gr gr 28 28 E E v X) => kx.out X gx (hX.bk Xv.out hxr hxr))
      have dn : Hid (∀ X, ψ X → Calls Try.prog 16 #[.pointer (some ⟨gr, 0, none⟩)] X fun e w' => e = .returned (.bool true) ∧ Below X.heap.size X w') := Lib.hid (by rw [hψ]; exact fun X h => dn0.out gr X h)
      clear hψ hb
      try simp only [List.append_eq, List.cons_append, List.nil_append]
      refine wp_region_saysP 11 (Turn gr gr 28 28 E E) (fun _ _ _ h k => h.trans k) (fun j X => j = 3 → Bk X gr 28 F) hpre v (Turn.of_below (below_drew1 v)) (by kernel_rfl) (by kernel_rfl) (by kernel_rfl) (by kernel_rfl) (by rfl) ?_
      simp only [List.take_succ_cons, List.take_zero, List.drop_succ_cons, List.drop_zero]
      refine walkP_call (.bool true) 7 ?_ (by first | exact gs0 rfl | exact gsB rfl rfl rfl | exact gs1 rfl rfl rfl) hBR (fun u X hX hd => ?_) (fun u X hX hd => ?_) ?_
      rotate_left
      · skip
        try simp at hd
        go_simp
        try rfl
      · exact aw.out X
      apply walkP_norm
      · first | (simp only [List.nil_append]; rfl) | simp only [List.nil_append]
      refine walkP_is ?_ (by first | exact gs0 rfl | exact gsB rfl rfl rfl | exact gs1 rfl rfl rfl) hRr (fun u X hX hd => ?_) ?_
      rotate_left
      · skip
        try simp at hd
        go_simp
        try rfl
      apply walkP_norm
      · first | (simp only [List.nil_append, List.cons_append]; rfl) | simp only [List.nil_append, List.cons_append]
      refine walkP_is ?_ (by first | exact gs0 rfl | exact gsB rfl rfl rfl | exact gs1 rfl rfl rfl) hRr (fun u X hX hd => ?_) ?_
      rotate_left
      · skip
        try simp at hd
        go_simp
        try rfl
      apply walkP_norm
      · first | (simp only [List.nil_append, List.cons_append]; rfl) | simp only [List.nil_append, List.cons_append]
      refine walkP_once (.agg cx) ψ hRp 10 ?_ (by first | exact gs0 rfl | exact gsB rfl rfl rfl | exact gs1 rfl rfl rfl) (fun u X hX hd => ?_) (fun X hX hp => ?_) ?_
      rotate_left
      · skip
        try simp at hd
        go_simp
        try rfl
      · exact once X hX hp
      apply walkP_norm
      · first | (simp only [List.nil_append, List.cons_append]; rfl) | simp only [List.nil_append, List.cons_append]
      refine walkP_is _ (by first | exact gs0 rfl | exact gsB rfl rfl rfl | exact gs1 rfl rfl rfl) hRr (fun u X hX hd => op_load_blk (gx) (lx.out X hX) _ rfl rfl) ?_
      apply walkP_norm
      · first | (simp only [List.nil_append, List.cons_append]; rfl) | simp only [List.nil_append, List.cons_append]
      refine walkP_isB (.bool true) ψ hRp (by first | exact gs0 rfl | exact gsB rfl rfl rfl | exact gs1 rfl rfl rfl) hRr (fun u X hX hd => ?_) ?_
      · skip
        simp at hd
        refine ⟨op_eql_blk true ex.out _ _ _ rfl ?_ ?_, by simp [hd]⟩
        · go_simp
          try rfl
        · go_simp
          try rfl
      apply walkP_norm
      · first | (simp only [List.nil_append, List.cons_append]; rfl) | simp only [List.nil_append, List.cons_append]
      refine walkP_isB (.bool true) ψ hRp (by first | exact gs0 rfl | exact gsB rfl rfl rfl | exact gs1 rfl rfl rfl) hRr (fun u X hX hd => ?_) ?_
      · skip
        simp at hd
        refine ⟨?_, by simp [hd]⟩
        go_simp
        try rfl
      apply walkP_norm
      · first | (simp only [List.nil_append, List.cons_append]; rfl) | simp only [List.nil_append, List.cons_append]
      refine walkP_isB (.bool true) ψ hRp (by first | exact gs0 rfl | exact gsB rfl rfl rfl | exact gs1 rfl rfl rfl) hRr (fun u X hX hd => ?_) ?_
      · skip
        simp at hd
        refine ⟨?_, by simp [hd]⟩
        go_simp
        try rfl
      apply walkP_norm
      · first | (simp only [List.nil_append, List.cons_append]; rfl) | simp only [List.nil_append, List.cons_append]
      refine walkP_is ?_ (by first | exact gs0 rfl | exact gsB rfl rfl rfl | exact gs1 rfl rfl rfl) hRr (fun u X hX hd => ?_) ?_
      rotate_left
      · skip
        try simp at hd
        go_simp
        try rfl
      apply walkP_norm
      · first | (simp only [List.nil_append, List.cons_append]; rfl) | simp only [List.nil_append, List.cons_append]
      refine walkP_call (.bool true) 16 ?_ (by first | exact gs0 rfl | exact gsB rfl rfl rfl | exact gs1 rfl rfl rfl) hBR (fun u X hX hd => ?_) (fun u X hX hd => ?_) ?_
      rotate_left
      · skip
        try simp at hd
        go_simp
        try rfl
      · simp at hd
        exact dn.out X (by simp [hd])
      apply walkP_norm
      · first | (simp only [List.nil_append, List.cons_append]; rfl) | simp only [List.nil_append, List.cons_append]
      refine walkP_is ?_ (by first | exact gs0 rfl | exact gsB rfl rfl rfl | exact gs1 rfl rfl rfl) hRr (fun u X hX hd => ?_) ?_
      rotate_left
      · skip
        try simp at hd
        go_simp
        try rfl
      apply walkP_norm
      · first | (simp only [List.nil_append, List.cons_append]; rfl) | simp only [List.nil_append, List.cons_append]

      intro u X hX hsay
      simp only [sayAll, isV, isB] at hsay
      obtain ⟨-, -, -, -, -, -, -, -, -, -, h10, -⟩ := hsay
      simp only [putAll, Act.put, h10, List.setIfInBounds_toArray, List.set_cons_succ, List.set_cons_zero]
      go_wp2
      go_ret
      exact ⟨rfl, hX.below Bv.out hgr hgr Bv.out.size⟩

end Go.Proofs.Ytenjjepjmcijhaa
