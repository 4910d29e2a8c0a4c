/-
  ProofMore, walked, of a command that may be, with some Writes: true, in whatever memory that has the kinds' table.
-/
import Derived.Test.YtlhipaecndgonaaDoorPrfS
import Derived.Test.YtlhipaecndgonaaDoorOpenIs
namespace Go.Proofs.YtlhipaecndgonaaDoor
open Go.RowKit
attribute [local go_sem] look findAt
attribute [local simp] depsOf isV Region.binds

set_option maxRecDepth 100000 in
set_option maxHeartbeats 16000000 in
theorem proofMore_some (c : Cmd) (fuel : Int) (hfu : c.fuel = fuel) (ra : Option Addr) (nr rc : Nat) (wa : Option Addr) (m : Nat) (wc : Nat) (aa : Option Addr) (na ac : Nat) (ca : Addr) (nc cc : Nat) (n : Int) (w : World) (h : CmIn w c ra nr rc wa (m + 1) wc aa na ac (some ca) nc cc) (hT : HasKinds w) (hsh : nr ≤ 20 ∧ (m + 1) ≤ 20 ∧ na ≤ 20 ∧ nc ≤ 100) (hm : MayBe c) (hwi : ∀ x ∈ c.writes, inI64 x) :
    Calls Tryd.prog 3 #[cmV ra nr rc wa (m + 1) wc aa na ac fuel (some ca) nc cc, .int .i64 n] w fun e w' => e = .returned (.bool true) ∧ Below w.heap.size w w' := by
  obtain ⟨i0, hi0, hz0, hz1, hz2⟩ := infoI
  have sh := Lib.hid (fun W => short_any ra nr rc wa (m + 1) wc aa na ac fuel (some ca) nc cc W true (decide_eq_true hsh))
  have hb0 : Below w.heap.size w (w.alloc (CmObj ra nr rc wa (m + 1) wc aa na ac fuel (some ca) nc cc)) := (Below.refl _ _).alloc (Nat.le_refl _) _
  have B0 := Lib.hid hb0
  have C0 : Hid (Bk (w.alloc (CmObj ra nr rc wa (m + 1) wc aa na ac fuel (some ca) nc cc)) w.heap.size 25 (cmC ra nr rc wa (m + 1) wc aa na ac fuel (some ca) nc cc)) := Lib.hid (Bk.new w _ _)
  have ck := Lib.hid (fun W hW => check_fu c fuel hfu ra nr rc wa (m + 1) wc aa na ac (some ca) nc cc W (h.below hW) (hT.belowS hW) 0 ((check_zero c).2 hm))
  have hR1 : nr + (m + 1) ≤ 8 := by have := hm.few.1; rw [h.lr, h.lw] at this; exact this
  have hA1 : na ≤ 8 := by have := hm.few.2.1; rw [h.la] at this; exact this
  have hF1 : 1 ≤ fuel ∧ fuel ≤ 200 := by rw [← hfu]; exact hm.few.2.2.2.2
  have hin := Lib.hid h
  have hT' := Lib.hid hT
  have hm' := Lib.hid hm
  have hfu' := Lib.hid hfu
  have oneA := Lib.hid (intsW_one c.args)
  have oneW := Lib.hid (intsW_one c.writes)
  have hrc : nr ≤ rc := by have := h.reads.2.1; rwa [h.lr] at this
  have hwc : (m + 1) ≤ wc := by have := h.writes.2.1; rwa [h.lw] at this
  have slA := Lib.hid (fun W (hW : Below _ w W) => (show Sl W 1 aa na ac (c.args.map (.int .i64)) by have := h.args.below hW; unfold Ints at this; rwa [h.la] at this))
  have slW := Lib.hid (fun W (hW : Below _ w W) => (show Sl W 1 wa (m + 1) wc (c.writes.map (.int .i64)) by have := h.writes.below hW; unfold Ints at this; rwa [h.lw] at this))
  obtain ⟨wb, woff, rfl, hwl, y0⟩ := h.writes.cellAt (j := m) (by rw [h.lw]; omega)
  obtain ⟨y, hy⟩ : ∃ y, y = c.writes[m]?.getD 0 := ⟨_, rfl⟩
  rw [← hy] at y0
  have hyi : inI64 y := hwi y (by rw [hy, List.getElem?_eq_getElem (by rw [h.lw]; omega)]; simp)
  have hyr := hyi
  unfold inI64 at hyr
  have hnx : Hid (nextN c.writes = y + 1) := Lib.hid (by rw [hy]; exact next_some h.lw)
  obtain ⟨x, hx⟩ : ∃ x, wrap64 (y + 1) = x := ⟨_, rfl⟩
  have hx0 : Hid (0 ≤ x → x = nextN c.writes) := Lib.hid (fun h0 => by rw [hnx.out]; exact wrap_next hyr hx h0)
  have hyw := Lib.hid (fun W (hW : Below _ w W) => (bcells hW wb (woff + m) hwl).trans y0)
  clear y0 hy hyi hyr hwi
  clear h hb0 hm hT hfu
  have m1 : True := trivial
  have m2 : True := trivial
  have m3 : True := trivial
  have q1 : 0 + na ≤ maxLen := by unfold maxLen; omega
  have q2 : (0 + na) * 8 ≤ 140737488355328 := by omega
  have q3 : na + 1 ≤ maxLen := by unfold maxLen; omega
  have q4 : (na + 1) * 8 ≤ 140737488355328 := by omega
  have q5 : 0 + (m + 1) ≤ maxLen := by unfold maxLen; omega
  have q6 : (0 + (m + 1)) * 8 ≤ 140737488355328 := by omega
  have q7 : (m + 1) + 1 ≤ maxLen := by unfold maxLen; omega
  have q8 : ((m + 1) + 1) * 8 ≤ 140737488355328 := by omega
  go_enter Tryd.func3, Tryd.ntmps3
  go_wp2_with (first
    | (go_at_call 7; go_must ((with_reducible refine (sh.out _).mono ?_); rintro e w1 ⟨rfl, hb1⟩; have B1 := Lib.hid (bnext B0.out hb1); obtain ⟨c0, c1, c2, c3, c4, cf⟩ := (C0.out.below hb1).cmd; have cl := (C0.out.below hb1).lt; have C1 := Lib.hid (C0.out.below hb1); clear hb1))
    | (go_at_call 8; go_must ((with_reducible refine (ck.out _ B1.out).mono ?_); rintro e w2 ⟨rfl, hb2⟩; have B2 := Lib.hid (bnext B1.out hb2); clear c0 c1 c2 c3 c4 cf cl; obtain ⟨c0, c1, c2, c3, c4, cf⟩ := (C1.out.below hb2).cmd; have cl := (C1.out.below hb2).lt; have C2 := Lib.hid (C1.out.below hb2); have Z2 := Lib.hid (more_two (cmC ra nr rc (some ⟨wb, woff, none⟩) (m + 1) wc aa na ac fuel (some ca) nc cc) w2.heap.size w2 rfl); clear hb2))
    | (at_builtin; clear m1; go_must (refine append_sl rfl (.tmp 21) (.tmp 23) _ rfl (w2.heap.size + 1) 3 i0 _ 1 8 Tryd.underlying22 hi0 hz0 hz1 hz2 rfl (by decide) _ 0 [] rfl Z2.out.own aa na ac (c.args.map (.int .i64)) rfl (slA.out _ (bnext B2.out Z2.out.below)) oneA.out q1 q2 Z2.out.size ?_; intro v3 w3 ho3 hg3; rw [Nat.zero_add, List.nil_append] at ho3; have Z3 := Lib.hid (more_three n Z2.out ho3 hg3); clear ho3 hg3))
    | (at_builtin; clear m2; go_must (refine append_row rfl (.tmp 24) (.tmp 26) _ rfl (w2.heap.size + 1) 3 i0 _ 1 8 Tryd.underlying22 hi0 hz0 hz1 hz2 rfl (by decide) v3 na (c.args.map (.int .i64)) rfl Z3.out.own w3.heap.size #[.int .i64 n] rfl (Bk.new _ _ _) rfl rfl q3 q4 Z3.out.size ?_; intro g4 cap4 w4 ho4 hg4; have Z4 := Lib.hid (more_four Z3.out ho4 hg4); have T5 := Lib.hid (more_five rfl (by rw [List.length_append, hin.out.la]; rfl) 2 Z4.out); obtain ⟨d0, d1, d2, d3, d4, df⟩ := Z4.out.d.cmd; have dl := Z4.out.d.lt; clear c0 c1 c2 c3 c4 cf; obtain ⟨c0, c1, c2, c3, c4, cf⟩ := (C2.out.below Z4.out.below).cmd; have B6 : Hid (Below w.heap.size w ((w4.setCell ⟨w2.heap.size, 2, none⟩ (.slice (some ⟨g4, 0, none⟩) (na + 1) cap4)).alloc (.cells (cmC ra nr rc (some ⟨wb, woff, none⟩) (m + 1) wc aa na ac (fuel + 1) (some ca) nc cc) 25))) := Lib.hid (bnext (bnext B2.out T5.out.below) (below_alloc1 _ _)); have Z6 := Lib.hid (more_two (cmC ra nr rc (some ⟨wb, woff, none⟩) (m + 1) wc aa na ac fuel (some ca) nc cc) (w4.heap.size + 1) ((w4.setCell ⟨w2.heap.size, 2, none⟩ (.slice (some ⟨g4, 0, none⟩) (na + 1) cap4)).alloc (.cells (cmC ra nr rc (some ⟨wb, woff, none⟩) (m + 1) wc aa na ac (fuel + 1) (some ca) nc cc) 25)) (by rw [World.size_alloc]; simp)); have B7 := Lib.hid (bnext B6.out (Z6.out.below.mono (by simp))); have yw := hyw.out _ B6.out; have kl : w.heap.size < w4.heap.size := (by omega); have C7 := Lib.hid (((((C2.out.below Z4.out.below).far (p := ⟨w2.heap.size, 2, none⟩) (by simp; omega) (.slice (some ⟨g4, 0, none⟩) (na + 1) cap4)).alloc (.cells (cmC ra nr rc (some ⟨wb, woff, none⟩) (m + 1) wc aa na ac (fuel + 1) (some ca) nc cc) 25)).alloc (.cells (cmC ra nr rc (some ⟨wb, woff, none⟩) (m + 1) wc aa na ac fuel (some ca) nc cc) 25)).alloc (.cells #[] 3)); obtain ⟨-, cc1, -⟩ := C7.out.cmd; clear ho4 hg4)))
  clear d0 d1 d2 d3 d4 df
  have rdc := Lib.hid (fun k (hk : k < nr) => (by obtain ⟨b, off, hb, hl, hc⟩ := hin.out.reads.cellAt (j := k) (by rw [hin.out.lr]; exact hk); exact (⟨b, off, hb, hl, (bcells B6.out b (off + k) hl).trans hc⟩ : ∃ b off, ra = some ⟨b, off, none⟩ ∧ b < w.heap.size ∧ (((w4.setCell ⟨w2.heap.size, 2, none⟩ (.slice (some ⟨g4, 0, none⟩) (na + 1) cap4)).alloc (.cells (cmC ra nr rc (some ⟨wb, woff, none⟩) (m + 1) wc aa na ac (fuel + 1) (some ca) nc cc) 25))).cell? ⟨b, off + k, none⟩ = some (.int .i64 (c.reads[k]?.getD 0)))))

  rw [hx]
  clear hx
  go_loop [8, 9] (fun vf vi => ∃ (k : Nat) (fr : Bool), k ≤ nr ∧ vi = .int .i64 k ∧ vf = .bool fr ∧ Hid (fr = (decide (0 ≤ x) && (c.reads.take k).all (fun r => r != x)))) (fun _ vi => nr - (intOf vi).toNat)
  case atStart => exact ⟨0, _, Nat.zero_le _, rfl, rfl, Lib.hid (by simp)⟩
  case round =>
    obtain ⟨k, fr, hk, rfl, rfl, HF⟩ := hrel
    by_cases hlt : k < nr
    · have e1 : (k : Int) < (nr : Int) := by omega
      have e2 : (k : Int) < (rc : Int) := by omega
      obtain ⟨b, off, rfl, hbl, x0⟩ := rdc.out k hlt
      have hst : Hid ((c.reads.take (k + 1)).all (fun r => r != x) = ((c.reads.take k).all (fun r => r != x) && (c.reads[k]?.getD 0 != x))) := Lib.hid (reads_step (by rw [hin.out.lr]; exact hlt))
      generalize c.reads[k]?.getD 0 = r at *
      cases fr with
      | true =>
        have HF2 : Hid ((r != x) = (decide (0 ≤ x) && (c.reads.take (k + 1)).all (fun r => r != x))) := Lib.hid (by rw [hst.out, ← Bool.and_assoc, ← HF.out, Bool.true_and])
        go_wp2
        go_round
        case rel => exact ⟨k + 1, _, by omega, by go_num, rfl, HF2⟩
        case measure => simp [intOf]; omega
      | false =>
        have HF2 : Hid (false = (decide (0 ≤ x) && (c.reads.take (k + 1)).all (fun r => r != x))) := Lib.hid (by rw [hst.out, ← Bool.and_assoc, ← HF.out, Bool.false_and])
        go_wp2
        go_round
        case rel => exact ⟨k + 1, false, by omega, by go_num, rfl, HF2⟩
        case measure => simp [intOf]; omega
    · obtain rfl : k = nr := by omega
      have HF2 := HF.out
      rw [List.take_of_length_le (by rw [hin.out.lr]; exact Nat.le_refl _)] at HF2
      have HF3 := Lib.hid HF2
      clear hlt HF2 HF
      skip
      go_wp2_with (first
        | (at_builtin; clear m3; go_must (refine append_sl rfl (.tmp 67) (.tmp 69) _ rfl (w4.heap.size + 1 + 1) 3 i0 _ 1 8 Tryd.underlying22 hi0 hz0 hz1 hz2 rfl (by decide) _ 0 [] rfl Z6.out.own (some ⟨wb, woff, none⟩) (m + 1) wc (c.writes.map (.int .i64)) rfl (slW.out _ B7.out) oneW.out q5 q6 Z6.out.size ?_; intro v8 w8 ho8 hg8; rw [Nat.zero_add, List.nil_append] at ho8; have Z8 := Lib.hid (more_three (x) Z6.out ho8 hg8); clear ho8 hg8))
        | (at_builtin; go_must (refine append_row rfl (.tmp 70) (.tmp 72) _ rfl (w4.heap.size + 1 + 1) 3 i0 _ 1 8 Tryd.underlying22 hi0 hz0 hz1 hz2 rfl (by decide) v8 (m + 1) (c.writes.map (.int .i64)) rfl Z8.out.own w8.heap.size #[.int .i64 (x)] rfl (Bk.new _ _ _) rfl rfl q7 q8 Z8.out.size ?_; intro g9 cap9 w9 ho9 hg9; have Z9 := Lib.hid (more_four Z8.out ho9 hg9); have T10 := Lib.hid (more_five (by rw [World.size_alloc]; simp) (by rw [List.length_append, hin.out.lw]; rfl) 1 Z9.out); obtain ⟨d0, d1, d2, d3, d4, df⟩ := Z9.out.d.cmd; have dl := Z9.out.d.lt; clear ho9 hg9)))
      have Z := Lib.hid (more_nine hin.out (by omega) B2.out T5.out (by simp) T10.out)
      have zza := check_more_args hm'.out n
      obtain ⟨za, hza⟩ : ∃ z, z = checkN { c with args := c.args ++ [n] } := ⟨_, rfl⟩
      rw [← hza, hin.out.la] at zza
      have zzb := check_more_fuel hm'.out
      obtain ⟨zb, hzb⟩ : ∃ z, z = checkN { c with fuel := c.fuel + 1 } := ⟨_, rfl⟩
      rw [← hzb, hfu'.out] at zzb
      have ka := Lib.hid (fun X (hX : Below _ _ X) => check_fu { c with args := c.args ++ [n] } fuel hfu'.out ra k rc (some ⟨wb, woff, none⟩) (m + 1) wc (some ⟨g4, 0, none⟩) (na + 1) cap4 (some ca) nc cc X (Z.out.cA.below hX) (hT'.out.belowS (bnext Z.out.below hX)) za hza.symm)
      have kb := Lib.hid (fun X (hX : Below _ _ X) => check_fu { c with fuel := c.fuel + 1 } (fuel + 1) (by show c.fuel + 1 = _; rw [hfu'.out]) ra k rc (some ⟨wb, woff, none⟩) (m + 1) wc aa na ac (some ca) nc cc X (Z.out.cB.below hX) (hT'.out.belowS (bnext Z.out.below hX)) zb hzb.symm)
      have kd0 := Lib.hid (fun X (hX : Below _ _ X) => check_fu { c with writes := c.writes ++ [x] } fuel hfu'.out ra k rc (some ⟨g9, 0, none⟩) ((m + 1) + 1) cap9 aa na ac (some ca) nc cc X (Z.out.cD.below hX) (hT'.out.belowS (bnext Z.out.below hX)))
      have aw := Lib.hid (fun X (hX : Below _ _ X) => awake7 X (hT'.out.belowS (bnext Z.out.below hX)))
      have KA := Lib.hid Z.out.kA
      have KB := Lib.hid Z.out.kB
      have KD := Lib.hid Z.out.kD
      have BW := Lib.hid Z.out.below
      have hzd := fun h => free_check hm'.out hx0.out (HF3.out.symm.trans h)
      rw [hin.out.lr, hin.out.lw] at hzd
      clear Z hza hzb T10 Z9 Z8 Z6 T5 Z4 Z3 Z2 hm' hfu' ck sh C0 C1 C2 C7 c0 c1 c2 c3 c4 cf d0 d1 d2 d3 d4 df rdc slA slW oneA oneW
      obtain ⟨wr, hwr⟩ : ∃ wr, wr = w9.setCell ⟨w4.heap.size + 1, 1, none⟩ (.slice (some ⟨g9, 0, none⟩) ((m + 1) + 1) cap9) := ⟨_, rfl⟩
      rw [← hwr] at ka kb kd0 aw KA KB KD BW ⊢
      clear hwr
      obtain ⟨pa, hpa⟩ : ∃ pa, pa = decide ((na : Int) + 1 ≤ 8) := ⟨_, rfl⟩
      have ha1 : ((za : Int) == 0) = pa := by rw [hpa]; cases hh : decide ((na : Int) + 1 ≤ 8) <;> simp at hh ⊢ <;> omega
      have ha2 := hpa.symm
      obtain ⟨pb, hpb⟩ : ∃ pb, pb = decide (fuel + 1 ≤ 200) := ⟨_, rfl⟩
      have hb1 : ((zb : Int) == 0) = pb := by rw [hpb]; cases hh : decide (fuel + 1 ≤ 200) <;> simp at hh ⊢ <;> omega
      have hb2 := hpb.symm
      obtain ⟨pd, hpd⟩ : ∃ pd, pd = decide ((k : Int) + ((m : Int) + 1 + 1) ≤ 8) := ⟨_, rfl⟩
      have hd2 := hpd.symm
      cases fr with
      | false =>
        clear hzd hpd hd2 kd0 hpa hpb zza zzb
        refine wp_region_saysK 38 (fun x y => Below x.heap.size x y) (fun _ _ _ h k => bnext h k) wr (below_drew1 wr) (by kernel_rfl) (by kernel_rfl) (by kernel_rfl) (by kernel_rfl) (by rfl) ?_
        simp only [List.take_succ_cons, List.take_zero, List.drop_succ_cons, List.drop_zero]
        refine walkK_call (isV (.bool true)) 9 ?_ (by first | exact gs0 rfl | exact gs1 rfl rfl rfl) (fun _ _ _ _ h => h) (fun u X hX hd => ?_) (fun X hX => ?_) ?_
        rotate_left
        · obtain ⟨aa0, aa1, aa2, aa3, aa4, -⟩ := (KA.out.below hX).cmd
          obtain ⟨bb0, bb1, bb2, bb3, bb4, -⟩ := (KB.out.below hX).cmd
          have aal := (KA.out.below hX).lt
          have bbl := (KB.out.below hX).lt
          try simp at hd
          go_simp
          try rfl
        · exact (aw.out X hX).mono fun e X' ⟨he, hb⟩ => ⟨_, he, hb, rfl⟩
        apply walkK_norm
        · first | (simp only [List.nil_append]; rfl) | simp only [List.nil_append]
        refine walkK_is ?_ (by first | exact gs0 rfl | exact gs1 rfl rfl rfl) (fun _ => Below.refl _ _) (fun u X hX hd => ?_) ?_
        rotate_left
        · obtain ⟨aa0, aa1, aa2, aa3, aa4, -⟩ := (KA.out.below hX).cmd
          obtain ⟨bb0, bb1, bb2, bb3, bb4, -⟩ := (KB.out.below hX).cmd
          have aal := (KA.out.below hX).lt
          have bbl := (KB.out.below hX).lt
          try simp at hd
          go_simp
          try rfl
        apply walkK_norm
        · first | (simp only [List.nil_append, List.cons_append]; rfl) | simp only [List.nil_append, List.cons_append]
        refine walkK_is ?_ (by first | exact gs0 rfl | exact gs1 rfl rfl rfl) (fun _ => Below.refl _ _) (fun u X hX hd => ?_) ?_
        rotate_left
        · obtain ⟨aa0, aa1, aa2, aa3, aa4, -⟩ := (KA.out.below hX).cmd
          obtain ⟨bb0, bb1, bb2, bb3, bb4, -⟩ := (KB.out.below hX).cmd
          have aal := (KA.out.below hX).lt
          have bbl := (KB.out.below hX).lt
          try simp at hd
          go_simp
          try rfl
        apply walkK_norm
        · first | (simp only [List.nil_append, List.cons_append]; rfl) | simp only [List.nil_append, List.cons_append]
        refine walkK_call (isV (.int .i64 (za : Nat))) 8 ?_ (by first | exact gs0 rfl | exact gs1 rfl rfl rfl) (fun _ _ _ _ h => h) (fun u X hX hd => ?_) (fun X hX => ?_) ?_
        rotate_left
        · obtain ⟨aa0, aa1, aa2, aa3, aa4, -⟩ := (KA.out.below hX).cmd
          obtain ⟨bb0, bb1, bb2, bb3, bb4, -⟩ := (KB.out.below hX).cmd
          have aal := (KA.out.below hX).lt
          have bbl := (KB.out.below hX).lt
          try simp at hd
          go_simp
          try rfl
        · exact (ka.out X hX).mono fun e X' ⟨he, hb⟩ => ⟨_, he, hb, rfl⟩
        apply walkK_norm
        · first | (simp only [List.nil_append, List.cons_append]; rfl) | simp only [List.nil_append, List.cons_append]
        refine walkK_is ?_ (by first | exact gs0 rfl | exact gs1 rfl rfl rfl) (fun _ => Below.refl _ _) (fun u X hX hd => ?_) ?_
        rotate_left
        · obtain ⟨aa0, aa1, aa2, aa3, aa4, -⟩ := (KA.out.below hX).cmd
          obtain ⟨bb0, bb1, bb2, bb3, bb4, -⟩ := (KB.out.below hX).cmd
          have aal := (KA.out.below hX).lt
          have bbl := (KB.out.below hX).lt
          try simp at hd
          go_simp
          try rfl
        apply walkK_norm
        · first | (simp only [List.nil_append, List.cons_append]; rfl) | simp only [List.nil_append, List.cons_append]
        refine walkK_is ?_ (by first | exact gs0 rfl | exact gs1 rfl rfl rfl) (fun _ => Below.refl _ _) (fun u X hX hd => ?_) ?_
        rotate_left
        · obtain ⟨aa0, aa1, aa2, aa3, aa4, -⟩ := (KA.out.below hX).cmd
          obtain ⟨bb0, bb1, bb2, bb3, bb4, -⟩ := (KB.out.below hX).cmd
          have aal := (KA.out.below hX).lt
          have bbl := (KB.out.below hX).lt
          try simp at hd
          go_simp
          try rfl
        apply walkK_norm
        · first | (simp only [List.nil_append, List.cons_append]; rfl) | simp only [List.nil_append, List.cons_append]
        refine walkK_is ?_ (by first | exact gs0 rfl | exact gs1 rfl rfl rfl) (fun _ => Below.refl _ _) (fun u X hX hd => ?_) ?_
        rotate_left
        · obtain ⟨aa0, aa1, aa2, aa3, aa4, -⟩ := (KA.out.below hX).cmd
          obtain ⟨bb0, bb1, bb2, bb3, bb4, -⟩ := (KB.out.below hX).cmd
          have aal := (KA.out.below hX).lt
          have bbl := (KB.out.below hX).lt
          try simp at hd
          go_simp
          try rfl
        apply walkK_norm
        · first | (simp only [List.nil_append, List.cons_append]; rfl) | simp only [List.nil_append, List.cons_append]
        refine walkK_is ?_ (by first | exact gs0 rfl | exact gs1 rfl rfl rfl) (fun _ => Below.refl _ _) (fun u X hX hd => ?_) ?_
        rotate_left
        · obtain ⟨aa0, aa1, aa2, aa3, aa4, -⟩ := (KA.out.below hX).cmd
          obtain ⟨bb0, bb1, bb2, bb3, bb4, -⟩ := (KB.out.below hX).cmd
          have aal := (KA.out.below hX).lt
          have bbl := (KB.out.below hX).lt
          try simp at hd
          go_simp
          try rfl
        apply walkK_norm
        · first | (simp only [List.nil_append, List.cons_append]; rfl) | simp only [List.nil_append, List.cons_append]
        refine walkK_is ?_ (by first | exact gs0 rfl | exact gs1 rfl rfl rfl) (fun _ => Below.refl _ _) (fun u X hX hd => ?_) ?_
        rotate_left
        · obtain ⟨aa0, aa1, aa2, aa3, aa4, -⟩ := (KA.out.below hX).cmd
          obtain ⟨bb0, bb1, bb2, bb3, bb4, -⟩ := (KB.out.below hX).cmd
          have aal := (KA.out.below hX).lt
          have bbl := (KB.out.below hX).lt
          try simp at hd
          go_simp
          try rfl
        apply walkK_norm
        · first | (simp only [List.nil_append, List.cons_append]; rfl) | simp only [List.nil_append, List.cons_append]
        refine walkK_is (.bool true) (by first | exact gs0 rfl | exact gs1 rfl rfl rfl) (fun _ => Below.refl _ _) (fun u X hX hd => ?_) ?_
        · obtain ⟨aa0, aa1, aa2, aa3, aa4, -⟩ := (KA.out.below hX).cmd
          obtain ⟨bb0, bb1, bb2, bb3, bb4, -⟩ := (KB.out.below hX).cmd
          have aal := (KA.out.below hX).lt
          have bbl := (KB.out.below hX).lt
          try simp at hd
          go_simp
        apply walkK_norm
        · first | (simp only [List.nil_append, List.cons_append]; rfl) | simp only [List.nil_append, List.cons_append]
        refine walkK_is ?_ (by first | exact gs0 rfl | exact gs1 rfl rfl rfl) (fun _ => Below.refl _ _) (fun u X hX hd => ?_) ?_
        rotate_left
        · obtain ⟨aa0, aa1, aa2, aa3, aa4, -⟩ := (KA.out.below hX).cmd
          obtain ⟨bb0, bb1, bb2, bb3, bb4, -⟩ := (KB.out.below hX).cmd
          have aal := (KA.out.below hX).lt
          have bbl := (KB.out.below hX).lt
          try simp at hd
          go_simp
          try rfl
        apply walkK_norm
        · first | (simp only [List.nil_append, List.cons_append]; rfl) | simp only [List.nil_append, List.cons_append]
        refine walkK_is ?_ (by first | exact gs0 rfl | exact gs1 rfl rfl rfl) (fun _ => Below.refl _ _) (fun u X hX hd => ?_) ?_
        rotate_left
        · obtain ⟨aa0, aa1, aa2, aa3, aa4, -⟩ := (KA.out.below hX).cmd
          obtain ⟨bb0, bb1, bb2, bb3, bb4, -⟩ := (KB.out.below hX).cmd
          have aal := (KA.out.below hX).lt
          have bbl := (KB.out.below hX).lt
          try simp at hd
          go_simp
          try rfl
        apply walkK_norm
        · first | (simp only [List.nil_append, List.cons_append]; rfl) | simp only [List.nil_append, List.cons_append]
        refine walkK_is ?_ (by first | exact gs0 rfl | exact gs1 rfl rfl rfl) (fun _ => Below.refl _ _) (fun u X hX hd => ?_) ?_
        rotate_left
        · obtain ⟨aa0, aa1, aa2, aa3, aa4, -⟩ := (KA.out.below hX).cmd
          obtain ⟨bb0, bb1, bb2, bb3, bb4, -⟩ := (KB.out.below hX).cmd
          have aal := (KA.out.below hX).lt
          have bbl := (KB.out.below hX).lt
          try simp at hd
          go_simp
          try rfl
        apply walkK_norm
        · first | (simp only [List.nil_append, List.cons_append]; rfl) | simp only [List.nil_append, List.cons_append]
        refine walkK_call (isV (.int .i64 (zb : Nat))) 8 ?_ (by first | exact gs0 rfl | exact gs1 rfl rfl rfl) (fun _ _ _ _ h => h) (fun u X hX hd => ?_) (fun X hX => ?_) ?_
        rotate_left
        · obtain ⟨aa0, aa1, aa2, aa3, aa4, -⟩ := (KA.out.below hX).cmd
          obtain ⟨bb0, bb1, bb2, bb3, bb4, -⟩ := (KB.out.below hX).cmd
          have aal := (KA.out.below hX).lt
          have bbl := (KB.out.below hX).lt
          try simp at hd
          go_simp
          try rfl
        · exact (kb.out X hX).mono fun e X' ⟨he, hb⟩ => ⟨_, he, hb, rfl⟩
        apply walkK_norm
        · first | (simp only [List.nil_append, List.cons_append]; rfl) | simp only [List.nil_append, List.cons_append]
        refine walkK_is ?_ (by first | exact gs0 rfl | exact gs1 rfl rfl rfl) (fun _ => Below.refl _ _) (fun u X hX hd => ?_) ?_
        rotate_left
        · obtain ⟨aa0, aa1, aa2, aa3, aa4, -⟩ := (KA.out.below hX).cmd
          obtain ⟨bb0, bb1, bb2, bb3, bb4, -⟩ := (KB.out.below hX).cmd
          have aal := (KA.out.below hX).lt
          have bbl := (KB.out.below hX).lt
          try simp at hd
          go_simp
          try rfl
        apply walkK_norm
        · first | (simp only [List.nil_append, List.cons_append]; rfl) | simp only [List.nil_append, List.cons_append]
        refine walkK_is ?_ (by first | exact gs0 rfl | exact gs1 rfl rfl rfl) (fun _ => Below.refl _ _) (fun u X hX hd => ?_) ?_
        rotate_left
        · obtain ⟨aa0, aa1, aa2, aa3, aa4, -⟩ := (KA.out.below hX).cmd
          obtain ⟨bb0, bb1, bb2, bb3, bb4, -⟩ := (KB.out.below hX).cmd
          have aal := (KA.out.below hX).lt
          have bbl := (KB.out.below hX).lt
          try simp at hd
          go_simp
          try rfl
        apply walkK_norm
        · first | (simp only [List.nil_append, List.cons_append]; rfl) | simp only [List.nil_append, List.cons_append]
        refine walkK_is ?_ (by first | exact gs0 rfl | exact gs1 rfl rfl rfl) (fun _ => Below.refl _ _) (fun u X hX hd => ?_) ?_
        rotate_left
        · obtain ⟨aa0, aa1, aa2, aa3, aa4, -⟩ := (KA.out.below hX).cmd
          obtain ⟨bb0, bb1, bb2, bb3, bb4, -⟩ := (KB.out.below hX).cmd
          have aal := (KA.out.below hX).lt
          have bbl := (KB.out.below hX).lt
          try simp at hd
          go_simp
          try rfl
        apply walkK_norm
        · first | (simp only [List.nil_append, List.cons_append]; rfl) | simp only [List.nil_append, List.cons_append]
        refine walkK_is ?_ (by first | exact gs0 rfl | exact gs1 rfl rfl rfl) (fun _ => Below.refl _ _) (fun u X hX hd => ?_) ?_
        rotate_left
        · obtain ⟨aa0, aa1, aa2, aa3, aa4, -⟩ := (KA.out.below hX).cmd
          obtain ⟨bb0, bb1, bb2, bb3, bb4, -⟩ := (KB.out.below hX).cmd
          have aal := (KA.out.below hX).lt
          have bbl := (KB.out.below hX).lt
          try simp at hd
          go_simp
          try rfl
        apply walkK_norm
        · first | (simp only [List.nil_append, List.cons_append]; rfl) | simp only [List.nil_append, List.cons_append]
        refine walkK_is (.bool true) (by first | exact gs0 rfl | exact gs1 rfl rfl rfl) (fun _ => Below.refl _ _) (fun u X hX hd => ?_) ?_
        · obtain ⟨aa0, aa1, aa2, aa3, aa4, -⟩ := (KA.out.below hX).cmd
          obtain ⟨bb0, bb1, bb2, bb3, bb4, -⟩ := (KB.out.below hX).cmd
          have aal := (KA.out.below hX).lt
          have bbl := (KB.out.below hX).lt
          try simp at hd
          go_simp
        apply walkK_norm
        · first | (simp only [List.nil_append, List.cons_append]; rfl) | simp only [List.nil_append, List.cons_append]
        refine walkK_is ?_ (by first | exact gs0 rfl | exact gs1 rfl rfl rfl) (fun _ => Below.refl _ _) (fun u X hX hd => ?_) ?_
        rotate_left
        · obtain ⟨aa0, aa1, aa2, aa3, aa4, -⟩ := (KA.out.below hX).cmd
          obtain ⟨bb0, bb1, bb2, bb3, bb4, -⟩ := (KB.out.below hX).cmd
          have aal := (KA.out.below hX).lt
          have bbl := (KB.out.below hX).lt
          try simp at hd
          go_simp
          try rfl
        apply walkK_norm
        · first | (simp only [List.nil_append, List.cons_append]; rfl) | simp only [List.nil_append, List.cons_append]
        refine walkK_is ?_ (by first | exact gs0 rfl | exact gs1 rfl rfl rfl) (fun _ => Below.refl _ _) (fun u X hX hd => ?_) ?_
        rotate_left
        · obtain ⟨aa0, aa1, aa2, aa3, aa4, -⟩ := (KA.out.below hX).cmd
          obtain ⟨bb0, bb1, bb2, bb3, bb4, -⟩ := (KB.out.below hX).cmd
          have aal := (KA.out.below hX).lt
          have bbl := (KB.out.below hX).lt
          try simp at hd
          go_simp
          try rfl
        apply walkK_norm
        · first | (simp only [List.nil_append, List.cons_append]; rfl) | simp only [List.nil_append, List.cons_append]
        refine walkK_is ?_ (by first | exact gs0 rfl | exact gs1 rfl rfl rfl) (fun _ => Below.refl _ _) (fun u X hX hd => ?_) ?_
        rotate_left
        · obtain ⟨aa0, aa1, aa2, aa3, aa4, -⟩ := (KA.out.below hX).cmd
          obtain ⟨bb0, bb1, bb2, bb3, bb4, -⟩ := (KB.out.below hX).cmd
          have aal := (KA.out.below hX).lt
          have bbl := (KB.out.below hX).lt
          try simp at hd
          go_simp
          try rfl
        apply walkK_norm
        · first | (simp only [List.nil_append, List.cons_append]; rfl) | simp only [List.nil_append, List.cons_append]
        refine walkK_is ?_ (by first | exact gs0 rfl | exact gs1 rfl rfl rfl) (fun _ => Below.refl _ _) (fun u X hX hd => ?_) ?_
        rotate_left
        · obtain ⟨aa0, aa1, aa2, aa3, aa4, -⟩ := (KA.out.below hX).cmd
          obtain ⟨bb0, bb1, bb2, bb3, bb4, -⟩ := (KB.out.below hX).cmd
          have aal := (KA.out.below hX).lt
          have bbl := (KB.out.below hX).lt
          try simp at hd
          go_simp
          try rfl
        apply walkK_norm
        · first | (simp only [List.nil_append, List.cons_append]; rfl) | simp only [List.nil_append, List.cons_append]
        refine walkK_is ?_ (by first | exact gs0 rfl | exact gs1 rfl rfl rfl) (fun _ => Below.refl _ _) (fun u X hX hd => ?_) ?_
        rotate_left
        · obtain ⟨aa0, aa1, aa2, aa3, aa4, -⟩ := (KA.out.below hX).cmd
          obtain ⟨bb0, bb1, bb2, bb3, bb4, -⟩ := (KB.out.below hX).cmd
          have aal := (KA.out.below hX).lt
          have bbl := (KB.out.below hX).lt
          try simp at hd
          go_simp
          try rfl
        apply walkK_norm
        · first | (simp only [List.nil_append, List.cons_append]; rfl) | simp only [List.nil_append, List.cons_append]
        refine walkK_skip (st1 rfl rfl (by simp)) ?_
        apply walkK_norm
        · first | (simp only [List.nil_append, List.cons_append]; rfl) | simp only [List.nil_append, List.cons_append]
        refine walkK_skip (st1 rfl rfl (by simp)) ?_
        apply walkK_norm
        · first | (simp only [List.nil_append, List.cons_append]; rfl) | simp only [List.nil_append, List.cons_append]
        refine walkK_skip (st1 rfl rfl (by simp)) ?_
        apply walkK_norm
        · first | (simp only [List.nil_append, List.cons_append]; rfl) | simp only [List.nil_append, List.cons_append]
        refine walkK_skip (st1 rfl rfl (by simp)) ?_
        apply walkK_norm
        · first | (simp only [List.nil_append, List.cons_append]; rfl) | simp only [List.nil_append, List.cons_append]
        refine walkK_skip (st1 rfl rfl (by simp)) ?_
        apply walkK_norm
        · first | (simp only [List.nil_append, List.cons_append]; rfl) | simp only [List.nil_append, List.cons_append]
        refine walkK_skip (st1 rfl rfl (by simp)) ?_
        apply walkK_norm
        · first | (simp only [List.nil_append, List.cons_append]; rfl) | simp only [List.nil_append, List.cons_append]
        refine walkK_skip (st1 rfl rfl (by simp)) ?_
        apply walkK_norm
        · first | (simp only [List.nil_append, List.cons_append]; rfl) | simp only [List.nil_append, List.cons_append]
        refine walkK_skip (st1 rfl rfl (by simp)) ?_
        apply walkK_norm
        · first | (simp only [List.nil_append, List.cons_append]; rfl) | simp only [List.nil_append, List.cons_append]
        refine walkK_skip (st1 rfl rfl (by simp)) ?_
        apply walkK_norm
        · first | (simp only [List.nil_append, List.cons_append]; rfl) | simp only [List.nil_append, List.cons_append]
        refine walkK_skip (st1 rfl rfl (by simp)) ?_
        apply walkK_norm
        · first | (simp only [List.nil_append, List.cons_append]; rfl) | simp only [List.nil_append, List.cons_append]
        refine walkK_skip (st1 rfl rfl (by simp)) ?_
        apply walkK_norm
        · first | (simp only [List.nil_append, List.cons_append]; rfl) | simp only [List.nil_append, List.cons_append]
        refine walkK_skip (st1 rfl rfl (by simp)) ?_
        apply walkK_norm
        · first | (simp only [List.nil_append, List.cons_append]; rfl) | simp only [List.nil_append, List.cons_append]
        refine walkK_is ?_ (by first | exact gs0 rfl | exact gs1 rfl rfl rfl) (fun _ => Below.refl _ _) (fun u X hX hd => ?_) ?_
        rotate_left
        · obtain ⟨aa0, aa1, aa2, aa3, aa4, -⟩ := (KA.out.below hX).cmd
          obtain ⟨bb0, bb1, bb2, bb3, bb4, -⟩ := (KB.out.below hX).cmd
          have aal := (KA.out.below hX).lt
          have bbl := (KB.out.below hX).lt
          try simp at hd
          go_simp
          try rfl
        apply walkK_norm
        · first | (simp only [List.nil_append, List.cons_append]; rfl) | simp only [List.nil_append, List.cons_append]
        refine walkK_is ?_ (by first | exact gs0 rfl | exact gs1 rfl rfl rfl) (fun _ => Below.refl _ _) (fun u X hX hd => ?_) ?_
        rotate_left
        · obtain ⟨aa0, aa1, aa2, aa3, aa4, -⟩ := (KA.out.below hX).cmd
          obtain ⟨bb0, bb1, bb2, bb3, bb4, -⟩ := (KB.out.below hX).cmd
          have aal := (KA.out.below hX).lt
          have bbl := (KB.out.below hX).lt
          try simp at hd
          go_simp
          try rfl
        apply walkK_norm
        · first | (simp only [List.nil_append, List.cons_append]; rfl) | simp only [List.nil_append, List.cons_append]
        intro u X hX hsay
        simp only [sayAll, isV] at hsay
        obtain ⟨-, -, -, -, -, -, -, -, -, -, -, -, -, -, -, -, -, -, -, -, -, -, -, -, -, -, -, -, -, -, -, -, -, -, -, -, -, e37, -⟩ := hsay
        simp only [putAll, Act.put]
        go_wp2
        go_ret
        exact ⟨by simp, bnext BW.out hX⟩

      | true =>
        have zzd := hzd rfl
        obtain ⟨zd, hzdd⟩ : ∃ z, z = checkN { c with writes := c.writes ++ [x] } := ⟨_, rfl⟩
        rw [← hzdd] at zzd
        have kd := Lib.hid (fun X (hX : Below _ _ X) => kd0.out X hX zd hzdd.symm)
        have hd1 : ((zd : Int) == 0) = pd := by rw [hpd]; cases hh : decide ((k : Int) + ((m : Int) + 1 + 1) ≤ 8) <;> simp at hh ⊢ <;> omega
        have hwk : IntKind.i64.wrap ((k : Int) + ((m : Int) + 1 + 1)) = (k : Int) + ((m : Int) + 1 + 1) := by rw [IntKind.wrap_i64]; omega
        clear hzd hpd kd0 hpa hpb zza zzb zzd hzdd
        refine wp_region_saysK 38 (fun x y => Below x.heap.size x y) (fun _ _ _ h k => bnext h k) wr (below_drew1 wr) (by kernel_rfl) (by kernel_rfl) (by kernel_rfl) (by kernel_rfl) (by rfl) ?_
        simp only [List.take_succ_cons, List.take_zero, List.drop_succ_cons, List.drop_zero]
        refine walkK_call (isV (.bool true)) 9 ?_ (by first | exact gs0 rfl | exact gs1 rfl rfl rfl) (fun _ _ _ _ h => h) (fun u X hX hd => ?_) (fun X hX => ?_) ?_
        rotate_left
        · obtain ⟨aa0, aa1, aa2, aa3, aa4, -⟩ := (KA.out.below hX).cmd
          obtain ⟨bb0, bb1, bb2, bb3, bb4, -⟩ := (KB.out.below hX).cmd
          have aal := (KA.out.below hX).lt
          have bbl := (KB.out.below hX).lt
          obtain ⟨dd0, dd1, dd2, dd3, dd4, -⟩ := (KD.out.below hX).cmd
          have ddl := (KD.out.below hX).lt
          try simp at hd
          go_simp
          try rfl
        · exact (aw.out X hX).mono fun e X' ⟨he, hb⟩ => ⟨_, he, hb, rfl⟩
        apply walkK_norm
        · first | (simp only [List.nil_append]; rfl) | simp only [List.nil_append]
        refine walkK_is ?_ (by first | exact gs0 rfl | exact gs1 rfl rfl rfl) (fun _ => Below.refl _ _) (fun u X hX hd => ?_) ?_
        rotate_left
        · obtain ⟨aa0, aa1, aa2, aa3, aa4, -⟩ := (KA.out.below hX).cmd
          obtain ⟨bb0, bb1, bb2, bb3, bb4, -⟩ := (KB.out.below hX).cmd
          have aal := (KA.out.below hX).lt
          have bbl := (KB.out.below hX).lt
          obtain ⟨dd0, dd1, dd2, dd3, dd4, -⟩ := (KD.out.below hX).cmd
          have ddl := (KD.out.below hX).lt
          try simp at hd
          go_simp
          try rfl
        apply walkK_norm
        · first | (simp only [List.nil_append, List.cons_append]; rfl) | simp only [List.nil_append, List.cons_append]
        refine walkK_is ?_ (by first | exact gs0 rfl | exact gs1 rfl rfl rfl) (fun _ => Below.refl _ _) (fun u X hX hd => ?_) ?_
        rotate_left
        · obtain ⟨aa0, aa1, aa2, aa3, aa4, -⟩ := (KA.out.below hX).cmd
          obtain ⟨bb0, bb1, bb2, bb3, bb4, -⟩ := (KB.out.below hX).cmd
          have aal := (KA.out.below hX).lt
          have bbl := (KB.out.below hX).lt
          obtain ⟨dd0, dd1, dd2, dd3, dd4, -⟩ := (KD.out.below hX).cmd
          have ddl := (KD.out.below hX).lt
          try simp at hd
          go_simp
          try rfl
        apply walkK_norm
        · first | (simp only [List.nil_append, List.cons_append]; rfl) | simp only [List.nil_append, List.cons_append]
        refine walkK_call (isV (.int .i64 (za : Nat))) 8 ?_ (by first | exact gs0 rfl | exact gs1 rfl rfl rfl) (fun _ _ _ _ h => h) (fun u X hX hd => ?_) (fun X hX => ?_) ?_
        rotate_left
        · obtain ⟨aa0, aa1, aa2, aa3, aa4, -⟩ := (KA.out.below hX).cmd
          obtain ⟨bb0, bb1, bb2, bb3, bb4, -⟩ := (KB.out.below hX).cmd
          have aal := (KA.out.below hX).lt
          have bbl := (KB.out.below hX).lt
          obtain ⟨dd0, dd1, dd2, dd3, dd4, -⟩ := (KD.out.below hX).cmd
          have ddl := (KD.out.below hX).lt
          try simp at hd
          go_simp
          try rfl
        · exact (ka.out X hX).mono fun e X' ⟨he, hb⟩ => ⟨_, he, hb, rfl⟩
        apply walkK_norm
        · first | (simp only [List.nil_append, List.cons_append]; rfl) | simp only [List.nil_append, List.cons_append]
        refine walkK_is ?_ (by first | exact gs0 rfl | exact gs1 rfl rfl rfl) (fun _ => Below.refl _ _) (fun u X hX hd => ?_) ?_
        rotate_left
        · obtain ⟨aa0, aa1, aa2, aa3, aa4, -⟩ := (KA.out.below hX).cmd
          obtain ⟨bb0, bb1, bb2, bb3, bb4, -⟩ := (KB.out.below hX).cmd
          have aal := (KA.out.below hX).lt
          have bbl := (KB.out.below hX).lt
          obtain ⟨dd0, dd1, dd2, dd3, dd4, -⟩ := (KD.out.below hX).cmd
          have ddl := (KD.out.below hX).lt
          try simp at hd
          go_simp
          try rfl
        apply walkK_norm
        · first | (simp only [List.nil_append, List.cons_append]; rfl) | simp only [List.nil_append, List.cons_append]
        refine walkK_is ?_ (by first | exact gs0 rfl | exact gs1 rfl rfl rfl) (fun _ => Below.refl _ _) (fun u X hX hd => ?_) ?_
        rotate_left
        · obtain ⟨aa0, aa1, aa2, aa3, aa4, -⟩ := (KA.out.below hX).cmd
          obtain ⟨bb0, bb1, bb2, bb3, bb4, -⟩ := (KB.out.below hX).cmd
          have aal := (KA.out.below hX).lt
          have bbl := (KB.out.below hX).lt
          obtain ⟨dd0, dd1, dd2, dd3, dd4, -⟩ := (KD.out.below hX).cmd
          have ddl := (KD.out.below hX).lt
          try simp at hd
          go_simp
          try rfl
        apply walkK_norm
        · first | (simp only [List.nil_append, List.cons_append]; rfl) | simp only [List.nil_append, List.cons_append]
        refine walkK_is ?_ (by first | exact gs0 rfl | exact gs1 rfl rfl rfl) (fun _ => Below.refl _ _) (fun u X hX hd => ?_) ?_
        rotate_left
        · obtain ⟨aa0, aa1, aa2, aa3, aa4, -⟩ := (KA.out.below hX).cmd
          obtain ⟨bb0, bb1, bb2, bb3, bb4, -⟩ := (KB.out.below hX).cmd
          have aal := (KA.out.below hX).lt
          have bbl := (KB.out.below hX).lt
          obtain ⟨dd0, dd1, dd2, dd3, dd4, -⟩ := (KD.out.below hX).cmd
          have ddl := (KD.out.below hX).lt
          try simp at hd
          go_simp
          try rfl
        apply walkK_norm
        · first | (simp only [List.nil_append, List.cons_append]; rfl) | simp only [List.nil_append, List.cons_append]
        refine walkK_is ?_ (by first | exact gs0 rfl | exact gs1 rfl rfl rfl) (fun _ => Below.refl _ _) (fun u X hX hd => ?_) ?_
        rotate_left
        · obtain ⟨aa0, aa1, aa2, aa3, aa4, -⟩ := (KA.out.below hX).cmd
          obtain ⟨bb0, bb1, bb2, bb3, bb4, -⟩ := (KB.out.below hX).cmd
          have aal := (KA.out.below hX).lt
          have bbl := (KB.out.below hX).lt
          obtain ⟨dd0, dd1, dd2, dd3, dd4, -⟩ := (KD.out.below hX).cmd
          have ddl := (KD.out.below hX).lt
          try simp at hd
          go_simp
          try rfl
        apply walkK_norm
        · first | (simp only [List.nil_append, List.cons_append]; rfl) | simp only [List.nil_append, List.cons_append]
        refine walkK_is ?_ (by first | exact gs0 rfl | exact gs1 rfl rfl rfl) (fun _ => Below.refl _ _) (fun u X hX hd => ?_) ?_
        rotate_left
        · obtain ⟨aa0, aa1, aa2, aa3, aa4, -⟩ := (KA.out.below hX).cmd
          obtain ⟨bb0, bb1, bb2, bb3, bb4, -⟩ := (KB.out.below hX).cmd
          have aal := (KA.out.below hX).lt
          have bbl := (KB.out.below hX).lt
          obtain ⟨dd0, dd1, dd2, dd3, dd4, -⟩ := (KD.out.below hX).cmd
          have ddl := (KD.out.below hX).lt
          try simp at hd
          go_simp
          try rfl
        apply walkK_norm
        · first | (simp only [List.nil_append, List.cons_append]; rfl) | simp only [List.nil_append, List.cons_append]
        refine walkK_is (.bool true) (by first | exact gs0 rfl | exact gs1 rfl rfl rfl) (fun _ => Below.refl _ _) (fun u X hX hd => ?_) ?_
        · obtain ⟨aa0, aa1, aa2, aa3, aa4, -⟩ := (KA.out.below hX).cmd
          obtain ⟨bb0, bb1, bb2, bb3, bb4, -⟩ := (KB.out.below hX).cmd
          have aal := (KA.out.below hX).lt
          have bbl := (KB.out.below hX).lt
          obtain ⟨dd0, dd1, dd2, dd3, dd4, -⟩ := (KD.out.below hX).cmd
          have ddl := (KD.out.below hX).lt
          try simp at hd
          go_simp
        apply walkK_norm
        · first | (simp only [List.nil_append, List.cons_append]; rfl) | simp only [List.nil_append, List.cons_append]
        refine walkK_is ?_ (by first | exact gs0 rfl | exact gs1 rfl rfl rfl) (fun _ => Below.refl _ _) (fun u X hX hd => ?_) ?_
        rotate_left
        · obtain ⟨aa0, aa1, aa2, aa3, aa4, -⟩ := (KA.out.below hX).cmd
          obtain ⟨bb0, bb1, bb2, bb3, bb4, -⟩ := (KB.out.below hX).cmd
          have aal := (KA.out.below hX).lt
          have bbl := (KB.out.below hX).lt
          obtain ⟨dd0, dd1, dd2, dd3, dd4, -⟩ := (KD.out.below hX).cmd
          have ddl := (KD.out.below hX).lt
          try simp at hd
          go_simp
          try rfl
        apply walkK_norm
        · first | (simp only [List.nil_append, List.cons_append]; rfl) | simp only [List.nil_append, List.cons_append]
        refine walkK_is ?_ (by first | exact gs0 rfl | exact gs1 rfl rfl rfl) (fun _ => Below.refl _ _) (fun u X hX hd => ?_) ?_
        rotate_left
        · obtain ⟨aa0, aa1, aa2, aa3, aa4, -⟩ := (KA.out.below hX).cmd
          obtain ⟨bb0, bb1, bb2, bb3, bb4, -⟩ := (KB.out.below hX).cmd
          have aal := (KA.out.below hX).lt
          have bbl := (KB.out.below hX).lt
          obtain ⟨dd0, dd1, dd2, dd3, dd4, -⟩ := (KD.out.below hX).cmd
          have ddl := (KD.out.below hX).lt
          try simp at hd
          go_simp
          try rfl
        apply walkK_norm
        · first | (simp only [List.nil_append, List.cons_append]; rfl) | simp only [List.nil_append, List.cons_append]
        refine walkK_is ?_ (by first | exact gs0 rfl | exact gs1 rfl rfl rfl) (fun _ => Below.refl _ _) (fun u X hX hd => ?_) ?_
        rotate_left
        · obtain ⟨aa0, aa1, aa2, aa3, aa4, -⟩ := (KA.out.below hX).cmd
          obtain ⟨bb0, bb1, bb2, bb3, bb4, -⟩ := (KB.out.below hX).cmd
          have aal := (KA.out.below hX).lt
          have bbl := (KB.out.below hX).lt
          obtain ⟨dd0, dd1, dd2, dd3, dd4, -⟩ := (KD.out.below hX).cmd
          have ddl := (KD.out.below hX).lt
          try simp at hd
          go_simp
          try rfl
        apply walkK_norm
        · first | (simp only [List.nil_append, List.cons_append]; rfl) | simp only [List.nil_append, List.cons_append]
        refine walkK_call (isV (.int .i64 (zb : Nat))) 8 ?_ (by first | exact gs0 rfl | exact gs1 rfl rfl rfl) (fun _ _ _ _ h => h) (fun u X hX hd => ?_) (fun X hX => ?_) ?_
        rotate_left
        · obtain ⟨aa0, aa1, aa2, aa3, aa4, -⟩ := (KA.out.below hX).cmd
          obtain ⟨bb0, bb1, bb2, bb3, bb4, -⟩ := (KB.out.below hX).cmd
          have aal := (KA.out.below hX).lt
          have bbl := (KB.out.below hX).lt
          obtain ⟨dd0, dd1, dd2, dd3, dd4, -⟩ := (KD.out.below hX).cmd
          have ddl := (KD.out.below hX).lt
          try simp at hd
          go_simp
          try rfl
        · exact (kb.out X hX).mono fun e X' ⟨he, hb⟩ => ⟨_, he, hb, rfl⟩
        apply walkK_norm
        · first | (simp only [List.nil_append, List.cons_append]; rfl) | simp only [List.nil_append, List.cons_append]
        refine walkK_is ?_ (by first | exact gs0 rfl | exact gs1 rfl rfl rfl) (fun _ => Below.refl _ _) (fun u X hX hd => ?_) ?_
        rotate_left
        · obtain ⟨aa0, aa1, aa2, aa3, aa4, -⟩ := (KA.out.below hX).cmd
          obtain ⟨bb0, bb1, bb2, bb3, bb4, -⟩ := (KB.out.below hX).cmd
          have aal := (KA.out.below hX).lt
          have bbl := (KB.out.below hX).lt
          obtain ⟨dd0, dd1, dd2, dd3, dd4, -⟩ := (KD.out.below hX).cmd
          have ddl := (KD.out.below hX).lt
          try simp at hd
          go_simp
          try rfl
        apply walkK_norm
        · first | (simp only [List.nil_append, List.cons_append]; rfl) | simp only [List.nil_append, List.cons_append]
        refine walkK_is ?_ (by first | exact gs0 rfl | exact gs1 rfl rfl rfl) (fun _ => Below.refl _ _) (fun u X hX hd => ?_) ?_
        rotate_left
        · obtain ⟨aa0, aa1, aa2, aa3, aa4, -⟩ := (KA.out.below hX).cmd
          obtain ⟨bb0, bb1, bb2, bb3, bb4, -⟩ := (KB.out.below hX).cmd
          have aal := (KA.out.below hX).lt
          have bbl := (KB.out.below hX).lt
          obtain ⟨dd0, dd1, dd2, dd3, dd4, -⟩ := (KD.out.below hX).cmd
          have ddl := (KD.out.below hX).lt
          try simp at hd
          go_simp
          try rfl
        apply walkK_norm
        · first | (simp only [List.nil_append, List.cons_append]; rfl) | simp only [List.nil_append, List.cons_append]
        refine walkK_is ?_ (by first | exact gs0 rfl | exact gs1 rfl rfl rfl) (fun _ => Below.refl _ _) (fun u X hX hd => ?_) ?_
        rotate_left
        · obtain ⟨aa0, aa1, aa2, aa3, aa4, -⟩ := (KA.out.below hX).cmd
          obtain ⟨bb0, bb1, bb2, bb3, bb4, -⟩ := (KB.out.below hX).cmd
          have aal := (KA.out.below hX).lt
          have bbl := (KB.out.below hX).lt
          obtain ⟨dd0, dd1, dd2, dd3, dd4, -⟩ := (KD.out.below hX).cmd
          have ddl := (KD.out.below hX).lt
          try simp at hd
          go_simp
          try rfl
        apply walkK_norm
        · first | (simp only [List.nil_append, List.cons_append]; rfl) | simp only [List.nil_append, List.cons_append]
        refine walkK_is ?_ (by first | exact gs0 rfl | exact gs1 rfl rfl rfl) (fun _ => Below.refl _ _) (fun u X hX hd => ?_) ?_
        rotate_left
        · obtain ⟨aa0, aa1, aa2, aa3, aa4, -⟩ := (KA.out.below hX).cmd
          obtain ⟨bb0, bb1, bb2, bb3, bb4, -⟩ := (KB.out.below hX).cmd
          have aal := (KA.out.below hX).lt
          have bbl := (KB.out.below hX).lt
          obtain ⟨dd0, dd1, dd2, dd3, dd4, -⟩ := (KD.out.below hX).cmd
          have ddl := (KD.out.below hX).lt
          try simp at hd
          go_simp
          try rfl
        apply walkK_norm
        · first | (simp only [List.nil_append, List.cons_append]; rfl) | simp only [List.nil_append, List.cons_append]
        refine walkK_is (.bool true) (by first | exact gs0 rfl | exact gs1 rfl rfl rfl) (fun _ => Below.refl _ _) (fun u X hX hd => ?_) ?_
        · obtain ⟨aa0, aa1, aa2, aa3, aa4, -⟩ := (KA.out.below hX).cmd
          obtain ⟨bb0, bb1, bb2, bb3, bb4, -⟩ := (KB.out.below hX).cmd
          have aal := (KA.out.below hX).lt
          have bbl := (KB.out.below hX).lt
          obtain ⟨dd0, dd1, dd2, dd3, dd4, -⟩ := (KD.out.below hX).cmd
          have ddl := (KD.out.below hX).lt
          try simp at hd
          go_simp
        apply walkK_norm
        · first | (simp only [List.nil_append, List.cons_append]; rfl) | simp only [List.nil_append, List.cons_append]
        refine walkK_is ?_ (by first | exact gs0 rfl | exact gs1 rfl rfl rfl) (fun _ => Below.refl _ _) (fun u X hX hd => ?_) ?_
        rotate_left
        · obtain ⟨aa0, aa1, aa2, aa3, aa4, -⟩ := (KA.out.below hX).cmd
          obtain ⟨bb0, bb1, bb2, bb3, bb4, -⟩ := (KB.out.below hX).cmd
          have aal := (KA.out.below hX).lt
          have bbl := (KB.out.below hX).lt
          obtain ⟨dd0, dd1, dd2, dd3, dd4, -⟩ := (KD.out.below hX).cmd
          have ddl := (KD.out.below hX).lt
          try simp at hd
          go_simp
          try rfl
        apply walkK_norm
        · first | (simp only [List.nil_append, List.cons_append]; rfl) | simp only [List.nil_append, List.cons_append]
        refine walkK_is ?_ (by first | exact gs0 rfl | exact gs1 rfl rfl rfl) (fun _ => Below.refl _ _) (fun u X hX hd => ?_) ?_
        rotate_left
        · obtain ⟨aa0, aa1, aa2, aa3, aa4, -⟩ := (KA.out.below hX).cmd
          obtain ⟨bb0, bb1, bb2, bb3, bb4, -⟩ := (KB.out.below hX).cmd
          have aal := (KA.out.below hX).lt
          have bbl := (KB.out.below hX).lt
          obtain ⟨dd0, dd1, dd2, dd3, dd4, -⟩ := (KD.out.below hX).cmd
          have ddl := (KD.out.below hX).lt
          try simp at hd
          go_simp
          try rfl
        apply walkK_norm
        · first | (simp only [List.nil_append, List.cons_append]; rfl) | simp only [List.nil_append, List.cons_append]
        refine walkK_is ?_ (by first | exact gs0 rfl | exact gs1 rfl rfl rfl) (fun _ => Below.refl _ _) (fun u X hX hd => ?_) ?_
        rotate_left
        · obtain ⟨aa0, aa1, aa2, aa3, aa4, -⟩ := (KA.out.below hX).cmd
          obtain ⟨bb0, bb1, bb2, bb3, bb4, -⟩ := (KB.out.below hX).cmd
          have aal := (KA.out.below hX).lt
          have bbl := (KB.out.below hX).lt
          obtain ⟨dd0, dd1, dd2, dd3, dd4, -⟩ := (KD.out.below hX).cmd
          have ddl := (KD.out.below hX).lt
          try simp at hd
          go_simp
          try rfl
        apply walkK_norm
        · first | (simp only [List.nil_append, List.cons_append]; rfl) | simp only [List.nil_append, List.cons_append]
        refine walkK_is ?_ (by first | exact gs0 rfl | exact gs1 rfl rfl rfl) (fun _ => Below.refl _ _) (fun u X hX hd => ?_) ?_
        rotate_left
        · obtain ⟨aa0, aa1, aa2, aa3, aa4, -⟩ := (KA.out.below hX).cmd
          obtain ⟨bb0, bb1, bb2, bb3, bb4, -⟩ := (KB.out.below hX).cmd
          have aal := (KA.out.below hX).lt
          have bbl := (KB.out.below hX).lt
          obtain ⟨dd0, dd1, dd2, dd3, dd4, -⟩ := (KD.out.below hX).cmd
          have ddl := (KD.out.below hX).lt
          try simp at hd
          go_simp
          try rfl
        apply walkK_norm
        · first | (simp only [List.nil_append, List.cons_append]; rfl) | simp only [List.nil_append, List.cons_append]
        refine walkK_is ?_ (by first | exact gs0 rfl | exact gs1 rfl rfl rfl) (fun _ => Below.refl _ _) (fun u X hX hd => ?_) ?_
        rotate_left
        · obtain ⟨aa0, aa1, aa2, aa3, aa4, -⟩ := (KA.out.below hX).cmd
          obtain ⟨bb0, bb1, bb2, bb3, bb4, -⟩ := (KB.out.below hX).cmd
          have aal := (KA.out.below hX).lt
          have bbl := (KB.out.below hX).lt
          obtain ⟨dd0, dd1, dd2, dd3, dd4, -⟩ := (KD.out.below hX).cmd
          have ddl := (KD.out.below hX).lt
          try simp at hd
          go_simp
          try rfl
        apply walkK_norm
        · first | (simp only [List.nil_append, List.cons_append]; rfl) | simp only [List.nil_append, List.cons_append]
        refine walkK_is ?_ (by first | exact gs0 rfl | exact gs1 rfl rfl rfl) (fun _ => Below.refl _ _) (fun u X hX hd => ?_) ?_
        rotate_left
        · obtain ⟨aa0, aa1, aa2, aa3, aa4, -⟩ := (KA.out.below hX).cmd
          obtain ⟨bb0, bb1, bb2, bb3, bb4, -⟩ := (KB.out.below hX).cmd
          have aal := (KA.out.below hX).lt
          have bbl := (KB.out.below hX).lt
          obtain ⟨dd0, dd1, dd2, dd3, dd4, -⟩ := (KD.out.below hX).cmd
          have ddl := (KD.out.below hX).lt
          try simp at hd
          go_simp
          try rfl
        apply walkK_norm
        · first | (simp only [List.nil_append, List.cons_append]; rfl) | simp only [List.nil_append, List.cons_append]
        refine walkK_call (isV (.int .i64 (zd : Nat))) 8 ?_ (by first | exact gs0 rfl | exact gs1 rfl rfl rfl) (fun _ _ _ _ h => h) (fun u X hX hd => ?_) (fun X hX => ?_) ?_
        rotate_left
        · obtain ⟨aa0, aa1, aa2, aa3, aa4, -⟩ := (KA.out.below hX).cmd
          obtain ⟨bb0, bb1, bb2, bb3, bb4, -⟩ := (KB.out.below hX).cmd
          have aal := (KA.out.below hX).lt
          have bbl := (KB.out.below hX).lt
          obtain ⟨dd0, dd1, dd2, dd3, dd4, -⟩ := (KD.out.below hX).cmd
          have ddl := (KD.out.below hX).lt
          try simp at hd
          go_simp
          try rfl
        · exact (kd.out X hX).mono fun e X' ⟨he, hb⟩ => ⟨_, he, hb, rfl⟩
        apply walkK_norm
        · first | (simp only [List.nil_append, List.cons_append]; rfl) | simp only [List.nil_append, List.cons_append]
        refine walkK_is ?_ (by first | exact gs0 rfl | exact gs1 rfl rfl rfl) (fun _ => Below.refl _ _) (fun u X hX hd => ?_) ?_
        rotate_left
        · obtain ⟨aa0, aa1, aa2, aa3, aa4, -⟩ := (KA.out.below hX).cmd
          obtain ⟨bb0, bb1, bb2, bb3, bb4, -⟩ := (KB.out.below hX).cmd
          have aal := (KA.out.below hX).lt
          have bbl := (KB.out.below hX).lt
          obtain ⟨dd0, dd1, dd2, dd3, dd4, -⟩ := (KD.out.below hX).cmd
          have ddl := (KD.out.below hX).lt
          try simp at hd
          go_simp
          try rfl
        apply walkK_norm
        · first | (simp only [List.nil_append, List.cons_append]; rfl) | simp only [List.nil_append, List.cons_append]
        refine walkK_is ?_ (by first | exact gs0 rfl | exact gs1 rfl rfl rfl) (fun _ => Below.refl _ _) (fun u X hX hd => ?_) ?_
        rotate_left
        · obtain ⟨aa0, aa1, aa2, aa3, aa4, -⟩ := (KA.out.below hX).cmd
          obtain ⟨bb0, bb1, bb2, bb3, bb4, -⟩ := (KB.out.below hX).cmd
          have aal := (KA.out.below hX).lt
          have bbl := (KB.out.below hX).lt
          obtain ⟨dd0, dd1, dd2, dd3, dd4, -⟩ := (KD.out.below hX).cmd
          have ddl := (KD.out.below hX).lt
          try simp at hd
          go_simp
          try rfl
        apply walkK_norm
        · first | (simp only [List.nil_append, List.cons_append]; rfl) | simp only [List.nil_append, List.cons_append]
        refine walkK_is ?_ (by first | exact gs0 rfl | exact gs1 rfl rfl rfl) (fun _ => Below.refl _ _) (fun u X hX hd => ?_) ?_
        rotate_left
        · obtain ⟨aa0, aa1, aa2, aa3, aa4, -⟩ := (KA.out.below hX).cmd
          obtain ⟨bb0, bb1, bb2, bb3, bb4, -⟩ := (KB.out.below hX).cmd
          have aal := (KA.out.below hX).lt
          have bbl := (KB.out.below hX).lt
          obtain ⟨dd0, dd1, dd2, dd3, dd4, -⟩ := (KD.out.below hX).cmd
          have ddl := (KD.out.below hX).lt
          try simp at hd
          go_simp
          try rfl
        apply walkK_norm
        · first | (simp only [List.nil_append, List.cons_append]; rfl) | simp only [List.nil_append, List.cons_append]
        refine walkK_is ?_ (by first | exact gs0 rfl | exact gs1 rfl rfl rfl) (fun _ => Below.refl _ _) (fun u X hX hd => ?_) ?_
        rotate_left
        · obtain ⟨aa0, aa1, aa2, aa3, aa4, -⟩ := (KA.out.below hX).cmd
          obtain ⟨bb0, bb1, bb2, bb3, bb4, -⟩ := (KB.out.below hX).cmd
          have aal := (KA.out.below hX).lt
          have bbl := (KB.out.below hX).lt
          obtain ⟨dd0, dd1, dd2, dd3, dd4, -⟩ := (KD.out.below hX).cmd
          have ddl := (KD.out.below hX).lt
          try simp at hd
          go_simp
          try rfl
        apply walkK_norm
        · first | (simp only [List.nil_append, List.cons_append]; rfl) | simp only [List.nil_append, List.cons_append]
        refine walkK_is ?_ (by first | exact gs0 rfl | exact gs1 rfl rfl rfl) (fun _ => Below.refl _ _) (fun u X hX hd => ?_) ?_
        rotate_left
        · obtain ⟨aa0, aa1, aa2, aa3, aa4, -⟩ := (KA.out.below hX).cmd
          obtain ⟨bb0, bb1, bb2, bb3, bb4, -⟩ := (KB.out.below hX).cmd
          have aal := (KA.out.below hX).lt
          have bbl := (KB.out.below hX).lt
          obtain ⟨dd0, dd1, dd2, dd3, dd4, -⟩ := (KD.out.below hX).cmd
          have ddl := (KD.out.below hX).lt
          try simp at hd
          go_simp
          try rfl
        apply walkK_norm
        · first | (simp only [List.nil_append, List.cons_append]; rfl) | simp only [List.nil_append, List.cons_append]
        refine walkK_is ?_ (by first | exact gs0 rfl | exact gs1 rfl rfl rfl) (fun _ => Below.refl _ _) (fun u X hX hd => ?_) ?_
        rotate_left
        · obtain ⟨aa0, aa1, aa2, aa3, aa4, -⟩ := (KA.out.below hX).cmd
          obtain ⟨bb0, bb1, bb2, bb3, bb4, -⟩ := (KB.out.below hX).cmd
          have aal := (KA.out.below hX).lt
          have bbl := (KB.out.below hX).lt
          obtain ⟨dd0, dd1, dd2, dd3, dd4, -⟩ := (KD.out.below hX).cmd
          have ddl := (KD.out.below hX).lt
          try simp at hd
          go_simp
          try rfl
        apply walkK_norm
        · first | (simp only [List.nil_append, List.cons_append]; rfl) | simp only [List.nil_append, List.cons_append]
        refine walkK_is ?_ (by first | exact gs0 rfl | exact gs1 rfl rfl rfl) (fun _ => Below.refl _ _) (fun u X hX hd => ?_) ?_
        rotate_left
        · obtain ⟨aa0, aa1, aa2, aa3, aa4, -⟩ := (KA.out.below hX).cmd
          obtain ⟨bb0, bb1, bb2, bb3, bb4, -⟩ := (KB.out.below hX).cmd
          have aal := (KA.out.below hX).lt
          have bbl := (KB.out.below hX).lt
          obtain ⟨dd0, dd1, dd2, dd3, dd4, -⟩ := (KD.out.below hX).cmd
          have ddl := (KD.out.below hX).lt
          try simp at hd
          go_simp
          try rfl
        apply walkK_norm
        · first | (simp only [List.nil_append, List.cons_append]; rfl) | simp only [List.nil_append, List.cons_append]
        refine walkK_is ?_ (by first | exact gs0 rfl | exact gs1 rfl rfl rfl) (fun _ => Below.refl _ _) (fun u X hX hd => ?_) ?_
        rotate_left
        · obtain ⟨aa0, aa1, aa2, aa3, aa4, -⟩ := (KA.out.below hX).cmd
          obtain ⟨bb0, bb1, bb2, bb3, bb4, -⟩ := (KB.out.below hX).cmd
          have aal := (KA.out.below hX).lt
          have bbl := (KB.out.below hX).lt
          obtain ⟨dd0, dd1, dd2, dd3, dd4, -⟩ := (KD.out.below hX).cmd
          have ddl := (KD.out.below hX).lt
          try simp at hd
          go_simp
          try rfl
        apply walkK_norm
        · first | (simp only [List.nil_append, List.cons_append]; rfl) | simp only [List.nil_append, List.cons_append]
        refine walkK_is ?_ (by first | exact gs0 rfl | exact gs1 rfl rfl rfl) (fun _ => Below.refl _ _) (fun u X hX hd => ?_) ?_
        rotate_left
        · obtain ⟨aa0, aa1, aa2, aa3, aa4, -⟩ := (KA.out.below hX).cmd
          obtain ⟨bb0, bb1, bb2, bb3, bb4, -⟩ := (KB.out.below hX).cmd
          have aal := (KA.out.below hX).lt
          have bbl := (KB.out.below hX).lt
          obtain ⟨dd0, dd1, dd2, dd3, dd4, -⟩ := (KD.out.below hX).cmd
          have ddl := (KD.out.below hX).lt
          try simp at hd
          go_simp
          try rfl
        apply walkK_norm
        · first | (simp only [List.nil_append, List.cons_append]; rfl) | simp only [List.nil_append, List.cons_append]
        refine walkK_is (.bool true) (by first | exact gs0 rfl | exact gs1 rfl rfl rfl) (fun _ => Below.refl _ _) (fun u X hX hd => ?_) ?_
        · obtain ⟨aa0, aa1, aa2, aa3, aa4, -⟩ := (KA.out.below hX).cmd
          obtain ⟨bb0, bb1, bb2, bb3, bb4, -⟩ := (KB.out.below hX).cmd
          have aal := (KA.out.below hX).lt
          have bbl := (KB.out.below hX).lt
          obtain ⟨dd0, dd1, dd2, dd3, dd4, -⟩ := (KD.out.below hX).cmd
          have ddl := (KD.out.below hX).lt
          try simp at hd
          go_simp
        apply walkK_norm
        · first | (simp only [List.nil_append, List.cons_append]; rfl) | simp only [List.nil_append, List.cons_append]
        refine walkK_is ?_ (by first | exact gs0 rfl | exact gs1 rfl rfl rfl) (fun _ => Below.refl _ _) (fun u X hX hd => ?_) ?_
        rotate_left
        · obtain ⟨aa0, aa1, aa2, aa3, aa4, -⟩ := (KA.out.below hX).cmd
          obtain ⟨bb0, bb1, bb2, bb3, bb4, -⟩ := (KB.out.below hX).cmd
          have aal := (KA.out.below hX).lt
          have bbl := (KB.out.below hX).lt
          obtain ⟨dd0, dd1, dd2, dd3, dd4, -⟩ := (KD.out.below hX).cmd
          have ddl := (KD.out.below hX).lt
          try simp at hd
          go_simp
          try rfl
        apply walkK_norm
        · first | (simp only [List.nil_append, List.cons_append]; rfl) | simp only [List.nil_append, List.cons_append]
        refine walkK_is ?_ (by first | exact gs0 rfl | exact gs1 rfl rfl rfl) (fun _ => Below.refl _ _) (fun u X hX hd => ?_) ?_
        rotate_left
        · obtain ⟨aa0, aa1, aa2, aa3, aa4, -⟩ := (KA.out.below hX).cmd
          obtain ⟨bb0, bb1, bb2, bb3, bb4, -⟩ := (KB.out.below hX).cmd
          have aal := (KA.out.below hX).lt
          have bbl := (KB.out.below hX).lt
          obtain ⟨dd0, dd1, dd2, dd3, dd4, -⟩ := (KD.out.below hX).cmd
          have ddl := (KD.out.below hX).lt
          try simp at hd
          go_simp
          try rfl
        apply walkK_norm
        · first | (simp only [List.nil_append, List.cons_append]; rfl) | simp only [List.nil_append, List.cons_append]
        intro u X hX hsay
        simp only [sayAll, isV] at hsay
        obtain ⟨-, -, -, -, -, -, -, -, -, -, -, -, -, -, -, -, -, -, -, -, -, -, -, -, -, -, -, -, -, -, -, -, -, -, -, -, -, e37, -⟩ := hsay
        simp only [putAll, Act.put]
        go_wp2
        go_ret
        exact ⟨by simp, bnext BW.out hX⟩


end Go.Proofs.YtlhipaecndgonaaDoor
