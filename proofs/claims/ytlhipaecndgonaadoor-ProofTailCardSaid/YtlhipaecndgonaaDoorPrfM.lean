/-
  ProofTail, walked: true for every command, in whatever memory that has the kinds' table.
-/
import Derived.Test.YtlhipaecndgonaaDoorPrfL
namespace Go.Proofs.YtlhipaecndgonaaDoor
open Go.RowKit
attribute [local go_sem] look findAt
attribute [local simp] depsOf isV Region.binds

set_option maxHeartbeats 8000000 in
theorem proofTail_main (c : Cmd) (fuel : Int) (hfu : c.fuel = fuel) (ra : Option Addr) (nr rc : Nat) (wa : Option Addr) (nw wc : Nat) (aa : Option Addr) (na ac : Nat) (ca : Addr) (nc cc : Nat) (w : World) (h : CmIn w c ra nr rc wa nw wc aa na ac (some ca) nc cc) (hT : HasKinds w) (hsh : nr ≤ 20 ∧ nw ≤ 20 ∧ na ≤ 20 ∧ nc ≤ 100) (hm : MayBe c) :
    Calls Tryd.prog 5 #[cmV ra nr rc wa nw wc aa na ac fuel (some ca) nc cc] w fun e w' => e = .returned (.bool true) ∧ Below w.heap.size w w' := by
  obtain ⟨i0, hi0, hz0, hz1, hz2⟩ := infoIns
  have sh := Lib.hid (fun W => short_any ra nr rc wa nw wc aa na ac fuel (some ca) nc cc W true (decide_eq_true hsh))
  have hb0 : Below w.heap.size w (w.alloc (CmObj ra nr rc wa nw wc aa na ac fuel (some ca) nc cc)) := (Below.refl _ _).alloc (Nat.le_refl _) _
  have B0 := Lib.hid hb0
  have C0 : Hid (Bk (w.alloc (CmObj ra nr rc wa nw wc aa na ac fuel (some ca) nc cc)) w.heap.size 25 (cmC ra nr rc wa nw wc aa na ac fuel (some ca) nc cc)) := Lib.hid (Bk.new w _ _)
  have ck := Lib.hid (fun W hW => check_fu c fuel hfu ra nr rc wa nw wc aa na ac (some ca) nc cc W (h.below hW) (hT.belowS hW) 0 ((check_zero c).2 hm))
  have hcd := Lib.hid (fun W hW => h.code.below (w' := W) hW)
  have hlc := Lib.hid h.lc
  have hn1 : 1 ≤ nc := by have := hm.few.2.2.1; have := h.lc; omega
  have hn2 : nc ≤ 64 := by have := hm.few.2.2.2.1; have := h.lc; omega
  have hin := Lib.hid h
  have hT' := Lib.hid hT
  have hm' := Lib.hid hm
  have one := Lib.hid (inssW_one c.code)
  have hfu' := Lib.hid hfu
  clear h hb0 hm hT hfu
  have m1 : True := trivial
  have m2 : True := trivial
  have q1 : 0 + nc ≤ maxLen := by unfold maxLen; omega
  have q2 : (0 + nc) * 24 ≤ 140737488355328 := by omega
  have q3 : nc + 1 ≤ maxLen := by unfold maxLen; omega
  have q4 : (nc + 1) * 24 ≤ 140737488355328 := by omega
  go_enter Tryd.func5, Tryd.ntmps5
  go_wp2_with (first
    | (go_at_call 7; go_must ((with_reducible refine (sh.out _).mono ?_); rintro e w1 ⟨rfl, hb1⟩; have B1 := Lib.hid (bnext B0.out hb1); obtain ⟨c0, c1, c2, c3, c4, cf⟩ := (C0.out.below hb1).cmd; have cl := (C0.out.below hb1).lt; have C1 := Lib.hid (C0.out.below hb1); clear hb1))
    | (go_at_call 8; go_must ((with_reducible refine (ck.out _ B1.out).mono ?_); rintro e w2 ⟨rfl, hb2⟩; have B2 := Lib.hid (bnext B1.out hb2); clear c0 c1 c2 c3 c4 cf cl; obtain ⟨c0, c1, c2, c3, c4, cf⟩ := (C1.out.below hb2).cmd; have cl := (C1.out.below hb2).lt; have C2 := Lib.hid (C1.out.below hb2); have Z2 := Lib.hid (tail_two c ra nr rc wa nw wc aa na ac fuel ca nc cc w.heap.size w2.heap.size w2 rfl (hcd.out w2 B2.out) hlc.out (C1.out.below hb2)); clear hb2))
    | (at_builtin; clear m1; go_must (refine append_all rfl (.tmp 15) (.tmp 17) _ rfl (w2.heap.size + 1) 35 i0 _ 3 24 Tryd.underlying23 hi0 hz0 hz1 hz2 rfl (by decide) _ 0 [] rfl Z2.out.own ca nc cc (inssW c.code) rfl Z2.out.code one.out hn1 q1 q2 Z2.out.size ?_; intro g3 cap3 w3 ho3 hg3; rw [Nat.zero_add, List.nil_append] at ho3; rw [Nat.zero_add]; have Z3 := Lib.hid (tail_three Z2.out ho3 hg3 cl); clear ho3 hg3))
    | (at_builtin; clear m2; go_must (refine append_row rfl (.tmp 18) (.tmp 20) _ rfl (w2.heap.size + 1) 35 i0 _ 3 24 Tryd.underlying23 hi0 hz0 hz1 hz2 rfl (by decide) _ nc (inssW c.code) rfl Z3.out.own' w3.heap.size #[.int .i64 16, .int .i64 0, .int .i64 0] rfl (Bk.new _ _ _) rfl rfl q3 q4 Z3.out.size' ?_; intro g4 cap4 w4 ho4 hg4; have Z4 := Lib.hid (tail_four Z3.out ho4 hg4 cl); obtain ⟨d0, d1, d2, d3, d4, df⟩ := Z4.out.d.cmd; have dl := Z4.out.d.lt; clear c0 c1 c2 c3 c4 cf; obtain ⟨c0, c1, c2, c3, c4, cf⟩ := Z4.out.box.cmd; have T5 := Lib.hid (tail_five rfl cl Z4.out); have B5 := Lib.hid (bnext B2.out T5.out.2.2.2.1); have Z6 := Lib.hid (tail_two c ra nr rc wa nw wc aa na ac fuel ca nc cc w.heap.size w4.heap.size _ T5.out.2.2.2.2 (hcd.out _ B5.out) hlc.out T5.out.2.1); have kl : w.heap.size < w4.heap.size := (by omega); clear ho4 hg4))
    | (at_builtin; go_must (refine append_all rfl (.tmp 24) (.tmp 26) _ rfl (w4.heap.size + 1) 35 i0 _ 3 24 Tryd.underlying23 hi0 hz0 hz1 hz2 rfl (by decide) _ 0 [] rfl Z6.out.own ca nc cc (inssW c.code) rfl Z6.out.code one.out hn1 q1 q2 Z6.out.size ?_; intro g7 cap7 w7 ho7 hg7; rw [Nat.zero_add, List.nil_append] at ho7; rw [Nat.zero_add]; have Z7 := Lib.hid (tail_three Z6.out ho7 hg7 kl); clear c0 c1 c2 c3 c4 cf; obtain ⟨c0, c1, c2, c3, c4, cf⟩ := Z7.out.box.cmd; obtain ⟨e0, e1, e2, e3, e4, ef⟩ := Z7.out.d.cmd; have el := Z7.out.d.lt; have G7 : Hid ((((w4.setCell ⟨w2.heap.size, 4, none⟩ (.slice (some ⟨g4, 0, none⟩) (nc + 1) cap4)).alloc (CmObj ra nr rc wa nw wc aa na ac fuel (some ca) nc cc)).alloc (.cells #[] 35)).grownBy w7 (some (w4.heap.size + 1))) := Lib.hid hg7; obtain ⟨⟨v0, v1, v2, y0, y1, y2⟩, yf, yl, -⟩ := own_first Z7.out.own hlc.out hn1 ⟨14, (nc : Int), 0⟩; have gr := Z7.out.row; clear ho7 hg7)))
  -- the region
  have Z8 := Lib.hid (tail_six hin.out B5.out T5.out.1 T5.out.2.2.1 G7.out Z7.out T5.out.2.2.2.2 hn1 hn2)
  have zz := check_tail c hm'.out
  obtain ⟨z, hz⟩ : ∃ z, z = checkN { c with code := c.code ++ [⟨16, 0, 0⟩] } := ⟨_, rfl⟩
  rw [← hz, hlc.out] at zz
  have kd := Lib.hid (fun X (hX : Below _ _ X) => check_fu { c with code := c.code ++ [⟨16, 0, 0⟩] } fuel hfu'.out ra nr rc wa nw wc aa na ac (some ⟨g4, 0, none⟩) (nc + 1) cap4 X (Z8.out.dC.below hX) (hT'.out.belowS (bnext Z8.out.below hX)) z hz.symm)
  have ke := Lib.hid (fun X (hX : Below _ _ X) => check_fu { c with code := c.code.set 0 ⟨14, (nc : Int), 0⟩ } fuel hfu'.out ra nr rc wa nw wc aa na ac (some ⟨g7, 0, none⟩) nc cap7 X (Z8.out.eC.below hX) (hT'.out.belowS (bnext Z8.out.below hX)) 6 (by have := cut_check hm'.out; rwa [hlc.out] at this))
  have aw := Lib.hid (fun X (hX : Below _ _ X) => awake7 X (hT'.out.belowS (bnext Z8.out.below hX)))
  have KD := Lib.hid Z8.out.d
  have KE := Lib.hid Z8.out.e
  have BW := Lib.hid Z8.out.below
  clear Z8 hz Z7 G7 Z6 T5 Z4 Z3 Z2 B5 hm' hin hfu' one ck sh hcd C0 C1 C2 c0 c1 c2 c3 c4 cf d0 d1 d2 d3 d4 df e0 e1 e2 e3 e4 ef y0 y1 y2 yf
  obtain ⟨wr, hwr⟩ : ∃ wr, wr = (((w7.setCell ⟨w4.heap.size, 4, none⟩ (.slice (some ⟨g7, 0, none⟩) nc cap7)).setCell ⟨g7, 0, none⟩ (.int .i64 14)).setCell ⟨g7, 1, none⟩ (.int .i64 (nc : Int))).setCell ⟨g7, 2, none⟩ (.int .i64 0) := ⟨_, rfl⟩
  rw [← hwr] at kd ke aw KD KE BW ⊢
  clear hwr
  obtain ⟨pb, hpb⟩ : ∃ pb, pb = decide ((nc : Int) + 1 ≤ 64) := ⟨_, rfl⟩
  have hp1 : ((z : Int) == 0) = pb := by rw [hpb]; cases hh : decide ((nc : Int) + 1 ≤ 64) <;> simp at hh ⊢ <;> omega
  have hp2 := hpb.symm
  clear zz hpb
  refine wp_region_saysK 16 (fun x y => Below x.heap.size x y) (fun _ _ _ h k => bnext h k) wr (below_drew1 wr) (by kernel_rfl) (by kernel_rfl) (by kernel_rfl) (by kernel_rfl) (by rfl) ?_
  simp only [List.take_succ_cons, List.take_zero, List.drop_succ_cons, List.drop_zero]
  refine walkK_call (isV (.bool true)) 9 ?_ (by first | exact gs0 rfl | exact gs1 rfl rfl rfl) (fun _ _ _ _ h => h) (fun u X hX hd => ?_) (fun X hX => ?_) ?_
  rotate_left
  · obtain ⟨dd0, dd1, dd2, dd3, dd4, -⟩ := (KD.out.below hX).cmd
    obtain ⟨ee0, ee1, ee2, ee3, ee4, -⟩ := (KE.out.below hX).cmd
    have ddl := (KD.out.below hX).lt
    have eel := (KE.out.below hX).lt
    try simp at hd
    go_simp
    try rfl
  · exact (aw.out X hX).mono fun e X' ⟨he, hb⟩ => ⟨_, he, hb, rfl⟩
  refine walkK_is ?_ (by first | exact gs0 rfl | exact gs1 rfl rfl rfl) (fun _ => Below.refl _ _) (fun u X hX hd => ?_) ?_
  rotate_left
  · obtain ⟨dd0, dd1, dd2, dd3, dd4, -⟩ := (KD.out.below hX).cmd
    obtain ⟨ee0, ee1, ee2, ee3, ee4, -⟩ := (KE.out.below hX).cmd
    have ddl := (KD.out.below hX).lt
    have eel := (KE.out.below hX).lt
    try simp at hd
    go_simp
    try rfl
  refine walkK_is ?_ (by first | exact gs0 rfl | exact gs1 rfl rfl rfl) (fun _ => Below.refl _ _) (fun u X hX hd => ?_) ?_
  rotate_left
  · obtain ⟨dd0, dd1, dd2, dd3, dd4, -⟩ := (KD.out.below hX).cmd
    obtain ⟨ee0, ee1, ee2, ee3, ee4, -⟩ := (KE.out.below hX).cmd
    have ddl := (KD.out.below hX).lt
    have eel := (KE.out.below hX).lt
    try simp at hd
    go_simp
    try rfl
  refine walkK_call (isV (.int .i64 (z : Nat))) 8 ?_ (by first | exact gs0 rfl | exact gs1 rfl rfl rfl) (fun _ _ _ _ h => h) (fun u X hX hd => ?_) (fun X hX => ?_) ?_
  rotate_left
  · obtain ⟨dd0, dd1, dd2, dd3, dd4, -⟩ := (KD.out.below hX).cmd
    obtain ⟨ee0, ee1, ee2, ee3, ee4, -⟩ := (KE.out.below hX).cmd
    have ddl := (KD.out.below hX).lt
    have eel := (KE.out.below hX).lt
    try simp at hd
    go_simp
    try rfl
  · exact (kd.out X hX).mono fun e X' ⟨he, hb⟩ => ⟨_, he, hb, rfl⟩
  refine walkK_is ?_ (by first | exact gs0 rfl | exact gs1 rfl rfl rfl) (fun _ => Below.refl _ _) (fun u X hX hd => ?_) ?_
  rotate_left
  · obtain ⟨dd0, dd1, dd2, dd3, dd4, -⟩ := (KD.out.below hX).cmd
    obtain ⟨ee0, ee1, ee2, ee3, ee4, -⟩ := (KE.out.below hX).cmd
    have ddl := (KD.out.below hX).lt
    have eel := (KE.out.below hX).lt
    try simp at hd
    go_simp
    try rfl
  refine walkK_is ?_ (by first | exact gs0 rfl | exact gs1 rfl rfl rfl) (fun _ => Below.refl _ _) (fun u X hX hd => ?_) ?_
  rotate_left
  · obtain ⟨dd0, dd1, dd2, dd3, dd4, -⟩ := (KD.out.below hX).cmd
    obtain ⟨ee0, ee1, ee2, ee3, ee4, -⟩ := (KE.out.below hX).cmd
    have ddl := (KD.out.below hX).lt
    have eel := (KE.out.below hX).lt
    try simp at hd
    go_simp
    try rfl
  refine walkK_is ?_ (by first | exact gs0 rfl | exact gs1 rfl rfl rfl) (fun _ => Below.refl _ _) (fun u X hX hd => ?_) ?_
  rotate_left
  · obtain ⟨dd0, dd1, dd2, dd3, dd4, -⟩ := (KD.out.below hX).cmd
    obtain ⟨ee0, ee1, ee2, ee3, ee4, -⟩ := (KE.out.below hX).cmd
    have ddl := (KD.out.below hX).lt
    have eel := (KE.out.below hX).lt
    try simp at hd
    go_simp
    try rfl
  refine walkK_is ?_ (by first | exact gs0 rfl | exact gs1 rfl rfl rfl) (fun _ => Below.refl _ _) (fun u X hX hd => ?_) ?_
  rotate_left
  · obtain ⟨dd0, dd1, dd2, dd3, dd4, -⟩ := (KD.out.below hX).cmd
    obtain ⟨ee0, ee1, ee2, ee3, ee4, -⟩ := (KE.out.below hX).cmd
    have ddl := (KD.out.below hX).lt
    have eel := (KE.out.below hX).lt
    try simp at hd
    go_simp
    try rfl
  refine walkK_is ?_ (by first | exact gs0 rfl | exact gs1 rfl rfl rfl) (fun _ => Below.refl _ _) (fun u X hX hd => ?_) ?_
  rotate_left
  · obtain ⟨dd0, dd1, dd2, dd3, dd4, -⟩ := (KD.out.below hX).cmd
    obtain ⟨ee0, ee1, ee2, ee3, ee4, -⟩ := (KE.out.below hX).cmd
    have ddl := (KD.out.below hX).lt
    have eel := (KE.out.below hX).lt
    try simp at hd
    go_simp
    try rfl
  refine walkK_is (.bool true) (by first | exact gs0 rfl | exact gs1 rfl rfl rfl) (fun _ => Below.refl _ _) (fun u X hX hd => ?_) ?_
  · obtain ⟨dd0, dd1, dd2, dd3, dd4, -⟩ := (KD.out.below hX).cmd
    obtain ⟨ee0, ee1, ee2, ee3, ee4, -⟩ := (KE.out.below hX).cmd
    have ddl := (KD.out.below hX).lt
    have eel := (KE.out.below hX).lt
    try simp at hd
    go_simp
  refine walkK_is ?_ (by first | exact gs0 rfl | exact gs1 rfl rfl rfl) (fun _ => Below.refl _ _) (fun u X hX hd => ?_) ?_
  rotate_left
  · obtain ⟨dd0, dd1, dd2, dd3, dd4, -⟩ := (KD.out.below hX).cmd
    obtain ⟨ee0, ee1, ee2, ee3, ee4, -⟩ := (KE.out.below hX).cmd
    have ddl := (KD.out.below hX).lt
    have eel := (KE.out.below hX).lt
    try simp at hd
    go_simp
    try rfl
  refine walkK_is ?_ (by first | exact gs0 rfl | exact gs1 rfl rfl rfl) (fun _ => Below.refl _ _) (fun u X hX hd => ?_) ?_
  rotate_left
  · obtain ⟨dd0, dd1, dd2, dd3, dd4, -⟩ := (KD.out.below hX).cmd
    obtain ⟨ee0, ee1, ee2, ee3, ee4, -⟩ := (KE.out.below hX).cmd
    have ddl := (KD.out.below hX).lt
    have eel := (KE.out.below hX).lt
    try simp at hd
    go_simp
    try rfl
  refine walkK_is ?_ (by first | exact gs0 rfl | exact gs1 rfl rfl rfl) (fun _ => Below.refl _ _) (fun u X hX hd => ?_) ?_
  rotate_left
  · obtain ⟨dd0, dd1, dd2, dd3, dd4, -⟩ := (KD.out.below hX).cmd
    obtain ⟨ee0, ee1, ee2, ee3, ee4, -⟩ := (KE.out.below hX).cmd
    have ddl := (KD.out.below hX).lt
    have eel := (KE.out.below hX).lt
    try simp at hd
    go_simp
    try rfl
  refine walkK_call (isV (.int .i64 6)) 8 ?_ (by first | exact gs0 rfl | exact gs1 rfl rfl rfl) (fun _ _ _ _ h => h) (fun u X hX hd => ?_) (fun X hX => ?_) ?_
  rotate_left
  · obtain ⟨dd0, dd1, dd2, dd3, dd4, -⟩ := (KD.out.below hX).cmd
    obtain ⟨ee0, ee1, ee2, ee3, ee4, -⟩ := (KE.out.below hX).cmd
    have ddl := (KD.out.below hX).lt
    have eel := (KE.out.below hX).lt
    try simp at hd
    go_simp
    try rfl
  · exact (ke.out X hX).mono fun e X' ⟨he, hb⟩ => ⟨_, he, hb, rfl⟩
  refine walkK_is ?_ (by first | exact gs0 rfl | exact gs1 rfl rfl rfl) (fun _ => Below.refl _ _) (fun u X hX hd => ?_) ?_
  rotate_left
  · obtain ⟨dd0, dd1, dd2, dd3, dd4, -⟩ := (KD.out.below hX).cmd
    obtain ⟨ee0, ee1, ee2, ee3, ee4, -⟩ := (KE.out.below hX).cmd
    have ddl := (KD.out.below hX).lt
    have eel := (KE.out.below hX).lt
    try simp at hd
    go_simp
    try rfl
  refine walkK_is ?_ (by first | exact gs0 rfl | exact gs1 rfl rfl rfl) (fun _ => Below.refl _ _) (fun u X hX hd => ?_) ?_
  rotate_left
  · obtain ⟨dd0, dd1, dd2, dd3, dd4, -⟩ := (KD.out.below hX).cmd
    obtain ⟨ee0, ee1, ee2, ee3, ee4, -⟩ := (KE.out.below hX).cmd
    have ddl := (KD.out.below hX).lt
    have eel := (KE.out.below hX).lt
    try simp at hd
    go_simp
    try rfl
  intro u X hX hsay
  simp only [List.nil_append, List.cons_append, sayAll, isV] at hsay
  obtain ⟨-, -, -, -, -, -, -, -, -, -, -, -, -, -, -, e15, -⟩ := hsay
  simp only [putAll, Act.put]
  go_wp2
  go_ret
  exact ⟨by simp, bnext BW.out hX⟩

end Go.Proofs.YtlhipaecndgonaaDoor
