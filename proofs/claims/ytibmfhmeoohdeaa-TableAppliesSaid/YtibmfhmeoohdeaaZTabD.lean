/-
  What foremanref12.Store answers of a command whose blocks are there, in whatever memory. No conditions but those that stand there.
-/
import Derived.Test.YtibmfhmeoohdeaaQTabA
import Derived.Test.YtibmfhmeoohdeaaZAppSl
import Derived.Test.YtibmfhmeoohdeaaZOwnE
namespace Go.Proofs.Ytibmfhmeoohdeaa
open Go.RowKit
attribute [local go_sem] look findAt
attribute [local simp] depsOf isV Region.binds

theorem op_load_at {ρ : Operand → Value} {o : Oper} {w : World} {cs : Array Value} (t : TypeId) (g off : Nat) (hl : (loadVar t ⟨g, off, none⟩).run Try.prog w = .ok (.agg cs) w) (x : Operand) (ho : o.op = .load t x) (hx : ρ x = .pointer (some ⟨g, off, none⟩)) :
    (execOp ρ o).run Try.prog w = .ok (.value (.agg cs)) w := by
  unfold execOp
  simp only [ho, hx, Instr.loadAt, Instr.sureAddr, Sem.run_bind, Sem.run_pure, Result.andThen_ok, hl]

section
variable (ra : Option Addr) (nr rc : Nat) (wa : Option Addr) (nw wc : Nat) (aa : Option Addr) (na ac : Nat) (ca : Option Addr) (nc cc : Nat)

set_option maxHeartbeats 8000000 in
theorem rstore_any (c : Cmd) (l : List Ent) (lA : Option Addr) (ln lc : Nat) (own : Blks) (bA : Option Addr) (bn bc : Nat) (seq : Int) (w : World) (hC : CmIn w c ra nr rc wa nw wc aa na ac ca nc cc) (hL : Ents w lA lc l) (h8 : Eight l) (hs : setsN c) (hf : fitsT c l.length) (hln : l.length = ln) (hO : Sl w 8 bA bn bc (blksW own)) (hbn : own.length = bn) (h8o : ∀ b ∈ own, b.length = 8) (hle : nr + nw ≤ bn) (hlz : ln ≤ 1000) (hbz : bn ≤ 1099511627776) :
    Calls Try.prog 17 #[.slice lA ln lc, cmV ra nr rc wa nw wc aa na ac c.fuel ca nc cc, .slice bA bn bc, .int .i64 seq] w (StorePost (storeT l c own seq) ln w) := by
  have hbr := hC.br
  have hbw := hC.bw
  have hlw := hC.lw
  have hwc : nw ≤ wc := by have := hC.writes.2.1; rw [hC.lw] at this; exact this
  have hbc : bn ≤ bc := hO.2.1
  obtain ⟨iE, hie, he0, hes, heb⟩ := infoEntZ
  have hEn := Lib.hid (fun W (hW : Below w.heap.size w W) => (by have := hL.below hW; unfold Ents at this; rw [hln] at this; exact this : Sl W 9 lA ln lc (entsW l)))

  have hK : Hid (∀ k, k < nw → ∀ W, Below w.heap.size w W → ∃ (i : Nat) (a0 a1 a2 a3 a4 a5 a6 a7 : Int), i < ln ∧
      (∃ b off, wa = some ⟨b, off, none⟩ ∧ b < W.heap.size ∧ W.cell? ⟨b, off + k, none⟩ = some (.int .i64 (i : Int))) ∧
      (∃ g off, bA = some ⟨g, off, none⟩ ∧ g < W.heap.size ∧ W.rangeAt g (off + (nr + k) * 8) (#[.int .i64 a0, .int .i64 a1, .int .i64 a2, .int .i64 a3, .int .i64 a4, .int .i64 a5, .int .i64 a6, .int .i64 a7] : Array Value).toList) ∧
      ∀ (xs : List Value), xs = entsW (stT l c own seq k) → xs.length = ln * 9 ∧ setL xs (i * 9) (#[.int .i64 a0, .int .i64 a1, .int .i64 a2, .int .i64 a3, .int .i64 a4, .int .i64 a5, .int .i64 a6, .int .i64 a7, .int .i64 seq] : Array Value).toList = entsW (stT l c own seq (k + 1))) := Lib.hid (fun k hk W hW => by
    obtain ⟨i, a0, a1, a2, a3, a4, a5, a6, a7, h1, h2, h3, h4⟩ := write_next (s := seq) (k := k) hs hf h8o (by rw [hC.lr, hC.lw]; omega) (by rw [hC.lw]; exact hk)
    obtain ⟨b, o, eb, hb, hv⟩ := Sl.int (hC.writes.below hW) (j := k) (by rw [hC.lw]; exact hk)
    rw [h1] at hv
    have h8k := st_eight (s := seq) h8 h8o (c := c) (by rw [hC.lr, hC.lw]; omega) k (by rw [hC.lw]; omega)
    refine ⟨i, a0, a1, a2, a3, a4, a5, a6, a7, by omega, ⟨b, o, eb, hb, hv⟩, ?_, fun xs hx => ?_⟩
    · obtain ⟨g, off, e, hg, hc⟩ := (hO).2.2.2 (by omega)
      refine ⟨g, off, e, by have := hW.size; omega, fun j v hv => ?_⟩
      have hj : j < 8 := by simpa using (List.getElem?_eq_some_iff.1 hv).1
      rw [hW.cell (p := ⟨g, off + (nr + k) * 8 + j, none⟩) hg, show off + (nr + k) * 8 + j = off + ((nr + k) * 8 + j) by omega, hc ((nr + k) * 8 + j) (by omega), blksW_at own h8o (nr + k) (by omega) j hj, ← hC.lr, h3, ← hv]
      rcases (show j = 0 ∨ j = 1 ∨ j = 2 ∨ j = 3 ∨ j = 4 ∨ j = 5 ∨ j = 6 ∨ j = 7 by omega) with rfl | rfl | rfl | rfl | rfl | rfl | rfl | rfl <;> rfl
    · subst hx
      have hil : i < (stT l c own seq k).length := by rw [st_length]; exact h2
      have hlk : (stT l c own seq k).length = ln := by rw [st_length]; exact hln
      refine ⟨by rw [entsW_length h8k, hlk], ?_⟩
      rw [h4, ← entsW_set h8k hil (e := ⟨[a0, a1, a2, a3, a4, a5, a6, a7], seq⟩) rfl]
      rfl)
  have H0 : Hid (entsW (stT l c own seq 0) = entsW l) := Lib.hid rfl
  have HF : Hid (stT l c own seq nw = storeT l c own seq) := Lib.hid (by unfold storeT; rw [hlw])
  have HE1 := Lib.hid (entsW_one l)
  have B0 := Lib.hid (below_alloc1 w (CmObj ra nr rc wa nw wc aa na ac c.fuel ca nc cc))
  have C0 : Hid (Bk (w.alloc (CmObj ra nr rc wa nw wc aa na ac c.fuel ca nc cc)) w.heap.size 26 #[.slice ra nr rc, .slice wa nw wc, .slice aa na ac, .int .i64 c.fuel, .slice ca nc cc]) := Lib.hid (Bk.new w _ _)
  clear hC hL h8 hs hf hln hO hbn h8o hlw
  generalize c.fuel = F at *
  have EM := own_empty (w.alloc (CmObj ra nr rc wa nw wc aa na ac F ca nc cc)) 45 9 (w.heap.size + 1) (by simp)
  rw [World.size_alloc] at EM
  have EM := Lib.hid EM
  go_enter Try.func17, Try.ntmps17
  go_wp2_with (at_builtin; go_must (refine append_sl rfl (.tmp 11) (.tmp 12) _ rfl (w.heap.size + 1) 45 iE _ 9 72 Try.underlying22 hie he0 hes heb rfl (by decide) _ 0 [] rfl EM.out lA ln lc _ rfl (hEn.out _ (bnext B0.out (below_alloc1 _ _))) HE1.out (by unfold maxLen; omega) (by omega) (by simp) ?_; intro v' w3 ho3 hg3; have B3 : Hid (Below (w.alloc (CmObj ra nr rc wa nw wc aa na ac F ca nc cc)).heap.size (w.alloc (CmObj ra nr rc wa nw wc aa na ac F ca nc cc)) w3) := Lib.hid (((Below.refl _ _).alloc (Nat.le_refl _) _).grown hg3 (by simp) (fun q hq => by have := own_ge EM.out hq; rw [World.size_alloc]; omega)); obtain ⟨eA, ec, rfl, -⟩ := Sl.own ho3; simp only [Nat.zero_add, List.nil_append] at ho3; have O3 : Hid (w3.ownsRow (w.heap.size + 1) 45 9 (.slice eA ln ec) ln (entsW l)) := Lib.hid ho3; clear ho3 hg3))
  have B2 := Lib.hid (bnext B0.out B3.out)
  have C2 := Lib.hid (C0.out.below B3.out)
  clear B0 C0 B3 EM
  go_loopw [10] (fun ii wr => ∃ (k : Nat), k ≤ nw ∧ ii = .int .i64 (k : Int) ∧ Hid (Below w.heap.size w wr) ∧ Hid (Bk wr w.heap.size 26 #[.slice ra nr rc, .slice wa nw wc, .slice aa na ac, .int .i64 F, .slice ca nc cc]) ∧ Hid (wr.ownsRow (w.heap.size + 1) 45 9 (.slice eA ln ec) ln (entsW (stT l c own seq k)))) (fun ii _ => nw - (intOf ii).toNat)
  case atStart => exact ⟨0, Nat.zero_le _, rfl, B2, C2, O3⟩
  case round =>
    clear B2 O3 C2
    obtain ⟨k, hk, rfl, HB, HC, HO⟩ := hrel
    obtain ⟨f0, f1, f2, f3, f4, ff⟩ := HC.out.cmd
    have fl := HC.out.lt
    by_cases hlt : k < nw
    · have d1 : (k : Int) < (nw : Int) := by omega
      have d2 : (k : Int) < (wc : Int) := by omega
      obtain ⟨i, a0, a1, a2, a3, a4, a5, a6, a7, hi, hwr, hrg, hst⟩ := hK.out k hlt wr HB.out
      obtain ⟨hst1, hst2⟩ := hst _ rfl
      obtain ⟨b, off, rfl, hbl, hv⟩ := hwr
      obtain ⟨ob, oo, rfl, hol, hr⟩ := hrg
      obtain ⟨g, cur, rfl, hgB, hgk, hgc, -, hgs, hgt⟩ := own_pos HO.out (by omega)
      have d3 : (i : Int) < (ln : Int) := by omega
      have d4 : (i : Int) < (ec : Int) := by omega
      obtain ⟨m, hm⟩ : ∃ m, m = nr + k := ⟨_, rfl⟩
      have hwr : IntKind.i64.wrap ((nr : Int) + (k : Int)) = (m : Int) := by rw [hm, IntWalk.i64_in _ (by omega)]; omega
      have d5 : (m : Int) < (bn : Int) := by omega
      have d6 : (m : Int) < (bc : Int) := by omega
      rw [← hm] at hr
      clear hm
      have GK := Lib.hid hgk
      have GS := Lib.hid hgs
      have hr2 := run_loadVar_mid (P := Try.prog) wr ob (oo + m * 8) 43 _ _ hr Try.underlying43 rfl infoBlk8
      have HLB : Hid (∀ X, Below wr.heap.size wr X → (loadVar 43 ⟨ob, oo + m * 8, none⟩).run Try.prog X = .ok (.agg #[.int .i64 a0, .int .i64 a1, .int .i64 a2, .int .i64 a3, .int .i64 a4, .int .i64 a5, .int .i64 a6, .int .i64 a7]) X) := Lib.hid (fun X hX => run_loadVar_mid (P := Try.prog) X ob (oo + m * 8) 43 _ _ (fun j v hv => (hX.cell (p := ⟨ob, oo + m * 8 + j, none⟩) hol).trans (hr j v hv)) Try.underlying43 rfl infoBlk8)
      have hQ : Hid (∀ X, Below wr.heap.size wr X → X.cell? ⟨w.heap.size, 0, none⟩ = some (.slice ra nr rc) ∧ X.cell? ⟨w.heap.size, 1, none⟩ = some (.slice (some ⟨b, off, none⟩) nw wc) ∧ X.cell? ⟨b, off + k, none⟩ = some (.int .i64 (i : Int)) ∧ True) := Lib.hid (fun X hX => ⟨(HC.out.below hX).cell 0, (HC.out.below hX).cell 1, (hX.cell (p := ⟨b, off + k, none⟩) hbl).trans hv, trivial⟩)
      obtain ⟨E, hE⟩ : ∃ E : Array Value, E = #[.int .i64 a0, .int .i64 a1, .int .i64 a2, .int .i64 a3, .int .i64 a4, .int .i64 a5, .int .i64 a6, .int .i64 a7, .int .i64 seq] := ⟨_, rfl⟩
      have HS : Hid (setL (entsW (stT l c own seq k)) (i * 9) E.toList = entsW (stT l c own seq (k + 1))) := Lib.hid (by rw [hE]; exact hst2)
      have HE := Lib.hid (congrArg Value.agg hE.symm)
      have E9 : E.size = 9 := by rw [hE]; rfl
      have EI : (Try.prog.info? 45).map (·.size) = some E.size := by rw [E9]; exact infoEnt9
      have EA : E.all (·.oneCell') = true := by rw [hE]; simp [Value.oneCell']
      clear hE
      clear hr hr2 hst1 hst2 hgk hgs hgt hv
      go_wp2
      try simp only [List.append_eq, List.cons_append, List.nil_append]
      refine wp_region_saysK 17 (fun x y => Below x.heap.size x y) (fun _ _ _ h k => bnext h k) wr (below_drew1 wr) (by kernel_rfl) (by kernel_rfl) (by kernel_rfl) (by kernel_rfl) (by rfl) ?_
      simp only [List.take_succ_cons, List.take_zero, List.drop_succ_cons, List.drop_zero]
      refine walkK_is ?_ (by first | exact gs0 rfl | exact gs1 rfl rfl rfl) (fun _ => Below.refl _ _) (fun u X hX hd => ?_) ?_
      rotate_left
      · obtain ⟨q0, q1, q2, q3⟩ := hQ.out X hX
        try simp at hd
        go_simp
        try rfl
      apply walkK_norm
      · first | (simp only [List.nil_append]; rfl) | simp only [List.nil_append]
      refine walkK_is ?_ (by first | exact gs0 rfl | exact gs1 rfl rfl rfl) (fun _ => Below.refl _ _) (fun u X hX hd => ?_) ?_
      rotate_left
      · obtain ⟨q0, q1, q2, q3⟩ := hQ.out X hX
        try simp at hd
        go_simp
        try rfl
      apply walkK_norm
      · first | (simp only [List.nil_append, List.cons_append]; rfl) | simp only [List.nil_append, List.cons_append]
      refine walkK_is ?_ (by first | exact gs0 rfl | exact gs1 rfl rfl rfl) (fun _ => Below.refl _ _) (fun u X hX hd => ?_) ?_
      rotate_left
      · obtain ⟨q0, q1, q2, q3⟩ := hQ.out X hX
        try simp at hd
        go_simp
        try rfl
      apply walkK_norm
      · first | (simp only [List.nil_append, List.cons_append]; rfl) | simp only [List.nil_append, List.cons_append]
      refine walkK_is ?_ (by first | exact gs0 rfl | exact gs1 rfl rfl rfl) (fun _ => Below.refl _ _) (fun u X hX hd => ?_) ?_
      rotate_left
      · obtain ⟨q0, q1, q2, q3⟩ := hQ.out X hX
        try simp at hd
        go_simp
        try rfl
      apply walkK_norm
      · first | (simp only [List.nil_append, List.cons_append]; rfl) | simp only [List.nil_append, List.cons_append]
      refine walkK_is ?_ (by first | exact gs0 rfl | exact gs1 rfl rfl rfl) (fun _ => Below.refl _ _) (fun u X hX hd => ?_) ?_
      rotate_left
      · obtain ⟨q0, q1, q2, q3⟩ := hQ.out X hX
        try simp at hd
        go_simp
        try rfl
      apply walkK_norm
      · first | (simp only [List.nil_append, List.cons_append]; rfl) | simp only [List.nil_append, List.cons_append]
      refine walkK_is ?_ (by first | exact gs0 rfl | exact gs1 rfl rfl rfl) (fun _ => Below.refl _ _) (fun u X hX hd => ?_) ?_
      rotate_left
      · obtain ⟨q0, q1, q2, q3⟩ := hQ.out X hX
        try simp at hd
        go_simp
        try rfl
      apply walkK_norm
      · first | (simp only [List.nil_append, List.cons_append]; rfl) | simp only [List.nil_append, List.cons_append]
      refine walkK_is ?_ (by first | exact gs0 rfl | exact gs1 rfl rfl rfl) (fun _ => Below.refl _ _) (fun u X hX hd => ?_) ?_
      rotate_left
      · obtain ⟨q0, q1, q2, q3⟩ := hQ.out X hX
        try simp at hd
        go_simp
        try rfl
      apply walkK_norm
      · first | (simp only [List.nil_append, List.cons_append]; rfl) | simp only [List.nil_append, List.cons_append]
      refine walkK_is ?_ (by first | exact gs0 rfl | exact gs1 rfl rfl rfl) (fun _ => Below.refl _ _) (fun u X hX hd => ?_) ?_
      rotate_left
      · obtain ⟨q0, q1, q2, q3⟩ := hQ.out X hX
        try simp at hd
        go_simp
        try rfl
      apply walkK_norm
      · first | (simp only [List.nil_append, List.cons_append]; rfl) | simp only [List.nil_append, List.cons_append]
      refine walkK_is ?_ (by first | exact gs0 rfl | exact gs1 rfl rfl rfl) (fun _ => Below.refl _ _) (fun u X hX hd => ?_) ?_
      rotate_left
      · obtain ⟨q0, q1, q2, q3⟩ := hQ.out X hX
        try simp at hd
        go_simp
        try rfl
      apply walkK_norm
      · first | (simp only [List.nil_append, List.cons_append]; rfl) | simp only [List.nil_append, List.cons_append]
      refine walkK_is ?_ (by first | exact gs0 rfl | exact gs1 rfl rfl rfl) (fun _ => Below.refl _ _) (fun u X hX hd => ?_) ?_
      rotate_left
      · obtain ⟨q0, q1, q2, q3⟩ := hQ.out X hX
        try simp at hd
        go_simp
        try rfl
      apply walkK_norm
      · first | (simp only [List.nil_append, List.cons_append]; rfl) | simp only [List.nil_append, List.cons_append]
      refine walkK_is ?_ (by first | exact gs0 rfl | exact gs1 rfl rfl rfl) (fun _ => Below.refl _ _) (fun u X hX hd => ?_) ?_
      rotate_left
      · obtain ⟨q0, q1, q2, q3⟩ := hQ.out X hX
        try simp at hd
        go_simp
        try rfl
      apply walkK_norm
      · first | (simp only [List.nil_append, List.cons_append]; rfl) | simp only [List.nil_append, List.cons_append]
      refine walkK_is ?_ (by first | exact gs0 rfl | exact gs1 rfl rfl rfl) (fun _ => Below.refl _ _) (fun u X hX hd => ?_) ?_
      rotate_left
      · obtain ⟨q0, q1, q2, q3⟩ := hQ.out X hX
        try simp at hd
        go_simp
        try rfl
      apply walkK_norm
      · first | (simp only [List.nil_append, List.cons_append]; rfl) | simp only [List.nil_append, List.cons_append]
      refine walkK_is ?_ (by first | exact gs0 rfl | exact gs1 rfl rfl rfl) (fun _ => Below.refl _ _) (fun u X hX hd => ?_) ?_
      rotate_left
      · obtain ⟨q0, q1, q2, q3⟩ := hQ.out X hX
        try simp at hd
        go_simp
        try rfl
      apply walkK_norm
      · first | (simp only [List.nil_append, List.cons_append]; rfl) | simp only [List.nil_append, List.cons_append]
      refine walkK_is (.agg #[.int .i64 a0, .int .i64 a1, .int .i64 a2, .int .i64 a3, .int .i64 a4, .int .i64 a5, .int .i64 a6, .int .i64 a7]) (by first | exact gs0 rfl | exact gs1 rfl rfl rfl) (fun _ => Below.refl _ _) (fun u X hX hd => ?_) ?_
      · have hl := HLB.out X hX
        try simp at hd
        refine op_load_at 43 ob (oo + m * 8) hl _ rfl ?_
        go_simp
      apply walkK_norm
      · first | (simp only [List.nil_append, List.cons_append]; rfl) | simp only [List.nil_append, List.cons_append]
      refine walkK_is ?_ (by first | exact gs0 rfl | exact gs1 rfl rfl rfl) (fun _ => Below.refl _ _) (fun u X hX hd => ?_) ?_
      rotate_left
      · obtain ⟨q0, q1, q2, q3⟩ := hQ.out X hX
        try simp at hd
        go_simp
        try rfl
      apply walkK_norm
      · first | (simp only [List.nil_append, List.cons_append]; rfl) | simp only [List.nil_append, List.cons_append]
      refine walkK_is ?_ (by first | exact gs0 rfl | exact gs1 rfl rfl rfl) (fun _ => Below.refl _ _) (fun u X hX hd => ?_) ?_
      rotate_left
      · obtain ⟨q0, q1, q2, q3⟩ := hQ.out X hX
        try simp at hd
        go_simp
        try rfl
      apply walkK_norm
      · first | (simp only [List.nil_append, List.cons_append]; rfl) | simp only [List.nil_append, List.cons_append]
      refine walkK_is ?_ (by first | exact gs0 rfl | exact gs1 rfl rfl rfl) (fun _ => Below.refl _ _) (fun u X hX hd => ?_) ?_
      rotate_left
      · obtain ⟨q0, q1, q2, q3⟩ := hQ.out X hX
        try simp at hd
        go_simp
        try rfl
      apply walkK_norm
      · first | (simp only [List.nil_append, List.cons_append]; rfl) | simp only [List.nil_append, List.cons_append]
      intro u X hX hsay
      simp only [sayAll, isV] at hsay
      obtain ⟨v0, v1, v2, v3, v4, v5, v6, v7, v8, v9, v10, v11, v12, v13, v14, v15, v16, -⟩ := hsay
      have GT : Hid (∀ m, m = 9 → X.there g (i * 9) m) := Lib.hid (fun m hm => (GK.out.below hX).there (by rw [GS.out, hm]; omega))
      have B5 := Lib.hid (bnext HB.out hX)
      have C5 := Lib.hid (HC.out.below hX)
      have O5 := Lib.hid (own_below HO.out hX)
      simp only [putAll, Act.put, v0, v1, v2, v3, v4, v5, v6, v7, v8, v9, v10, v11, v12, v13, v14, v15, v16, List.setIfInBounds_toArray, List.set_cons_succ, List.set_cons_zero]
      clear v0 v1 v2 v3 v4 v5 v6 v7 v8 v9 v10 v11 v12 v13 v14 v15 v16 f0 f1 f2 f3 f4 ff fl
      go_wp2_with (refine wpList_store_mid rfl 45 _ _ rfl g (i * 9) E rfl HE.out (GT.out _ E9) EI EA ?_)
      go_roundw
      case rel =>
        refine ⟨k + 1, by omega, by go_num, Lib.hid (below_setCells B5.out (by omega) _ _), Lib.hid (C5.out.setCells (by omega) _ _), Lib.hid ?_⟩
        rw [← HS.out]
        exact own_setCells _ _ O5.out
      case measure => simp [intOf]; omega
    · obtain rfl : nw = k := by omega
      have d1 : decide ((nw : Int) < (nw : Int)) = false := decide_eq_false (by omega)
      clear hlt
      go_wp2
      go_ret
      refine ⟨_, _, rfl, ?_, HB.out⟩
      rw [← HF.out]
      exact own_lower HO.out (Nat.le_succ _)

end
end Go.Proofs.Ytibmfhmeoohdeaa
