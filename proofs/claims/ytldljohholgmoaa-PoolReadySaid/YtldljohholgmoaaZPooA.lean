/-
  What foremanref16.Add answers, in whatever memory. No conditions but those that stand there.
-/
import Derived.Test.YtldljohholgmoaaZPooW
import Derived.Test.YtldljohholgmoaaZRowK
import Derived.Test.YtldljohholgmoaaZMacNr
namespace Go.Proofs.Ytldljohholgmoaa
open Go Go.RowKit
attribute [local go_sem] look findAt
attribute [local simp] depsOf isV Region.binds

/-- a task that is new: its machine new, no blocks, nobody's. -/
def newT (s : Int) (x : CmL) : TkL := ⟨s, x, newM x.c, none, 0, 0, none, 0, 0, [], none, 0, 0, -1⟩
theorem newT_tsk (s : Int) (x : CmL) : (newT s x).tsk = ⟨s, x.c, newM x.c, [], -1⟩ := rfl
theorem newT_in {s : Int} {x : CmL} {w : World} (h : x.In w) : (newT s x).In w :=
  ⟨h, ⟨⟨rfl, Nat.le_refl _, fun _ => ⟨rfl, rfl⟩, fun h => absurd h (Nat.lt_irrefl 0)⟩, ⟨rfl, Nat.le_refl _, fun _ => ⟨rfl, rfl⟩, fun h => absurd h (Nat.lt_irrefl 0)⟩, ⟨rfl, Nat.le_refl _, fun _ => ⟨rfl, rfl⟩, fun h => absurd h (Nat.lt_irrefl 0)⟩⟩, rfl, rfl, fun b hb => by cases hb⟩

theorem exec_noneTk (ρ : Operand → Value) (w : World) (o : Oper) (ho : o.op = .buildSlice 27 0 #[]) : (execOp ρ o).run Try.prog w = .ok (.value (.slice (some ⟨w.heap.size, 0, none⟩) 0 0)) (w.alloc (.cells #[] 41)) := by
  unfold execOp
  simp only [ho]
  go_simp
theorem exec_singTk (ρ : Operand → Value) (w : World) (o : Oper) (x : Operand) (t : TkL) (ho : o.op = .buildSlice 27 1 #[(0, x)]) (hx : ρ x = .agg (tkA t)) : (execOp ρ o).run Try.prog w = .ok (.value (.slice (some ⟨w.heap.size, 0, none⟩) 1 1)) (w.alloc (.cells (tkA t) 41)) := by
  unfold execOp
  simp only [ho]
  go_simp
  try rw [hx]
  try go_simp

set_option maxHeartbeats 8000000 in
set_option maxRecDepth 100000 in
theorem radd16_any (l : List TkL) (A : Option Addr) (n c : Nat) (x : CmL) (s : Int) (w : World) (h : Tks w A c l) (hN : l.length = n) (hx : x.In w) (hz : n ≤ 1000) :
    Calls Try.prog 10 #[.slice A n c, .agg (cmlC x).toArray, .int .i64 s] w (TkPost (l ++ [newT s x]) w) := by
  obtain ⟨i0, hi0, hz0, hz1, hz2⟩ := infoTsk
  have BA := below_alloc1 w (.cells (cmlC x).toArray 33)
  have CC0 := Bk.new w 33 (cmlC x).toArray
  have HL := (h.below BA).1
  rw [hN] at HL
  have HN := Lib.hid hN
  have HI := Lib.hid h.2
  have HX := Lib.hid hx
  obtain ⟨W0, hW0⟩ : ∃ W0, W0 = w.alloc (.cells (cmlC x).toArray 33) := ⟨_, rfl⟩
  rw [← hW0] at BA CC0 HL
  have B0 := Lib.hid BA
  have hBX : Hid (∀ X, TurnK W0.heap.size 41 (n * 18) (tkC (newT s x)) W0 X → W0.heap.size ≤ X.heap.size) := Lib.hid (fun X hX => hX.1.size)
  have CC : Hid (∀ X, TurnK W0.heap.size 41 (n * 18) (tkC (newT s x)) W0 X → X.cell? ⟨w.heap.size, 0, none⟩ = some (.slice x.ra x.nr x.rc) ∧ X.cell? ⟨w.heap.size, 1, none⟩ = some (.slice x.wa x.nw x.wc) ∧ X.cell? ⟨w.heap.size, 2, none⟩ = some (.slice x.aa x.na x.ac) ∧ X.cell? ⟨w.heap.size, 3, none⟩ = some (.int .i64 x.c.fuel) ∧ X.cell? ⟨w.heap.size, 4, none⟩ = some (.slice x.ca x.nc x.cc) ∧ w.heap.size < X.heap.size) := Lib.hid (fun X hX => by
    have hb := CC0.below hX.1
    exact ⟨hb.cell 0, hb.cell 1, hb.cell 2, hb.cell 3, hb.cell 4, hb.lt⟩)
  have SL : Hid (∀ X, TurnK W0.heap.size 41 (n * 18) (tkC (newT s x)) W0 X → Sl X 18 A n c (tksW l)) := Lib.hid (fun X hX => Sl.below HL hX.1)
  have hw : W0.heap.size = w.heap.size + 1 := by rw [hW0, World.size_alloc]
  have hlen := tksW_length l
  rw [hN] at hlen
  have HLEN := Lib.hid hlen
  clear h hN hx BA CC0 HL hlen
  have HW := Lib.hid hW0
  go_enter Try.func10, Try.ntmps10
  go_wp2
  rw [← HW.out]
  clear hW0
  try simp only [List.append_eq, List.cons_append, List.nil_append]
  refine wp_region_saysK 10 (fun x' y' => TurnK W0.heap.size 41 (n * 18) (tkC (newT s x)) x' y') TurnK.trans W0 (TurnK.of (Nat.le_refl _) (below_drew1 W0)) (by kernel_rfl) (by kernel_rfl) (by kernel_rfl) (by kernel_rfl) (by rfl) ?_
  simp only [List.take_succ_cons, List.take_zero, List.drop_succ_cons, List.drop_zero]
  refine walkK_new (recV W0.heap.size 41 18 0 []) (by first | exact gs0 rfl | exact gs1 rfl rfl rfl) (fun v x' y' hb h => recV_turn (Nat.zero_le _) v x' y' hb h) (fun u X hX hd => ⟨_, _, exec_noneTk _ _ _ rfl, TurnK.of (hBX.out X hX) (below_alloc1 _ _), _, _, rfl, World.ownsRow_lit X #[] 0 (hBX.out X hX) (by decide) rfl, fun _ => rfl⟩) ?_
  apply walkK_norm
  · first | (simp only [List.nil_append]; rfl) | simp only [List.nil_append]
  refine walkK_is ?_ (by first | exact gs0 rfl | exact gs1 rfl rfl rfl) (fun _ => TurnK.refl _) (fun u X hX hd => ?_) ?_
  rotate_left
  · skip
    try simp at hd
    go_simp
    try rfl
  apply walkK_norm
  · first | (simp only [List.nil_append, List.cons_append]; rfl) | simp only [List.nil_append, List.cons_append]
  refine walkK_new (recV W0.heap.size 41 18 n (tksW l)) (by first | exact gs0 rfl | exact gs1 rfl rfl rfl) (fun v x' y' hb h => recV_turn (Nat.le_refl _) v x' y' hb h) (fun u X hX hd => ?_) ?_
  · simp at hd
    obtain ⟨⟨A0, c0, hv, ho, hc0⟩, h4⟩ := hd
    obtain ⟨v', w', hr, hT, A1, c1, hv1, ho1, hz1'⟩ := run_append_recs (P := Try.prog) X 27 27 W0.heap.size 41 i0 _ 18 256 Try.underlying27 hi0 hz0 hz1 hz2 rfl (by decide) (hBX.out X hX) A0 0 c0 [] ho hc0 A n c (tksW l) (SL.out X hX) (tksW_one l) (by unfold maxLen; omega) (by omega)
    rw [Nat.zero_mul] at hT
    rw [Nat.zero_add] at hv1 ho1 hz1'
    rw [List.nil_append] at ho1
    exact ⟨v', w', exec_append _ _ _ _ _ _ rfl (by go_simp; try exact hv) (by go_simp; try exact h4) hr, hT.zero, A1, c1, hv1, ho1, hz1'⟩
  apply walkK_norm
  · first | (simp only [List.nil_append, List.cons_append]; rfl) | simp only [List.nil_append, List.cons_append]
  refine walkK_is ?_ (by first | exact gs0 rfl | exact gs1 rfl rfl rfl) (fun _ => TurnK.refl _) (fun u X hX hd => ?_) ?_
  rotate_left
  · skip
    try simp at hd
    go_simp
    try rfl
  apply walkK_norm
  · first | (simp only [List.nil_append, List.cons_append]; rfl) | simp only [List.nil_append, List.cons_append]
  refine walkK_is ?_ (by first | exact gs0 rfl | exact gs1 rfl rfl rfl) (fun _ => TurnK.refl _) (fun u X hX hd => ?_) ?_
  rotate_left
  · obtain ⟨q0, q1, q2, q3, q4, ql⟩ := CC.out X hX
    try simp at hd
    go_simp
    try rfl
  apply walkK_norm
  · first | (simp only [List.nil_append, List.cons_append]; rfl) | simp only [List.nil_append, List.cons_append]
  refine walkK_is ?_ (by first | exact gs0 rfl | exact gs1 rfl rfl rfl) (fun _ => TurnK.refl _) (fun u X hX hd => ?_) ?_
  rotate_left
  · obtain ⟨q0, q1, q2, q3, q4, ql⟩ := CC.out X hX
    try simp at hd
    go_simp
    try rfl
  apply walkK_norm
  · first | (simp only [List.nil_append, List.cons_append]; rfl) | simp only [List.nil_append, List.cons_append]
  refine walkK_call (isV (.agg (mC 0 x.c.fuel (.slice none 0 0) 0 0 0 0 (.slice none 0 0) false 0))) 33 ?_ (by first | exact gs0 rfl | exact gs1 rfl rfl rfl) (fun _ _ _ _ h => h) (fun u X hX hd => ?_) (fun X hX => ?_) ?_
  rotate_left
  · try simp at hd
    go_simp
    try rfl
  · exact (rmnew_any x.ra x.nr x.rc x.wa x.nw x.wc x.aa x.na x.ac x.c.fuel x.ca x.nc x.cc X).mono fun e X' ⟨he, hb⟩ => ⟨_, he, TurnK.of (hBX.out X hX) hb, rfl⟩
  apply walkK_norm
  · first | (simp only [List.nil_append, List.cons_append]; rfl) | simp only [List.nil_append, List.cons_append]
  refine walkK_is (.agg (tkA (newT s x))) (by first | exact gs0 rfl | exact gs1 rfl rfl rfl) (fun _ => TurnK.refl _) (fun u X hX hd => ?_) ?_
  · skip
    try simp at hd
    go_simp
    simp [newT, newM, rg]
  apply walkK_norm
  · first | (simp only [List.nil_append, List.cons_append]; rfl) | simp only [List.nil_append, List.cons_append]
  refine walkK_new (recV W0.heap.size 41 18 1 (tkC (newT s x))) (by first | exact gs0 rfl | exact gs1 rfl rfl rfl) (fun v x' y' hb h => recV_sing (by omega) v x' y' hb h) (fun u X hX hd => ⟨_, _, exec_singTk _ _ _ _ (newT s x) rfl (by (try simp at hd); go_simp; try exact hd), TurnK.of (hBX.out X hX) (below_alloc1 _ _), _, _, rfl, World.ownsRow_lit X (tkA (newT s x)) 1 (hBX.out X hX) (by decide) rfl, fun h => absurd h (by decide)⟩) ?_
  apply walkK_norm
  · first | (simp only [List.nil_append, List.cons_append]; rfl) | simp only [List.nil_append, List.cons_append]
  refine walkK_new (recV W0.heap.size 41 18 (n + 1) (tksW l ++ tkC (newT s x))) (by first | exact gs0 rfl | exact gs1 rfl rfl rfl) (fun v x' y' hb h => recV_more (m := 1) HLEN.out rfl v x' y' hb h) (fun u X hX hd => ?_) ?_
  · simp at hd
    obtain ⟨⟨A0, c0, hv, ho, hc0⟩, ⟨A2, c2, hv2, ho2, -⟩, -⟩ := hd
    obtain ⟨v', w', hr, hT, hV⟩ := run_append_recs (P := Try.prog) X 27 27 W0.heap.size 41 i0 _ 18 256 Try.underlying27 hi0 hz0 hz1 hz2 rfl (by decide) (hBX.out X hX) A0 n c0 (tksW l) ho hc0 A2 1 c2 (tkC (newT s x)) (Sl.own' ho2) (tkC_one _) (by unfold maxLen; omega) (by omega)
    exact ⟨v', w', exec_append _ _ _ _ _ _ rfl (by go_simp; try exact hv) (by go_simp; try exact hv2) hr, hT, hV⟩
  apply walkK_norm
  · first | (simp only [List.nil_append, List.cons_append]; rfl) | simp only [List.nil_append, List.cons_append]
  intro u X hX hsay
  simp only [sayAll, isV] at hsay
  obtain ⟨-, -, -, -, -, -, -, -, -, v9, -⟩ := hsay
  obtain ⟨A3, c3, v9, hO, -⟩ := v9
  simp only [putAll, Act.put, v9, List.setIfInBounds_toArray, List.set_cons_succ, List.set_cons_zero, Nat.zero_add, Nat.reduceAdd]
  have hb := bnext B0.out hX.1
  have hP : Hid (TkOwn w.heap.size X A3 (n + 1) c3 (l ++ [newT s x])) := Lib.hid ⟨by rw [List.length_append, HN.out]; rfl, by rw [tksW_append, tksW_sing]; exact own_lower hO (by omega), fun t ht => by
    rcases List.mem_append.1 ht with q | q
    · exact (HI.out t q).below hb
    · rw [List.mem_singleton] at q
      rw [q]
      exact newT_in (HX.out.below hb)⟩
  have HB := Lib.hid hb
  clear hO hb hX v9
  go_wp2
  go_ret
  exact ⟨_, _, _, rfl, hP.out, HB.out⟩

end Go.Proofs.Ytldljohholgmoaa
