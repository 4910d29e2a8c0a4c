/-
  What run.Tells, foremanref11.Tells and foremanref11.Same answer, in whatever memory. No conditions but those that stand there.
-/
import Derived.Test.YtibmfhmeoohdeaaQMchM
import Derived.Test.YtibmfhmeoohdeaaQRely
namespace Go.Proofs.Ytibmfhmeoohdeaa
open Go.RowKit
attribute [local go_sem] look findAt
attribute [local simp] depsOf isV Region.binds

/-- a result's cells. -/
abbrev rC (seq told : Int) (S : Value) : Array Value := #[.int .i64 seq, .int .i64 told, S]
theorem infoRs : (Try.prog.info? 31).map (·.size) = some 3 := by kernel_rfl

section
variable {ops : Array Oper} {rest : List Oper} {o : Oper} {a : Act} {w : World} {Q : Exit → Act → World → Prop}
theorem ld_rs (g : Nat) {seq told : Int} {S : Value} (hk : Bk w g 31 (rC seq told S)) (x : Operand) (hgd : o.guard = none) (ho : o.op = .load 31 x) (hx : a.eval x = .pointer (some ⟨g, 0, none⟩))
    (h : wpList Try.prog ops Q rest (a.put o.dst (.agg (rC seq told S))) w) : wpList Try.prog ops Q (o :: rest) a w :=
  wpList_load_row hgd _ x ho g hx _ _ (0, 0) _ hk Try.underlying31 rfl infoRs h
theorem st_rs (g : Nat) {seq told : Int} {S : Value} {seq' told' : Int} {S' : Value} (hk : Bk w g 31 (rC seq' told' S'))
    (hS : S.oneCell' = true) (x y : Operand) (hgd : o.guard = none) (ho : o.op = .store 31 x y) (hx : a.eval x = .pointer (some ⟨g, 0, none⟩)) (hy : a.eval y = .agg (rC seq told S))
    (h : wpList Try.prog ops Q rest (a.put o.dst undef) (w.setRow g (rC seq told S))) : wpList Try.prog ops Q (o :: rest) a w :=
  wpList_store_row hgd _ x y ho g _ hx hy _ _ hk infoRs rfl (by simp [Value.oneCell']; exact hS) h
end

theorem res_rs {fn : Func} {p : Tmp} (hf : fn.results = #[.cell p 31]) (tmps : Array Value) (w : World) (g : Nat) {seq told : Int} {S : Value}
    (hp : tmps.getD p undef = .pointer (some ⟨g, 0, none⟩)) (hk : Bk w g 31 (rC seq told S)) : (results fn tmps).run Try.prog w = .ok (.agg (rC seq told S)) w :=
  results_cell_row hf tmps w g _ _ (0, 0) _ hp hk Try.underlying31 rfl infoRs

abbrev rsZ : Array Value := rC 0 0 (.slice none 0 0)
abbrev tW (cs : Array Value) (w : World) : World := (w.alloc (.cells cs 54)).alloc (.cells rsZ 31)
theorem tW_is (cs : Array Value) (w : World) : Below w.heap.size w (tW cs w) ∧ Bk (tW cs w) w.heap.size 54 cs ∧ Bk (tW cs w) (w.heap.size + 1) 31 rsZ := by
  refine ⟨bnext (below_alloc1 _ _) (below_alloc1 _ _), (Bk.new w _ _).alloc _, ?_⟩
  have := Bk.new (w.alloc (.cells cs 54)) 31 rsZ
  rwa [World.size_alloc] at this

/-- a result in memory. -/
def RsPost (seq told : Int) (ou : List Int) (w : World) (e : Ending) (w' : World) : Prop :=
  ∃ A n c, e = .returned (.agg (rC seq told (.slice A n c))) ∧ Sl w' 1 A n c (ou.map (.int .i64)) ∧ Below w.heap.size w w'

section
variable (seq pc fuel : Int) (sA : Option Addr) (sn sc : Nat) (r0 r1 r2 r3 : Int) (oA : Option Addr) (on oc : Nat) (ov : Bool) (e0 : Int)

set_option maxHeartbeats 2000000 in
theorem tells_any (ou : List Int) (w : World) (hO : Sl w 1 oA on oc (ou.map (.int .i64))) (hon : on ≤ 1000) :
    Calls Try.prog 24 #[.int .i64 seq, .agg (mC pc fuel (.slice sA sn sc) r0 r1 r2 r3 (.slice oA on oc) ov e0)] w (RsPost seq e0 ou w) := by
  obtain ⟨t1, t2, t3⟩ := tW_is (mC pc fuel (.slice sA sn sc) r0 r1 r2 r3 (.slice oA on oc) ov e0) w
  obtain ⟨wr, hW⟩ : ∃ W, W = (w.alloc (.cells (mC pc fuel (.slice sA sn sc) r0 r1 r2 r3 (.slice oA on oc) ov e0) 54)).alloc (.cells #[.int .i64 0, .int .i64 0, .slice none 0 0] 31) := ⟨_, rfl⟩
  rw [show tW (mC pc fuel (.slice sA sn sc) r0 r1 r2 r3 (.slice oA on oc) ov e0) w = wr from hW.symm] at t1 t2 t3
  have cl := Lib.hid (fun (W : World) (hW : Below wr.heap.size wr W) => rowV_call (B := wr.heap.size) hW.size (clone_ints oA on oc _ W (hO.below (bnext t1 hW)) hon (ints_oneC ou)))
  have B0 := Lib.hid t1
  have X0 := Lib.hid t2
  have R0 := Lib.hid t3
  have la : Hid (∀ X, Below wr.heap.size wr X → X.cell? ⟨w.heap.size, 9, none⟩ = some (.int .i64 e0) ∧ X.cell? ⟨w.heap.size, 7, none⟩ = some (.slice oA on oc)) := Lib.hid (fun X hX => ⟨(X0.out.below hX).cell 9, (X0.out.below hX).cell 7⟩)
  clear t1 t2 t3 hO
  go_enter Try.func24, Try.ntmps24
  go_wp2
  rw [← hW]
  clear hW
  try simp only [List.append_eq, List.cons_append, List.nil_append]
  refine wp_region_saysK 6 (fun x y => Below x.heap.size x y) (fun _ _ _ h k => bnext h k) wr (below_drew1 wr) (by kernel_rfl) (by kernel_rfl) (by kernel_rfl) (by kernel_rfl) (by rfl) ?_
  simp only [List.take_succ_cons, List.take_zero, List.drop_succ_cons, List.drop_zero]
  refine walkK_is ?_ (by first | exact gs0 rfl | exact gs1 rfl rfl rfl) (fun _ => Below.refl _ _) (fun u X hX hd => ?_) ?_
  rotate_left
  · obtain ⟨e1, e2⟩ := la.out X hX
    try simp at hd
    go_simp
    try rfl
  apply walkK_norm
  · first | (simp only [List.nil_append]; rfl) | simp only [List.nil_append]
  refine walkK_is ?_ (by first | exact gs0 rfl | exact gs1 rfl rfl rfl) (fun _ => Below.refl _ _) (fun u X hX hd => ?_) ?_
  rotate_left
  · obtain ⟨e1, e2⟩ := la.out X hX
    try simp at hd
    go_simp
    try rfl
  apply walkK_norm
  · first | (simp only [List.nil_append, List.cons_append]; rfl) | simp only [List.nil_append, List.cons_append]
  refine walkK_is ?_ (by first | exact gs0 rfl | exact gs1 rfl rfl rfl) (fun _ => Below.refl _ _) (fun u X hX hd => ?_) ?_
  rotate_left
  · obtain ⟨e1, e2⟩ := la.out X hX
    try simp at hd
    go_simp
    try rfl
  apply walkK_norm
  · first | (simp only [List.nil_append, List.cons_append]; rfl) | simp only [List.nil_append, List.cons_append]
  refine walkK_is ?_ (by first | exact gs0 rfl | exact gs1 rfl rfl rfl) (fun _ => Below.refl _ _) (fun u X hX hd => ?_) ?_
  rotate_left
  · obtain ⟨e1, e2⟩ := la.out X hX
    try simp at hd
    go_simp
    try rfl
  apply walkK_norm
  · first | (simp only [List.nil_append, List.cons_append]; rfl) | simp only [List.nil_append, List.cons_append]
  refine walkK_is ?_ (by first | exact gs0 rfl | exact gs1 rfl rfl rfl) (fun _ => Below.refl _ _) (fun u X hX hd => ?_) ?_
  rotate_left
  · obtain ⟨e1, e2⟩ := la.out X hX
    try simp at hd
    go_simp
    try rfl
  apply walkK_norm
  · first | (simp only [List.nil_append, List.cons_append]; rfl) | simp only [List.nil_append, List.cons_append]
  refine walkK_call (rowV wr.heap.size 3 1 on (ou.map (.int .i64))) 35 ?_ (by first | exact gs0 rfl | exact gs1 rfl rfl rfl) (fun v x y hb h => rowV_keep v x y hb h) (fun u X hX hd => ?_) (fun X hX => ?_) ?_
  rotate_left
  · obtain ⟨e1, e2⟩ := la.out X hX
    try simp at hd
    go_simp
    try rfl
  · exact (cl.out X hX).mono fun e X' ⟨v, he, hb, ho, _⟩ => ⟨v, he, hb, ho⟩
  apply walkK_norm
  · first | (simp only [List.nil_append, List.cons_append]; rfl) | simp only [List.nil_append, List.cons_append]
  intro u X hX hsay
  simp only [sayAll, isV] at hsay
  obtain ⟨v0, v1, v2, v3, v4, ⟨A', c', v5, hs2⟩, -⟩ := hsay
  have R2 := Lib.hid (R0.out.below hX)
  have S2 := Lib.hid (Sl.own' hs2)
  have O2 := Lib.hid (own_offA hs2 (G := w.heap.size + 1) R0.out.lt)
  have B2 := Lib.hid (bnext B0.out hX)
  simp only [putAll, Act.put, v0, v1, v2, v3, v4, v5, List.setIfInBounds_toArray, List.set_cons_succ, List.set_cons_zero]
  clear hs2 v0 v1 v2 v3 v4 v5 cl la
  go_wp2_with (with_reducible refine st_rs (w.heap.size + 1) R2.out rfl _ _ rfl rfl rfl rfl ?_)
  exact bodyPost_ret (v := .agg (rC seq e0 (.slice A' on c'))) (res_rs rfl _ _ (w.heap.size + 1) rfl (Bk.setRow R2.out _)) rfl ⟨_, _, _, rfl, S2.out.offSet O2.out (by simp) (fun k hk _ => setRow_other X (w.heap.size + 1) k _ hk), below_row B2.out (by omega) _⟩

theorem rtells_any (w : World) :
    Calls Try.prog 26 #[.int .i64 seq, .agg (mC pc fuel (.slice sA sn sc) r0 r1 r2 r3 (.slice oA on oc) ov e0)] w fun e w' => e = .returned (.agg (rC seq e0 (.slice oA on oc))) ∧ Below w.heap.size w w' := by
  obtain ⟨t1, t2, t3⟩ := tW_is (mC pc fuel (.slice sA sn sc) r0 r1 r2 r3 (.slice oA on oc) ov e0) w
  have B0 := Lib.hid t1
  have R0 := Lib.hid t3
  clear t1 t2 t3
  go_enter Try.func26, Try.ntmps26
  go_wp2_with (with_reducible refine st_rs (w.heap.size + 1) R0.out rfl _ _ rfl rfl rfl rfl ?_)
  exact bodyPost_ret (v := .agg (rC seq e0 (.slice oA on oc))) (res_rs rfl _ _ (w.heap.size + 1) rfl (Bk.setRow R0.out _)) rfl ⟨rfl, below_row B0.out (by omega) _⟩

end

abbrev rs2 (cs cs' : Array Value) (w : World) : World := (w.alloc (.cells cs 31)).alloc (.cells cs' 31)
theorem rs2_box (cs cs' : Array Value) (w : World) : Bk (rs2 cs cs' w) w.heap.size 31 cs ∧ Bk (rs2 cs cs' w) (w.heap.size + 1) 31 cs' ∧ Below w.heap.size w (rs2 cs cs' w) := by
  refine ⟨(Bk.new w _ _).alloc _, ?_, bnext (below_alloc1 _ _) (below_alloc1 _ _)⟩
  have := Bk.new (w.alloc (.cells cs 31)) 31 cs'
  rwa [World.size_alloc] at this

set_option maxHeartbeats 2000000 in
theorem rsameR_yes (seq told : Int) (ou : List Int) (A A' : Option Addr) (n c c' : Nat) (w : World) (h : Sl w 1 A n c (ou.map (.int .i64))) (h' : Sl w 1 A' n c' (ou.map (.int .i64))) (hn : n ≤ 1000000) :
    Calls Try.prog 13 #[.agg (rC seq told (.slice A n c)), .agg (rC seq told (.slice A' n c'))] w fun e w' => e = .returned (.bool true) ∧ Below w.heap.size w w' := by
  have q1 := h.2.1
  have q2 := h'.2.1
  have HS := Lib.hid h
  have HS' := Lib.hid h'
  obtain ⟨x1, x2, x3⟩ := rs2_box (rC seq told (.slice A n c)) (rC seq told (.slice A' n c')) w
  have X := Lib.hid x1
  have Y := Lib.hid x2
  have B0 := Lib.hid x3
  clear x1 x2 x3 h h'
  go_enter Try.func13, Try.ntmps13
  go_wp2
  go_loopw [5] (fun cc wr => ∃ k : Nat, k ≤ n ∧ cc = .int .i64 k ∧ Hid (Below w.heap.size w wr) ∧ Hid (Bk wr w.heap.size 31 (rC seq told (.slice A n c))) ∧ Hid (Bk wr (w.heap.size + 1) 31 (rC seq told (.slice A' n c')))) (fun cc _ => n - (intOf cc).toNat)
  case atStart => exact ⟨0, Nat.zero_le _, rfl, B0, X, Y⟩
  case round =>
    obtain ⟨k, hk, rfl, HB, HX, HY⟩ := hrel
    have c0 := HX.out.cell 2
    have c1 := HY.out.cell 2
    have l1 := HY.out.lt
    simp only [List.getElem?_toArray, List.getElem?_cons_zero, List.getElem?_cons_succ] at c0 c1
    by_cases hlt : k < n
    · have d1 : (k : Int) < (n : Int) := by omega
      have d2 : (k : Int) < (c : Int) := by omega
      have d3 : (k : Int) < (c' : Int) := by omega
      obtain ⟨b, off, rfl, hb, hv⟩ := (HS.out.below HB.out).int hlt
      obtain ⟨b', off', rfl, hb', hv'⟩ := (HS'.out.below HB.out).int hlt
      generalize ou[k]?.getD 0 = v at *
      go_wp2
      go_quiet (fail)
      go_wp2
      go_roundw
      case rel => exact ⟨k + 1, by omega, by go_num, Lib.hid (bnext HB.out (drewN_below _ _)), Lib.hid (HX.out.drewN _), Lib.hid (HY.out.drewN _)⟩
      case measure => simp [intOf]; omega
    · obtain rfl : k = n := by omega
      clear hlt
      go_wp2
      go_ret
      exact ⟨rfl, HB.out⟩

end Go.Proofs.Ytibmfhmeoohdeaa
