/-
  Words and contracts of this claim, 4 texts laid into one, each under its own remark. No conditions but those that stand at each.
-/
import Derived.Test.YtoomadafgkcebaaZMacV
import Derived.Test.YtoomadafgkcebaaZMchS
import Derived.Test.YtoomadafgkcebaaQRely
import Derived.Test.YtoomadafgkcebaaQRowT
import Derived.Test.YtoomadafgkcebaaZRunQ

/-
  What run.Tells, foremanref11.Tells and foremanref11.Same answer, in whatever memory. No conditions but those that stand there.
-/
namespace Go.Proofs.Ytoomadafgkcebaa
open Go.RowKit
attribute [local go_sem] look findAt
attribute [local simp] depsOf isV Region.binds

/-- a result's cells. -/
abbrev rC (seq told : Int) (S : Value) : Array Value := #[.int .i64 seq, .int .i64 told, S]
theorem infoRs : (Try.prog.info? 41).map (·.size) = some 3 := by kernel_rfl

section
variable {ops : Array Oper} {rest : List Oper} {o : Oper} {a : Act} {w : World} {Q : Exit → Act → World → Prop}
theorem ld_rs (g : Nat) {seq told : Int} {S : Value} (hk : Bk w g 41 (rC seq told S)) (x : Operand) (hgd : o.guard = none) (ho : o.op = .load 41 x) (hx : a.eval x = .pointer (some ⟨g, 0, none⟩))
    (h : wpList Try.prog ops Q rest (a.put o.dst (.agg (rC seq told S))) w) : wpList Try.prog ops Q (o :: rest) a w :=
  wpList_load_row hgd _ x ho g hx _ _ (0, 0) _ hk Try.underlying41 rfl infoRs h
theorem st_rs (g : Nat) {seq told : Int} {S : Value} {seq' told' : Int} {S' : Value} (hk : Bk w g 41 (rC seq' told' S'))
    (hS : S.oneCell' = true) (x y : Operand) (hgd : o.guard = none) (ho : o.op = .store 41 x y) (hx : a.eval x = .pointer (some ⟨g, 0, none⟩)) (hy : a.eval y = .agg (rC seq told S))
    (h : wpList Try.prog ops Q rest (a.put o.dst undef) (w.setRow g (rC seq told S))) : wpList Try.prog ops Q (o :: rest) a w :=
  wpList_store_row hgd _ x y ho g _ hx hy _ _ hk infoRs rfl (by simp [Value.oneCell']; exact hS) h
end

theorem res_rs {fn : Func} {p : Tmp} (hf : fn.results = #[.cell p 41]) (tmps : Array Value) (w : World) (g : Nat) {seq told : Int} {S : Value}
    (hp : tmps.getD p undef = .pointer (some ⟨g, 0, none⟩)) (hk : Bk w g 41 (rC seq told S)) : (results fn tmps).run Try.prog w = .ok (.agg (rC seq told S)) w :=
  results_cell_row hf tmps w g _ _ (0, 0) _ hp hk Try.underlying41 rfl infoRs

abbrev rsZ : Array Value := rC 0 0 (.slice none 0 0)
abbrev tW (cs : Array Value) (w : World) : World := (w.alloc (.cells cs 32)).alloc (.cells rsZ 41)
theorem tW_is (cs : Array Value) (w : World) : Below w.heap.size w (tW cs w) ∧ Bk (tW cs w) w.heap.size 32 cs ∧ Bk (tW cs w) (w.heap.size + 1) 41 rsZ := by
  refine ⟨bnext (below_alloc1 _ _) (below_alloc1 _ _), (Bk.new w _ _).alloc _, ?_⟩
  have := Bk.new (w.alloc (.cells cs 32)) 41 rsZ
  rwa [World.size_alloc] at this

/-- a result in memory. -/
def RsPost (seq told : Int) (ou : List Int) (w : World) (e : Ending) (w' : World) : Prop :=
  ∃ A n c, e = .returned (.agg (rC seq told (.slice A n c))) ∧ Sl w' 1 A n c (ou.map (.int .i64)) ∧ Below w.heap.size w w'

section
variable (seq pc fuel : Int) (sA : Option Addr) (sn sc : Nat) (r0 r1 r2 r3 : Int) (oA : Option Addr) (on oc : Nat) (ov : Bool) (e0 : Int)

set_option maxHeartbeats 2000000 in
theorem tells_any (ou : List Int) (w : World) (hO : Sl w 1 oA on oc (ou.map (.int .i64))) (hon : on ≤ 1000) :
    Calls Try.prog 16 #[.int .i64 seq, .agg (mC pc fuel (.slice sA sn sc) r0 r1 r2 r3 (.slice oA on oc) ov e0)] w (RsPost seq e0 ou w) := by
  obtain ⟨t1, t2, t3⟩ := tW_is (mC pc fuel (.slice sA sn sc) r0 r1 r2 r3 (.slice oA on oc) ov e0) w
  obtain ⟨wr, hW⟩ : ∃ W, W = (w.alloc (.cells (mC pc fuel (.slice sA sn sc) r0 r1 r2 r3 (.slice oA on oc) ov e0) 32)).alloc (.cells #[.int .i64 0, .int .i64 0, .slice none 0 0] 41) := ⟨_, rfl⟩
  rw [show tW (mC pc fuel (.slice sA sn sc) r0 r1 r2 r3 (.slice oA on oc) ov e0) w = wr from hW.symm] at t1 t2 t3
  have cl := Lib.hid (fun (W : World) (hW : Below wr.heap.size wr W) => rowV_call (B := wr.heap.size) hW.size (clone_ints oA on oc _ W (hO.below (bnext t1 hW)) hon (ints_oneC ou)))
  have B0 := Lib.hid t1
  have X0 := Lib.hid t2
  have R0 := Lib.hid t3
  have la : Hid (∀ X, Below wr.heap.size wr X → X.cell? ⟨w.heap.size, 9, none⟩ = some (.int .i64 e0) ∧ X.cell? ⟨w.heap.size, 7, none⟩ = some (.slice oA on oc)) := Lib.hid (fun X hX => ⟨(X0.out.below hX).cell 9, (X0.out.below hX).cell 7⟩)
  clear t1 t2 t3 hO
  go_enter Try.func16, Try.ntmps16
  go_wp2
  rw [← hW]
  clear hW
  try simp only [List.append_eq, List.cons_append, List.nil_append]
  refine wp_region_saysK 6 (fun x y => Below x.heap.size x y) (fun _ _ _ h k => bnext h k) wr (below_drew1 wr) (by kernel_rfl) (by kernel_rfl) (by kernel_rfl) (by kernel_rfl) (by rfl) ?_
  simp only [List.take_succ_cons, List.take_zero, List.drop_succ_cons, List.drop_zero]
  refine walkK_is ?_ (by first | exact gs0 rfl | exact gs1 rfl rfl rfl) (fun _ => Below.refl _ _) (fun u X hX hd => ?_) ?_
  rotate_left
  · obtain ⟨e1, e2⟩ := la.out X hX
    try simp at hd
    go_simp
    try rfl
  apply walkK_norm
  · first | (simp only [List.nil_append]; rfl) | simp only [List.nil_append]
  refine walkK_is ?_ (by first | exact gs0 rfl | exact gs1 rfl rfl rfl) (fun _ => Below.refl _ _) (fun u X hX hd => ?_) ?_
  rotate_left
  · obtain ⟨e1, e2⟩ := la.out X hX
    try simp at hd
    go_simp
    try rfl
  apply walkK_norm
  · first | (simp only [List.nil_append, List.cons_append]; rfl) | simp only [List.nil_append, List.cons_append]
  refine walkK_is ?_ (by first | exact gs0 rfl | exact gs1 rfl rfl rfl) (fun _ => Below.refl _ _) (fun u X hX hd => ?_) ?_
  rotate_left
  · obtain ⟨e1, e2⟩ := la.out X hX
    try simp at hd
    go_simp
    try rfl
  apply walkK_norm
  · first | (simp only [List.nil_append, List.cons_append]; rfl) | simp only [List.nil_append, List.cons_append]
  refine walkK_is ?_ (by first | exact gs0 rfl | exact gs1 rfl rfl rfl) (fun _ => Below.refl _ _) (fun u X hX hd => ?_) ?_
  rotate_left
  · obtain ⟨e1, e2⟩ := la.out X hX
    try simp at hd
    go_simp
    try rfl
  apply walkK_norm
  · first | (simp only [List.nil_append, List.cons_append]; rfl) | simp only [List.nil_append, List.cons_append]
  refine walkK_is ?_ (by first | exact gs0 rfl | exact gs1 rfl rfl rfl) (fun _ => Below.refl _ _) (fun u X hX hd => ?_) ?_
  rotate_left
  · obtain ⟨e1, e2⟩ := la.out X hX
    try simp at hd
    go_simp
    try rfl
  apply walkK_norm
  · first | (simp only [List.nil_append, List.cons_append]; rfl) | simp only [List.nil_append, List.cons_append]
  refine walkK_call (rowV wr.heap.size 3 1 on (ou.map (.int .i64))) 24 ?_ (by first | exact gs0 rfl | exact gs1 rfl rfl rfl) (fun v x y hb h => rowV_keep v x y hb h) (fun u X hX hd => ?_) (fun X hX => ?_) ?_
  rotate_left
  · obtain ⟨e1, e2⟩ := la.out X hX
    try simp at hd
    go_simp
    try rfl
  · exact (cl.out X hX).mono fun e X' ⟨v, he, hb, ho, _⟩ => ⟨v, he, hb, ho⟩
  apply walkK_norm
  · first | (simp only [List.nil_append, List.cons_append]; rfl) | simp only [List.nil_append, List.cons_append]
  intro u X hX hsay
  simp only [sayAll, isV] at hsay
  obtain ⟨v0, v1, v2, v3, v4, ⟨A', c', v5, hs2⟩, -⟩ := hsay
  have R2 := Lib.hid (R0.out.below hX)
  have S2 := Lib.hid (Sl.own' hs2)
  have O2 := Lib.hid (own_offA hs2 (G := w.heap.size + 1) R0.out.lt)
  have B2 := Lib.hid (bnext B0.out hX)
  simp only [putAll, Act.put, v0, v1, v2, v3, v4, v5, List.setIfInBounds_toArray, List.set_cons_succ, List.set_cons_zero]
  clear hs2 v0 v1 v2 v3 v4 v5 cl la
  go_wp2_with (with_reducible refine st_rs (w.heap.size + 1) R2.out rfl _ _ rfl rfl rfl rfl ?_)
  exact bodyPost_ret (v := .agg (rC seq e0 (.slice A' on c'))) (res_rs rfl _ _ (w.heap.size + 1) rfl (Bk.setRow R2.out _)) rfl ⟨_, _, _, rfl, S2.out.offSet O2.out (by simp) (fun k hk _ => setRow_other X (w.heap.size + 1) k _ hk), below_row B2.out (by omega) _⟩

theorem rtells_any (w : World) :
    Calls Try.prog 17 #[.int .i64 seq, .agg (mC pc fuel (.slice sA sn sc) r0 r1 r2 r3 (.slice oA on oc) ov e0)] w fun e w' => e = .returned (.agg (rC seq e0 (.slice oA on oc))) ∧ Below w.heap.size w w' := by
  obtain ⟨t1, t2, t3⟩ := tW_is (mC pc fuel (.slice sA sn sc) r0 r1 r2 r3 (.slice oA on oc) ov e0) w
  have B0 := Lib.hid t1
  have R0 := Lib.hid t3
  clear t1 t2 t3
  go_enter Try.func17, Try.ntmps17
  go_wp2_with (with_reducible refine st_rs (w.heap.size + 1) R0.out rfl _ _ rfl rfl rfl rfl ?_)
  exact bodyPost_ret (v := .agg (rC seq e0 (.slice oA on oc))) (res_rs rfl _ _ (w.heap.size + 1) rfl (Bk.setRow R0.out _)) rfl ⟨rfl, below_row B0.out (by omega) _⟩

end

abbrev rs2 (cs cs' : Array Value) (w : World) : World := (w.alloc (.cells cs 41)).alloc (.cells cs' 41)
theorem rs2_box (cs cs' : Array Value) (w : World) : Bk (rs2 cs cs' w) w.heap.size 41 cs ∧ Bk (rs2 cs cs' w) (w.heap.size + 1) 41 cs' ∧ Below w.heap.size w (rs2 cs cs' w) := by
  refine ⟨(Bk.new w _ _).alloc _, ?_, bnext (below_alloc1 _ _) (below_alloc1 _ _)⟩
  have := Bk.new (w.alloc (.cells cs 41)) 41 cs'
  rwa [World.size_alloc] at this

set_option maxHeartbeats 2000000 in
theorem rsameR_yes (seq told : Int) (ou : List Int) (A A' : Option Addr) (n c c' : Nat) (w : World) (h : Sl w 1 A n c (ou.map (.int .i64))) (h' : Sl w 1 A' n c' (ou.map (.int .i64))) (hn : n ≤ 1000000) :
    Calls Try.prog 15 #[.agg (rC seq told (.slice A n c)), .agg (rC seq told (.slice A' n c'))] w fun e w' => e = .returned (.bool true) ∧ Below w.heap.size w w' := by
  have q1 := h.2.1
  have q2 := h'.2.1
  have HS := Lib.hid h
  have HS' := Lib.hid h'
  obtain ⟨x1, x2, x3⟩ := rs2_box (rC seq told (.slice A n c)) (rC seq told (.slice A' n c')) w
  have X := Lib.hid x1
  have Y := Lib.hid x2
  have B0 := Lib.hid x3
  clear x1 x2 x3 h h'
  go_enter Try.func15, Try.ntmps15
  go_wp2
  go_loopw [5] (fun cc wr => ∃ k : Nat, k ≤ n ∧ cc = .int .i64 k ∧ Hid (Below w.heap.size w wr) ∧ Hid (Bk wr w.heap.size 41 (rC seq told (.slice A n c))) ∧ Hid (Bk wr (w.heap.size + 1) 41 (rC seq told (.slice A' n c')))) (fun cc _ => n - (intOf cc).toNat)
  case atStart => exact ⟨0, Nat.zero_le _, rfl, B0, X, Y⟩
  case round =>
    obtain ⟨k, hk, rfl, HB, HX, HY⟩ := hrel
    have c0 := HX.out.cell 2
    have c1 := HY.out.cell 2
    have l1 := HY.out.lt
    simp only [List.getElem?_toArray, List.getElem?_cons_zero, List.getElem?_cons_succ] at c0 c1
    by_cases hlt : k < n
    · have d1 : (k : Int) < (n : Int) := by omega
      have d2 : (k : Int) < (c : Int) := by omega
      have d3 : (k : Int) < (c' : Int) := by omega
      obtain ⟨b, off, rfl, hb, hv⟩ := (HS.out.below HB.out).int hlt
      obtain ⟨b', off', rfl, hb', hv'⟩ := (HS'.out.below HB.out).int hlt
      generalize ou[k]?.getD 0 = v at *
      go_wp2
      go_quiet (fail)
      go_wp2
      go_roundw
      case rel => exact ⟨k + 1, by omega, by go_num, Lib.hid (bnext HB.out (drewN_below _ _)), Lib.hid (HX.out.drewN _), Lib.hid (HY.out.drewN _)⟩
      case measure => simp [intOf]; omega
    · obtain rfl : k = n := by omega
      clear hlt
      go_wp2
      go_ret
      exact ⟨rfl, HB.out⟩

end Go.Proofs.Ytoomadafgkcebaa

/-
  What run.Whole and run.Some answer: all steps, or so many, in whatever memory. No conditions but those that stand there.
-/
namespace Go.Proofs.Ytoomadafgkcebaa
open Go.RowKit

/-- what all steps answer. -/
def RunPost (r : Mac × Blks) (n : Nat) (w : World) (e : Ending) (w' : World) : Prop :=
  ∃ sA sn sc oA on oc bA bn bc, e = .returned (.tuple #[.agg (mA r.1 sA sn sc oA on oc), .slice bA bn bc, .int .i64 (n : Int)]) ∧ MIn w' r.1.stack r.1.out r.2 sA sn sc oA on oc bA bn bc ∧ Below w.heap.size w w'

theorem res3_row {fn : Func} {p q s : Tmp} {ty : TypeId} (h : fn.results = #[.cell p ty, .tmp q, .tmp s]) (tmps : Array Value) (w : World) (g : Nat) (cs : Array Value) (x y : Value)
    (hp : tmps.getD p undef = .pointer (some ⟨g, 0, none⟩)) (hq : tmps.getD q undef = x) (hs : tmps.getD s undef = y) (hl : (loadVar ty ⟨g, 0, none⟩).run Try.prog w = .ok (.agg cs) w) :
    (results fn tmps).run Try.prog w = .ok (.tuple #[.agg cs, x, y]) w := by
  have hp' : tmps[p]?.getD undef = .pointer (some ⟨g, 0, none⟩) := by simpa using hp
  have hq' : tmps[q]?.getD undef = x := by simpa using hq
  have hs' : tmps[s]?.getD undef = y := by simpa using hs
  simp [results, h, hp', hq', hs', asAddr, hl]

theorem res3_mach {fn : Func} {p q s : Tmp} (hf : fn.results = #[.cell p 32, .tmp q, .tmp s]) (tmps : Array Value) (w : World) (g : Nat) {pc fuel : Int} {S : Value} {r0 r1 r2 r3 : Int} {O : Value} {ov : Bool} {e0 : Int} (x y : Value)
    (hp : tmps.getD p undef = .pointer (some ⟨g, 0, none⟩)) (hq : tmps.getD q undef = x) (hs : tmps.getD s undef = y) (hk : Bk w g 32 (mC pc fuel S r0 r1 r2 r3 O ov e0)) : (results fn tmps).run Try.prog w = .ok (.tuple #[.agg (mC pc fuel S r0 r1 r2 r3 O ov e0), x, y]) w :=
  res3_row hf tmps w g _ x y hp hq hs (run_loadVar_row w g _ _ _ (0, 0) _ hk Try.underlying32 rfl infoMc)

section
variable (ra : Option Addr) (nr rc : Nat) (wa : Option Addr) (nw wc : Nat) (aa : Option Addr) (na ac : Nat) (ca : Option Addr) (nc cc : Nat)

set_option maxHeartbeats 4000000 in
theorem whole_any (c : Cmd) (own : Blks) (n : Nat) (bA : Option Addr) (bn bc : Nat) (w : World) (hC : CmIn w c ra nr rc wa nw wc aa na ac ca nc cc) (hO : Sl w 8 bA bn bc (blksW own)) (hn : n ≤ 1000) (hE : Ends c (newM c, own) n)
    (hfit : ∀ k, k < n → Fit c (stepsM c k (newM c, own)).1 (stepsM c k (newM c, own)).2) :
    Calls Try.prog 9 #[cmV ra nr rc wa nw wc aa na ac c.fuel ca nc cc, .slice bA bn bc] w (RunPost (stepsM c n (newM c, own)) n w) := by
  have W1 := Lib.hid (bnext (below_alloc1 w (CmObj ra nr rc wa nw wc aa na ac c.fuel ca nc cc)) (below_alloc1 _ (.cells mZ 32)))
  have C1 : Hid (Bk ((w.alloc (CmObj ra nr rc wa nw wc aa na ac c.fuel ca nc cc)).alloc (.cells mZ 32)) w.heap.size 25 #[.slice ra nr rc, .slice wa nw wc, .slice aa na ac, .int .i64 c.fuel, .slice ca nc cc]) := Lib.hid ((Bk.new w _ _).alloc _)
  have R1 : Hid (Bk ((w.alloc (CmObj ra nr rc wa nw wc aa na ac c.fuel ca nc cc)).alloc (.cells mZ 32)) (w.heap.size + 1) 32 mZ) := Lib.hid (by
    have := Bk.new (w.alloc (CmObj ra nr rc wa nw wc aa na ac c.fuel ca nc cc)) 32 mZ
    rwa [World.size_alloc] at this)
  have hnw := Lib.hid (fun W => mnew_any ra nr rc wa nw wc aa na ac c.fuel ca nc cc W)
  have HF := Lib.hid hfit
  have HE := Lib.hid hE
  have HC := Lib.hid hC
  have HO := Lib.hid hO
  have hst := Lib.hid (fun (r : Mac × Blks) (hf : Fit c r.1 r.2) (W : World) (hW : Below w.heap.size w W) (sA : Option Addr) (sn sc : Nat) (oA : Option Addr) (on oc : Nat) (bA : Option Addr) (bn bc : Nat) hM => step_any ra nr rc wa nw wc aa na ac ca nc cc sA sn sc oA on oc bA bn bc c r.1 r.2 W hf (hC.below hW) hM)
  have hsu := Lib.hid (fun k => steps_succ c k (newM c, own))
  have h0 := Lib.hid (show stepsM c 0 (newM c, own) = (newM c, own) from rfl)
  have hnf := Lib.hid (show (newM c).fuel = c.fuel from rfl)
  clear hfit hC hO hE
  go_enter Try.func9, Try.ntmps9
  go_wp2_with (first
    | (go_at_call 20; go_must ((with_reducible refine (hnw.out _).mono ?_); rintro e w1 ⟨rfl, hb1⟩; have B1 := Lib.hid (bnext W1.out hb1); have C2 := Lib.hid (C1.out.below hb1); have R2 := Lib.hid (R1.out.below hb1); have N2 := Lib.hid (Bk.new w1 32 mZ); clear hb1))
    | (with_reducible refine st_mach w1.heap.size N2.out rfl rfl _ _ rfl rfl rfl rfl ?_))
  obtain ⟨G, hG⟩ : ∃ G, G = w1.heap.size := ⟨_, rfl⟩
  have hGw : w.heap.size + 1 < G := by rw [hG]; exact R2.out.lt
  have AT : Hid (MAt G (w.heap.size + 1) (stepsM c 0 (newM c, own)) bA bn bc ((w1.alloc (.cells mZ 32)).setRow w1.heap.size (mC 0 c.fuel (.slice none 0 0) 0 0 0 0 (.slice none 0 0) false 0))) := Lib.hid (by
    rw [h0.out, hG]
    refine ⟨none, 0, 0, none, 0, 0, Bk.setRow N2.out _, MIn.setRow ⟨⟨rfl, Nat.le_refl _, fun _ => ⟨rfl, rfl⟩, fun h => absurd h (by omega)⟩, ⟨rfl, Nat.le_refl _, fun _ => ⟨rfl, rfl⟩, fun h => absurd h (by omega)⟩, HO.out.below (bnext B1.out (below_alloc1 _ _))⟩ ?_ _, ?_, ?_⟩
    all_goals exact ⟨fun h => absurd h (by omega), fun h => absurd h (by omega), fun hn b off he => by
      obtain ⟨b', off', e, hb, _⟩ := HO.out.2.2.2 hn
      rw [he] at e
      injection e with e
      injection e with e
      have := hGw
      omega⟩)
  have C3 : Hid (Bk ((w1.alloc (.cells mZ 32)).setRow w1.heap.size (mC 0 c.fuel (.slice none 0 0) 0 0 0 0 (.slice none 0 0) false 0)) w.heap.size 25 #[.slice ra nr rc, .slice wa nw wc, .slice aa na ac, .int .i64 c.fuel, .slice ca nc cc]) := Lib.hid ((C2.out.alloc _).farRow (by omega) _)
  have R3 : Hid (Bk ((w1.alloc (.cells mZ 32)).setRow w1.heap.size (mC 0 c.fuel (.slice none 0 0) 0 0 0 0 (.slice none 0 0) false 0)) (w.heap.size + 1) 32 mZ) := Lib.hid ((R2.out.alloc _).farRow (by omega) _)
  have B3 : Hid (Below w.heap.size w ((w1.alloc (.cells mZ 32)).setRow w1.heap.size (mC 0 c.fuel (.slice none 0 0) 0 0 0 0 (.slice none 0 0) false 0))) := Lib.hid (below_row (bnext B1.out (below_alloc1 _ _)) (by omega) _)
  rw [← hG] at AT C3 R3 B3 ⊢
  clear hG C2 R2 N2 B1 C1 R1 W1 hnw
  go_loopw [8, 1] (fun ii ss wr => ∃ (k : Nat) (bA : Option Addr) (bn bc : Nat), k ≤ n ∧ ii = .int .i64 (k : Int) ∧ ss = .slice bA bn bc ∧ Hid (Below w.heap.size w wr) ∧ Hid (MAt G (w.heap.size + 1) (stepsM c k (newM c, own)) bA bn bc wr) ∧ Hid (Bk wr w.heap.size 25 #[.slice ra nr rc, .slice wa nw wc, .slice aa na ac, .int .i64 c.fuel, .slice ca nc cc]) ∧ Hid (Bk wr (w.heap.size + 1) 32 mZ)) (fun ii _ _ => n - (intOf ii).toNat)
  case atStart => exact ⟨0, _, _, _, Nat.zero_le _, rfl, rfl, B3, AT, C3, R3⟩
  case round =>
    clear AT C3 R3 B3
    obtain ⟨k, bA', bn', bc', hk, rfl, rfl, HB, HA, HCm, HR⟩ := hrel
    obtain ⟨sA, sn, sc, oA, on, oc, ax, am, ag, ao⟩ := HA.out
    have AX := Lib.hid ax
    have AM := Lib.hid am
    have AO := Lib.hid ao
    have AG := Lib.hid ag
    clear ax am ao ag HA
    obtain ⟨f0, f1, f2, f3, f4, ff⟩ := HCm.out.cmd
    have fl := HCm.out.lt
    have al := AX.out.lt
    by_cases hlt : k < n
    · skip
      have hs1 := hst.out _ (HF.out k hlt) wr HB.out sA sn sc oA on oc bA' bn' bc' AM.out
      have hk1 := Lib.hid (hsu.out k)
      have ho := HE.out.first k hlt
      clear HE HF hst hsu h0 hnf
      generalize stepsM c k (newM c, own) = r at *
      have a8 : wr.cell? ⟨G, 8, none⟩ = some (.bool false) := by rw [AX.out.cell 8, ← ho]; rfl
      clear ho
      obtain ⟨r', hr'⟩ : ∃ r', r' = stepM c r.1 r.2 := ⟨_, rfl⟩
      rw [← hr'] at hs1
      have hr2 : Hid (stepsM c (k + 1) (newM c, own) = r') := Lib.hid (by rw [hk1.out, hr'])
      have HS := Lib.hid hs1
      clear hs1 hr' hk1
      go_wp2_with (first
        | (with_reducible refine ld_mach G AX.out _ rfl rfl rfl ?_)
        | (go_at_call 21; go_must ((with_reducible refine HS.out.mono ?_); rintro e w3 ⟨sA3, sn3, sc3, oA3, on3, oc3, bA3, bn3, bc3, rfl, m3, b3, o3⟩; have M3 := Lib.hid m3; have B3 := Lib.hid b3; have O3 := Lib.hid (o3 G AX.out.lt); have O4 := Lib.hid (o3 (w.heap.size + 1) HR.out.lt); have X3 := Lib.hid (AX.out.below b3); have C3 := Lib.hid (HCm.out.below b3); have R3 := Lib.hid (HR.out.below b3); clear m3 b3 o3))
        | (with_reducible refine st_mach G X3.out rfl rfl _ _ rfl rfl rfl rfl ?_))
      go_roundw
      case rel =>
        refine ⟨k + 1, bA3, bn3, bc3, by omega, by go_num, rfl, Lib.hid (below_row (bnext HB.out B3.out) (by omega) _), Lib.hid ?_, Lib.hid (C3.out.farRow (by omega) _), Lib.hid (R3.out.farRow (by omega) _)⟩
        rw [hr2.out]
        exact ⟨sA3, sn3, sc3, oA3, on3, oc3, Bk.setRow X3.out _, M3.out.setRow O3.out _, O3.out, O4.out⟩
      case measure => simp [intOf]; omega
    · obtain rfl : n = k := by omega
      clear hlt
      have ho := HE.out.over
      clear HE HF hst hsu h0 hnf
      generalize stepsM c n (newM c, own) = r at *
      have a8 : wr.cell? ⟨G, 8, none⟩ = some (.bool true) := by rw [AX.out.cell 8, ← ho]; rfl
      clear ho
      go_wp2_with (first
        | (with_reducible refine ld_mach G AX.out _ rfl rfl rfl ?_)
        | (with_reducible refine st_mach (w.heap.size + 1) HR.out rfl rfl _ _ rfl rfl rfl rfl ?_))
      exact bodyPost_ret (v := .tuple #[.agg (mA r.1 sA sn sc oA on oc), .slice bA' bn' bc', .int .i64 (n : Int)]) (res3_mach rfl _ _ (w.heap.size + 1) _ _ rfl rfl rfl (Bk.setRow HR.out _)) rfl
        ⟨_, _, _, _, _, _, _, _, _, rfl, AM.out.setRow AO.out _, below_row HB.out (by omega) _⟩

set_option maxHeartbeats 4000000 in
theorem some_any (c : Cmd) (own : Blks) (n : Nat) (most : Int) (bA : Option Addr) (bn bc : Nat) (w : World) (hC : CmIn w c ra nr rc wa nw wc aa na ac ca nc cc) (hO : Sl w 8 bA bn bc (blksW own)) (hn : n ≤ 1000) (hbn : bn ≤ 1000) (hmo : -9223372036854775808 ≤ most ∧ most ≤ 9223372036854775807) (hE : Ends c (newM c, own) n)
    (hfit : ∀ k, k < n → Fit c (stepsM c k (newM c, own)).1 (stepsM c k (newM c, own)).2) :
    Calls Try.prog 11 #[cmV ra nr rc wa nw wc aa na ac c.fuel ca nc cc, .slice bA bn bc, .int .i64 most] w (WPost (stepsM c most.toNat (newM c, own)) w) := by
  have W1 := Lib.hid (bnext (below_alloc1 w (CmObj ra nr rc wa nw wc aa na ac c.fuel ca nc cc)) (below_alloc1 _ (.cells mZ 32)))
  have C1 : Hid (Bk ((w.alloc (CmObj ra nr rc wa nw wc aa na ac c.fuel ca nc cc)).alloc (.cells mZ 32)) w.heap.size 25 #[.slice ra nr rc, .slice wa nw wc, .slice aa na ac, .int .i64 c.fuel, .slice ca nc cc]) := Lib.hid ((Bk.new w _ _).alloc _)
  have R1 : Hid (Bk ((w.alloc (CmObj ra nr rc wa nw wc aa na ac c.fuel ca nc cc)).alloc (.cells mZ 32)) (w.heap.size + 1) 32 mZ) := Lib.hid (by
    have := Bk.new (w.alloc (CmObj ra nr rc wa nw wc aa na ac c.fuel ca nc cc)) 32 mZ
    rwa [World.size_alloc] at this)
  have hnw := Lib.hid (fun W => mnew_any ra nr rc wa nw wc aa na ac c.fuel ca nc cc W)
  have HF := Lib.hid hfit
  have HE := Lib.hid hE
  have HC := Lib.hid hC
  have HO := Lib.hid hO
  have hst := Lib.hid (fun (r : Mac × Blks) (hf : Fit c r.1 r.2) (W : World) (hW : Below w.heap.size w W) (sA : Option Addr) (sn sc : Nat) (oA : Option Addr) (on oc : Nat) (bA : Option Addr) (bn bc : Nat) hM => step_any ra nr rc wa nw wc aa na ac ca nc cc sA sn sc oA on oc bA bn bc c r.1 r.2 W hf (hC.below hW) hM)
  have hsu := Lib.hid (fun k => steps_succ c k (newM c, own))
  have h0 := Lib.hid (show stepsM c 0 (newM c, own) = (newM c, own) from rfl)
  have hnf := Lib.hid (show (newM c).fuel = c.fuel from rfl)
  have cl3 := Lib.hid (fun (W : World) (hW : Below w.heap.size w W) => clone_blks bA bn bc _ W (hO.below hW) hbn (blksW_one own))
  have HBL := Lib.hid (blksW_one own)
  have hm1 := hmo.1
  have hm2 := hmo.2
  obtain ⟨rF, hrF⟩ : ∃ r, r = stepsM c most.toNat (newM c, own) := ⟨_, rfl⟩
  rw [← hrF]
  have HRF := Lib.hid hrF
  clear hrF
  clear hfit hC hO hE hmo
  go_enter Try.func11, Try.ntmps11
  go_wp2_with (first
    | (go_at_call 20; go_must ((with_reducible refine (hnw.out _).mono ?_); rintro e w1 ⟨rfl, hb1⟩; have B1 := Lib.hid (bnext W1.out hb1); have C2 := Lib.hid (C1.out.below hb1); have R2 := Lib.hid (R1.out.below hb1); have N2 := Lib.hid (Bk.new w1 32 mZ); have clv := Lib.hid (cl3.out ((w1.alloc (.cells mZ 32)).setRow w1.heap.size (mC 0 c.fuel (.slice none 0 0) 0 0 0 0 (.slice none 0 0) false 0)) (below_row (bnext B1.out (below_alloc1 _ _)) (by have := R2.out.lt; omega) _)); clear hb1))
    | (with_reducible refine st_mach w1.heap.size N2.out rfl rfl _ _ rfl rfl rfl rfl ?_)
    | (go_at_call 23; go_must ((with_reducible refine clv.out.mono ?_); rintro e w2 ⟨A2, c2, rfl, q2, b2⟩)))
  obtain ⟨G, hG⟩ : ∃ G, G = w1.heap.size := ⟨_, rfl⟩
  have hGw : w.heap.size + 1 < G := by rw [hG]; exact R2.out.lt
  have V0 : Hid (Below w1.heap.size w1 ((w1.alloc (.cells mZ 32)).setRow w1.heap.size (mC 0 c.fuel (.slice none 0 0) 0 0 0 0 (.slice none 0 0) false 0))) := Lib.hid (below_row (below_alloc1 _ _) (Nat.le_refl _) _)
  have AT : Hid (MAt G (w.heap.size + 1) (stepsM c 0 (newM c, own)) A2 bn c2 w2) := Lib.hid (by
    rw [h0.out, hG]
    refine ⟨none, 0, 0, none, 0, 0, (Bk.setRow N2.out _).below b2, ⟨⟨rfl, Nat.le_refl _, fun _ => ⟨rfl, rfl⟩, fun h => absurd h (by omega)⟩, ⟨rfl, Nat.le_refl _, fun _ => ⟨rfl, rfl⟩, fun h => absurd h (by omega)⟩, Sl.own' q2⟩, ?_, ?_⟩
    all_goals exact ⟨fun h => absurd h (by omega), fun h => absurd h (by omega), own_offA q2 (by rw [setRow_size, World.size_alloc]; omega)⟩)
  have C3 : Hid (Bk w2 w.heap.size 25 #[.slice ra nr rc, .slice wa nw wc, .slice aa na ac, .int .i64 c.fuel, .slice ca nc cc]) := Lib.hid (((C2.out.alloc _).farRow (by omega) _).below b2)
  have R3 : Hid (Bk w2 (w.heap.size + 1) 32 mZ) := Lib.hid (((R2.out.alloc _).farRow (by omega) _).below b2)
  have B3 : Hid (Below w.heap.size w w2) := Lib.hid (bnext (below_row (bnext B1.out (below_alloc1 _ _)) (by omega) _) b2)
  rw [← hG]
  clear hG C2 R2 N2 B1 C1 R1 W1 hnw clv cl3 q2 b2 V0
  go_loopw [2, 1] (fun ii ss wr => ∃ (k : Nat) (bA : Option Addr) (bn bc : Nat), k ≤ n ∧ k ≤ most.toNat ∧ ii = .int .i64 (most - (k : Int)) ∧ ss = .slice bA bn bc ∧ Hid (Below w.heap.size w wr) ∧ Hid (MAt G (w.heap.size + 1) (stepsM c k (newM c, own)) bA bn bc wr) ∧ Hid (Bk wr w.heap.size 25 #[.slice ra nr rc, .slice wa nw wc, .slice aa na ac, .int .i64 c.fuel, .slice ca nc cc]) ∧ Hid (Bk wr (w.heap.size + 1) 32 mZ)) (fun ii _ _ => n + 1 - (most - intOf ii).toNat)
  case atStart => exact ⟨0, _, _, _, Nat.zero_le _, Nat.zero_le _, (by simp), rfl, B3, AT, C3, R3⟩
  case round =>
    clear AT C3 R3 B3
    obtain ⟨k, bA', bn', bc', hk, hkm, rfl, rfl, HB, HA, HCm, HR⟩ := hrel
    obtain ⟨sA, sn, sc, oA, on, oc, ax, am, ag, ao⟩ := HA.out
    have AX := Lib.hid ax
    have AM := Lib.hid am
    have AO := Lib.hid ao
    have AG := Lib.hid ag
    clear ax am ao ag HA
    obtain ⟨f0, f1, f2, f3, f4, ff⟩ := HCm.out.cmd
    have fl := HCm.out.lt
    have al := AX.out.lt
    by_cases hgo : (k : Int) < most
    · have d1 : (0 : Int) < most - (k : Int) := by omega
      by_cases hlt : k < n
      · skip
        have hs1 := hst.out _ (HF.out k hlt) wr HB.out sA sn sc oA on oc bA' bn' bc' AM.out
        have hk1 := Lib.hid (hsu.out k)
        have ho := HE.out.first k hlt
        clear HE HF hst hsu h0 hnf
        generalize stepsM c k (newM c, own) = r at *
        have a8 : wr.cell? ⟨G, 8, none⟩ = some (.bool false) := by rw [AX.out.cell 8, ← ho]; rfl
        clear ho
        obtain ⟨r', hr'⟩ : ∃ r', r' = stepM c r.1 r.2 := ⟨_, rfl⟩
        rw [← hr'] at hs1
        have hr2 : Hid (stepsM c (k + 1) (newM c, own) = r') := Lib.hid (by rw [hk1.out, hr'])
        have HS := Lib.hid hs1
        clear hs1 hr' hk1
        go_wp2_with (first
          | (with_reducible refine ld_mach G AX.out _ rfl rfl rfl ?_)
          | (go_at_call 21; go_must ((with_reducible refine HS.out.mono ?_); rintro e w3 ⟨sA3, sn3, sc3, oA3, on3, oc3, bA3, bn3, bc3, rfl, m3, b3, o3⟩; have M3 := Lib.hid m3; have B3 := Lib.hid b3; have O3 := Lib.hid (o3 G AX.out.lt); have O4 := Lib.hid (o3 (w.heap.size + 1) HR.out.lt); have X3 := Lib.hid (AX.out.below b3); have C3 := Lib.hid (HCm.out.below b3); have R3 := Lib.hid (HR.out.below b3); clear m3 b3 o3))
          | (with_reducible refine st_mach G X3.out rfl rfl _ _ rfl rfl rfl rfl ?_))
        go_roundw
        case rel =>
          refine ⟨k + 1, bA3, bn3, bc3, by omega, by omega, by go_num, rfl, Lib.hid (below_row (bnext HB.out B3.out) (by omega) _), Lib.hid ?_, Lib.hid (C3.out.farRow (by omega) _), Lib.hid (R3.out.farRow (by omega) _)⟩
          rw [hr2.out]
          exact ⟨sA3, sn3, sc3, oA3, on3, oc3, Bk.setRow X3.out _, M3.out.setRow O3.out _, O3.out, O4.out⟩
        case measure => simp [intOf]; omega
      · obtain rfl : n = k := by omega
        have he : stepsM c most.toNat (newM c, own) = stepsM c n (newM c, own) := by
          obtain ⟨j, hj⟩ := Nat.exists_eq_add_of_le hkm
          rw [hj, steps_add, steps_over HE.out.over]
        have hF : Hid (rF = stepsM c n (newM c, own)) := Lib.hid (HRF.out.trans he)
        clear he hlt HRF
        have ho := HE.out.over
        clear HE HF hst hsu h0 hnf
        generalize stepsM c n (newM c, own) = r at *
        have a8 : wr.cell? ⟨G, 8, none⟩ = some (.bool true) := by rw [AX.out.cell 8, ← ho]; rfl
        clear ho
        go_wp2_with (first
          | (with_reducible refine ld_mach G AX.out _ rfl rfl rfl ?_)
          | (with_reducible refine st_mach (w.heap.size + 1) HR.out rfl rfl _ _ rfl rfl rfl rfl ?_))
        exact bodyPost_ret (v := .tuple #[.agg (mA r.1 sA sn sc oA on oc), .slice bA' bn' bc']) (res2_mach rfl _ _ (w.heap.size + 1) _ rfl rfl (Bk.setRow HR.out _)) rfl
          (by rw [hF.out]; exact ⟨_, _, _, _, _, _, _, _, _, rfl, AM.out.setRow AO.out _, below_row HB.out (by omega) _⟩)
    · have hF : Hid (rF = stepsM c k (newM c, own)) := Lib.hid (by rw [HRF.out, show most.toNat = k by omega])
      clear HRF
      have d1 : decide ((0 : Int) < most - (k : Int)) = false := decide_eq_false (by omega)
      have d2 : decide ((k : Int) < most) = false := decide_eq_false (by omega)
      clear hgo HE HF hst hsu h0 hnf
      generalize stepsM c k (newM c, own) = r at *
      go_wp2_with (first
        | (with_reducible refine ld_mach G AX.out _ rfl rfl rfl ?_)
        | (with_reducible refine st_mach (w.heap.size + 1) HR.out rfl rfl _ _ rfl rfl rfl rfl ?_))
      exact bodyPost_ret (v := .tuple #[.agg (mA r.1 sA sn sc oA on oc), .slice bA' bn' bc']) (res2_mach rfl _ _ (w.heap.size + 1) _ rfl rfl (Bk.setRow HR.out _)) rfl
        (by rw [hF.out]; exact ⟨_, _, _, _, _, _, _, _, _, rfl, AM.out.setRow AO.out _, below_row HB.out (by omega) _⟩)

end
end Go.Proofs.Ytoomadafgkcebaa

/-
  What foremanref11.Whole and foremanref11.Some answer: all steps, or so many, in whatever memory. No conditions but those that stand there.
-/
namespace Go.Proofs.Ytoomadafgkcebaa
open Go.RowKit

section
variable (ra : Option Addr) (nr rc : Nat) (wa : Option Addr) (nw wc : Nat) (aa : Option Addr) (na ac : Nat) (ca : Option Addr) (nc cc : Nat)

set_option maxHeartbeats 4000000 in
theorem rwhole_any (c : Cmd) (own : Blks) (n : Nat) (bA : Option Addr) (bn bc : Nat) (w : World) (hC : CmIn w c ra nr rc wa nw wc aa na ac ca nc cc) (hO : Sl w 8 bA bn bc (blksW own)) (hn : n ≤ 1000) (hE : Ends c (newM c, own) n)
    (hfit : ∀ k, k < n → Fit c (stepsM c k (newM c, own)).1 (stepsM c k (newM c, own)).2) :
    Calls Try.prog 10 #[cmV ra nr rc wa nw wc aa na ac c.fuel ca nc cc, .slice bA bn bc] w (RunPost (stepsM c n (newM c, own)) n w) := by
  have W1 := Lib.hid (bnext (below_alloc1 w (CmObj ra nr rc wa nw wc aa na ac c.fuel ca nc cc)) (below_alloc1 _ (.cells mZ 32)))
  have C1 : Hid (Bk ((w.alloc (CmObj ra nr rc wa nw wc aa na ac c.fuel ca nc cc)).alloc (.cells mZ 32)) w.heap.size 25 #[.slice ra nr rc, .slice wa nw wc, .slice aa na ac, .int .i64 c.fuel, .slice ca nc cc]) := Lib.hid ((Bk.new w _ _).alloc _)
  have R1 : Hid (Bk ((w.alloc (CmObj ra nr rc wa nw wc aa na ac c.fuel ca nc cc)).alloc (.cells mZ 32)) (w.heap.size + 1) 32 mZ) := Lib.hid (by
    have := Bk.new (w.alloc (CmObj ra nr rc wa nw wc aa na ac c.fuel ca nc cc)) 32 mZ
    rwa [World.size_alloc] at this)
  have hnw := Lib.hid (fun W => rmnew_any ra nr rc wa nw wc aa na ac c.fuel ca nc cc W)
  have HF := Lib.hid hfit
  have HE := Lib.hid hE
  have HC := Lib.hid hC
  have HO := Lib.hid hO
  have hst := Lib.hid (fun (r : Mac × Blks) (hf : Fit c r.1 r.2) (W : World) (hW : Below w.heap.size w W) (sA : Option Addr) (sn sc : Nat) (oA : Option Addr) (on oc : Nat) (bA : Option Addr) (bn bc : Nat) hM => rstep_any ra nr rc wa nw wc aa na ac ca nc cc sA sn sc oA on oc bA bn bc c r.1 r.2 W hf (hC.below hW) hM)
  have hsu := Lib.hid (fun k => steps_succ c k (newM c, own))
  have h0 := Lib.hid (show stepsM c 0 (newM c, own) = (newM c, own) from rfl)
  have hnf := Lib.hid (show (newM c).fuel = c.fuel from rfl)
  clear hfit hC hO hE
  go_enter Try.func10, Try.ntmps10
  go_wp2_with (first
    | (go_at_call 22; go_must ((with_reducible refine (hnw.out _).mono ?_); rintro e w1 ⟨rfl, hb1⟩; have B1 := Lib.hid (bnext W1.out hb1); have C2 := Lib.hid (C1.out.below hb1); have R2 := Lib.hid (R1.out.below hb1); have N2 := Lib.hid (Bk.new w1 32 mZ); clear hb1))
    | (with_reducible refine st_mach w1.heap.size N2.out rfl rfl _ _ rfl rfl rfl rfl ?_))
  obtain ⟨G, hG⟩ : ∃ G, G = w1.heap.size := ⟨_, rfl⟩
  have hGw : w.heap.size + 1 < G := by rw [hG]; exact R2.out.lt
  have AT : Hid (MAt G (w.heap.size + 1) (stepsM c 0 (newM c, own)) bA bn bc ((w1.alloc (.cells mZ 32)).setRow w1.heap.size (mC 0 c.fuel (.slice none 0 0) 0 0 0 0 (.slice none 0 0) false 0))) := Lib.hid (by
    rw [h0.out, hG]
    refine ⟨none, 0, 0, none, 0, 0, Bk.setRow N2.out _, MIn.setRow ⟨⟨rfl, Nat.le_refl _, fun _ => ⟨rfl, rfl⟩, fun h => absurd h (by omega)⟩, ⟨rfl, Nat.le_refl _, fun _ => ⟨rfl, rfl⟩, fun h => absurd h (by omega)⟩, HO.out.below (bnext B1.out (below_alloc1 _ _))⟩ ?_ _, ?_, ?_⟩
    all_goals exact ⟨fun h => absurd h (by omega), fun h => absurd h (by omega), fun hn b off he => by
      obtain ⟨b', off', e, hb, _⟩ := HO.out.2.2.2 hn
      rw [he] at e
      injection e with e
      injection e with e
      have := hGw
      omega⟩)
  have C3 : Hid (Bk ((w1.alloc (.cells mZ 32)).setRow w1.heap.size (mC 0 c.fuel (.slice none 0 0) 0 0 0 0 (.slice none 0 0) false 0)) w.heap.size 25 #[.slice ra nr rc, .slice wa nw wc, .slice aa na ac, .int .i64 c.fuel, .slice ca nc cc]) := Lib.hid ((C2.out.alloc _).farRow (by omega) _)
  have R3 : Hid (Bk ((w1.alloc (.cells mZ 32)).setRow w1.heap.size (mC 0 c.fuel (.slice none 0 0) 0 0 0 0 (.slice none 0 0) false 0)) (w.heap.size + 1) 32 mZ) := Lib.hid ((R2.out.alloc _).farRow (by omega) _)
  have B3 : Hid (Below w.heap.size w ((w1.alloc (.cells mZ 32)).setRow w1.heap.size (mC 0 c.fuel (.slice none 0 0) 0 0 0 0 (.slice none 0 0) false 0))) := Lib.hid (below_row (bnext B1.out (below_alloc1 _ _)) (by omega) _)
  rw [← hG] at AT C3 R3 B3 ⊢
  clear hG C2 R2 N2 B1 C1 R1 W1 hnw
  go_loopw [8, 1] (fun ii ss wr => ∃ (k : Nat) (bA : Option Addr) (bn bc : Nat), k ≤ n ∧ ii = .int .i64 (k : Int) ∧ ss = .slice bA bn bc ∧ Hid (Below w.heap.size w wr) ∧ Hid (MAt G (w.heap.size + 1) (stepsM c k (newM c, own)) bA bn bc wr) ∧ Hid (Bk wr w.heap.size 25 #[.slice ra nr rc, .slice wa nw wc, .slice aa na ac, .int .i64 c.fuel, .slice ca nc cc]) ∧ Hid (Bk wr (w.heap.size + 1) 32 mZ)) (fun ii _ _ => n - (intOf ii).toNat)
  case atStart => exact ⟨0, _, _, _, Nat.zero_le _, rfl, rfl, B3, AT, C3, R3⟩
  case round =>
    clear AT C3 R3 B3
    obtain ⟨k, bA', bn', bc', hk, rfl, rfl, HB, HA, HCm, HR⟩ := hrel
    obtain ⟨sA, sn, sc, oA, on, oc, ax, am, ag, ao⟩ := HA.out
    have AX := Lib.hid ax
    have AM := Lib.hid am
    have AO := Lib.hid ao
    have AG := Lib.hid ag
    clear ax am ao ag HA
    obtain ⟨f0, f1, f2, f3, f4, ff⟩ := HCm.out.cmd
    have fl := HCm.out.lt
    have al := AX.out.lt
    by_cases hlt : k < n
    · skip
      have hs1 := hst.out _ (HF.out k hlt) wr HB.out sA sn sc oA on oc bA' bn' bc' AM.out
      have hk1 := Lib.hid (hsu.out k)
      have ho := HE.out.first k hlt
      clear HE HF hst hsu h0 hnf
      generalize stepsM c k (newM c, own) = r at *
      have a8 : wr.cell? ⟨G, 8, none⟩ = some (.bool false) := by rw [AX.out.cell 8, ← ho]; rfl
      clear ho
      obtain ⟨r', hr'⟩ : ∃ r', r' = stepM c r.1 r.2 := ⟨_, rfl⟩
      rw [← hr'] at hs1
      have hr2 : Hid (stepsM c (k + 1) (newM c, own) = r') := Lib.hid (by rw [hk1.out, hr'])
      have HS := Lib.hid hs1
      clear hs1 hr' hk1
      go_wp2_with (first
        | (with_reducible refine ld_mach G AX.out _ rfl rfl rfl ?_)
        | (go_at_call 18; go_must ((with_reducible refine HS.out.mono ?_); rintro e w3 ⟨sA3, sn3, sc3, oA3, on3, oc3, bA3, bn3, bc3, rfl, m3, b3, o3⟩; have M3 := Lib.hid m3; have B3 := Lib.hid b3; have O3 := Lib.hid (o3 G AX.out.lt AG.out); have O4 := Lib.hid (o3 (w.heap.size + 1) HR.out.lt AO.out); have X3 := Lib.hid (AX.out.below b3); have C3 := Lib.hid (HCm.out.below b3); have R3 := Lib.hid (HR.out.below b3); clear m3 b3 o3))
        | (with_reducible refine st_mach G X3.out rfl rfl _ _ rfl rfl rfl rfl ?_))
      go_roundw
      case rel =>
        refine ⟨k + 1, bA3, bn3, bc3, by omega, by go_num, rfl, Lib.hid (below_row (bnext HB.out B3.out) (by omega) _), Lib.hid ?_, Lib.hid (C3.out.farRow (by omega) _), Lib.hid (R3.out.farRow (by omega) _)⟩
        rw [hr2.out]
        exact ⟨sA3, sn3, sc3, oA3, on3, oc3, Bk.setRow X3.out _, M3.out.setRow O3.out _, O3.out, O4.out⟩
      case measure => simp [intOf]; omega
    · obtain rfl : n = k := by omega
      clear hlt
      have ho := HE.out.over
      clear HE HF hst hsu h0 hnf
      generalize stepsM c n (newM c, own) = r at *
      have a8 : wr.cell? ⟨G, 8, none⟩ = some (.bool true) := by rw [AX.out.cell 8, ← ho]; rfl
      clear ho
      go_wp2_with (first
        | (with_reducible refine ld_mach G AX.out _ rfl rfl rfl ?_)
        | (with_reducible refine st_mach (w.heap.size + 1) HR.out rfl rfl _ _ rfl rfl rfl rfl ?_))
      exact bodyPost_ret (v := .tuple #[.agg (mA r.1 sA sn sc oA on oc), .slice bA' bn' bc', .int .i64 (n : Int)]) (res3_mach rfl _ _ (w.heap.size + 1) _ _ rfl rfl rfl (Bk.setRow HR.out _)) rfl
        ⟨_, _, _, _, _, _, _, _, _, rfl, AM.out.setRow AO.out _, below_row HB.out (by omega) _⟩

set_option maxHeartbeats 4000000 in
theorem rsome_any (c : Cmd) (own : Blks) (n : Nat) (most : Int) (bA : Option Addr) (bn bc : Nat) (w : World) (hC : CmIn w c ra nr rc wa nw wc aa na ac ca nc cc) (hO : Sl w 8 bA bn bc (blksW own)) (hn : n ≤ 1000) (hmo : -9223372036854775808 ≤ most ∧ most ≤ 9223372036854775807) (hE : Ends c (newM c, own) n)
    (hfit : ∀ k, k < n → Fit c (stepsM c k (newM c, own)).1 (stepsM c k (newM c, own)).2) :
    Calls Try.prog 12 #[cmV ra nr rc wa nw wc aa na ac c.fuel ca nc cc, .slice bA bn bc, .int .i64 most] w (WPost (stepsM c most.toNat (newM c, own)) w) := by
  have W1 := Lib.hid (bnext (below_alloc1 w (CmObj ra nr rc wa nw wc aa na ac c.fuel ca nc cc)) (below_alloc1 _ (.cells mZ 32)))
  have C1 : Hid (Bk ((w.alloc (CmObj ra nr rc wa nw wc aa na ac c.fuel ca nc cc)).alloc (.cells mZ 32)) w.heap.size 25 #[.slice ra nr rc, .slice wa nw wc, .slice aa na ac, .int .i64 c.fuel, .slice ca nc cc]) := Lib.hid ((Bk.new w _ _).alloc _)
  have R1 : Hid (Bk ((w.alloc (CmObj ra nr rc wa nw wc aa na ac c.fuel ca nc cc)).alloc (.cells mZ 32)) (w.heap.size + 1) 32 mZ) := Lib.hid (by
    have := Bk.new (w.alloc (CmObj ra nr rc wa nw wc aa na ac c.fuel ca nc cc)) 32 mZ
    rwa [World.size_alloc] at this)
  have hnw := Lib.hid (fun W => rmnew_any ra nr rc wa nw wc aa na ac c.fuel ca nc cc W)
  have HF := Lib.hid hfit
  have HE := Lib.hid hE
  have HC := Lib.hid hC
  have HO := Lib.hid hO
  have hst := Lib.hid (fun (r : Mac × Blks) (hf : Fit c r.1 r.2) (W : World) (hW : Below w.heap.size w W) (sA : Option Addr) (sn sc : Nat) (oA : Option Addr) (on oc : Nat) (bA : Option Addr) (bn bc : Nat) hM => rstep_any ra nr rc wa nw wc aa na ac ca nc cc sA sn sc oA on oc bA bn bc c r.1 r.2 W hf (hC.below hW) hM)
  have hsu := Lib.hid (fun k => steps_succ c k (newM c, own))
  have h0 := Lib.hid (show stepsM c 0 (newM c, own) = (newM c, own) from rfl)
  have hnf := Lib.hid (show (newM c).fuel = c.fuel from rfl)
  have hm1 := hmo.1
  have hm2 := hmo.2
  obtain ⟨rF, hrF⟩ : ∃ r, r = stepsM c most.toNat (newM c, own) := ⟨_, rfl⟩
  rw [← hrF]
  have HRF := Lib.hid hrF
  clear hrF
  clear hfit hC hO hE hmo
  go_enter Try.func12, Try.ntmps12
  go_wp2_with (first
    | (go_at_call 22; go_must ((with_reducible refine (hnw.out _).mono ?_); rintro e w1 ⟨rfl, hb1⟩; have B1 := Lib.hid (bnext W1.out hb1); have C2 := Lib.hid (C1.out.below hb1); have R2 := Lib.hid (R1.out.below hb1); have N2 := Lib.hid (Bk.new w1 32 mZ); clear hb1))
    | (with_reducible refine st_mach w1.heap.size N2.out rfl rfl _ _ rfl rfl rfl rfl ?_))
  obtain ⟨G, hG⟩ : ∃ G, G = w1.heap.size := ⟨_, rfl⟩
  have hGw : w.heap.size + 1 < G := by rw [hG]; exact R2.out.lt
  have AT : Hid (MAt G (w.heap.size + 1) (stepsM c 0 (newM c, own)) bA bn bc ((w1.alloc (.cells mZ 32)).setRow w1.heap.size (mC 0 c.fuel (.slice none 0 0) 0 0 0 0 (.slice none 0 0) false 0))) := Lib.hid (by
    rw [h0.out, hG]
    refine ⟨none, 0, 0, none, 0, 0, Bk.setRow N2.out _, MIn.setRow ⟨⟨rfl, Nat.le_refl _, fun _ => ⟨rfl, rfl⟩, fun h => absurd h (by omega)⟩, ⟨rfl, Nat.le_refl _, fun _ => ⟨rfl, rfl⟩, fun h => absurd h (by omega)⟩, HO.out.below (bnext B1.out (below_alloc1 _ _))⟩ ?_ _, ?_, ?_⟩
    all_goals exact ⟨fun h => absurd h (by omega), fun h => absurd h (by omega), fun hn b off he => by
      obtain ⟨b', off', e, hb, _⟩ := HO.out.2.2.2 hn
      rw [he] at e
      injection e with e
      injection e with e
      have := hGw
      omega⟩)
  have C3 : Hid (Bk ((w1.alloc (.cells mZ 32)).setRow w1.heap.size (mC 0 c.fuel (.slice none 0 0) 0 0 0 0 (.slice none 0 0) false 0)) w.heap.size 25 #[.slice ra nr rc, .slice wa nw wc, .slice aa na ac, .int .i64 c.fuel, .slice ca nc cc]) := Lib.hid ((C2.out.alloc _).farRow (by omega) _)
  have R3 : Hid (Bk ((w1.alloc (.cells mZ 32)).setRow w1.heap.size (mC 0 c.fuel (.slice none 0 0) 0 0 0 0 (.slice none 0 0) false 0)) (w.heap.size + 1) 32 mZ) := Lib.hid ((R2.out.alloc _).farRow (by omega) _)
  have B3 : Hid (Below w.heap.size w ((w1.alloc (.cells mZ 32)).setRow w1.heap.size (mC 0 c.fuel (.slice none 0 0) 0 0 0 0 (.slice none 0 0) false 0))) := Lib.hid (below_row (bnext B1.out (below_alloc1 _ _)) (by omega) _)
  rw [← hG] at AT C3 R3 B3 ⊢
  clear hG C2 R2 N2 B1 C1 R1 W1 hnw
  go_loopw [9, 1] (fun ii ss wr => ∃ (k : Nat) (bA : Option Addr) (bn bc : Nat), k ≤ n ∧ k ≤ most.toNat ∧ ii = .int .i64 (k : Int) ∧ ss = .slice bA bn bc ∧ Hid (Below w.heap.size w wr) ∧ Hid (MAt G (w.heap.size + 1) (stepsM c k (newM c, own)) bA bn bc wr) ∧ Hid (Bk wr w.heap.size 25 #[.slice ra nr rc, .slice wa nw wc, .slice aa na ac, .int .i64 c.fuel, .slice ca nc cc]) ∧ Hid (Bk wr (w.heap.size + 1) 32 mZ)) (fun ii _ _ => n + 1 - (intOf ii).toNat)
  case atStart => exact ⟨0, _, _, _, Nat.zero_le _, Nat.zero_le _, rfl, rfl, B3, AT, C3, R3⟩
  case round =>
    clear AT C3 R3 B3
    obtain ⟨k, bA', bn', bc', hk, hkm, rfl, rfl, HB, HA, HCm, HR⟩ := hrel
    obtain ⟨sA, sn, sc, oA, on, oc, ax, am, ag, ao⟩ := HA.out
    have AX := Lib.hid ax
    have AM := Lib.hid am
    have AO := Lib.hid ao
    have AG := Lib.hid ag
    clear ax am ao ag HA
    obtain ⟨f0, f1, f2, f3, f4, ff⟩ := HCm.out.cmd
    have fl := HCm.out.lt
    have al := AX.out.lt
    by_cases hgo : (k : Int) < most
    · have d1 : (k : Int) < most := by omega
      by_cases hlt : k < n
      · skip
        have hs1 := hst.out _ (HF.out k hlt) wr HB.out sA sn sc oA on oc bA' bn' bc' AM.out
        have hk1 := Lib.hid (hsu.out k)
        have ho := HE.out.first k hlt
        clear HE HF hst hsu h0 hnf
        generalize stepsM c k (newM c, own) = r at *
        have a8 : wr.cell? ⟨G, 8, none⟩ = some (.bool false) := by rw [AX.out.cell 8, ← ho]; rfl
        clear ho
        obtain ⟨r', hr'⟩ : ∃ r', r' = stepM c r.1 r.2 := ⟨_, rfl⟩
        rw [← hr'] at hs1
        have hr2 : Hid (stepsM c (k + 1) (newM c, own) = r') := Lib.hid (by rw [hk1.out, hr'])
        have HS := Lib.hid hs1
        clear hs1 hr' hk1
        go_wp2_with (first
          | (with_reducible refine ld_mach G AX.out _ rfl rfl rfl ?_)
          | (go_at_call 18; go_must ((with_reducible refine HS.out.mono ?_); rintro e w3 ⟨sA3, sn3, sc3, oA3, on3, oc3, bA3, bn3, bc3, rfl, m3, b3, o3⟩; have M3 := Lib.hid m3; have B3 := Lib.hid b3; have O3 := Lib.hid (o3 G AX.out.lt AG.out); have O4 := Lib.hid (o3 (w.heap.size + 1) HR.out.lt AO.out); have X3 := Lib.hid (AX.out.below b3); have C3 := Lib.hid (HCm.out.below b3); have R3 := Lib.hid (HR.out.below b3); clear m3 b3 o3))
          | (with_reducible refine st_mach G X3.out rfl rfl _ _ rfl rfl rfl rfl ?_))
        go_roundw
        case rel =>
          refine ⟨k + 1, bA3, bn3, bc3, by omega, by omega, by go_num, rfl, Lib.hid (below_row (bnext HB.out B3.out) (by omega) _), Lib.hid ?_, Lib.hid (C3.out.farRow (by omega) _), Lib.hid (R3.out.farRow (by omega) _)⟩
          rw [hr2.out]
          exact ⟨sA3, sn3, sc3, oA3, on3, oc3, Bk.setRow X3.out _, M3.out.setRow O3.out _, O3.out, O4.out⟩
        case measure => simp [intOf]; omega
      · obtain rfl : n = k := by omega
        have he : stepsM c most.toNat (newM c, own) = stepsM c n (newM c, own) := by
          obtain ⟨j, hj⟩ := Nat.exists_eq_add_of_le hkm
          rw [hj, steps_add, steps_over HE.out.over]
        have hF : Hid (rF = stepsM c n (newM c, own)) := Lib.hid (HRF.out.trans he)
        clear he hlt HRF
        have ho := HE.out.over
        clear HE HF hst hsu h0 hnf
        generalize stepsM c n (newM c, own) = r at *
        have a8 : wr.cell? ⟨G, 8, none⟩ = some (.bool true) := by rw [AX.out.cell 8, ← ho]; rfl
        clear ho
        go_wp2_with (first
          | (with_reducible refine ld_mach G AX.out _ rfl rfl rfl ?_)
          | (with_reducible refine st_mach (w.heap.size + 1) HR.out rfl rfl _ _ rfl rfl rfl rfl ?_))
        exact bodyPost_ret (v := .tuple #[.agg (mA r.1 sA sn sc oA on oc), .slice bA' bn' bc']) (res2_mach rfl _ _ (w.heap.size + 1) _ rfl rfl (Bk.setRow HR.out _)) rfl
          (by rw [hF.out]; exact ⟨_, _, _, _, _, _, _, _, _, rfl, AM.out.setRow AO.out _, below_row HB.out (by omega) _⟩)
    · have hF : Hid (rF = stepsM c k (newM c, own)) := Lib.hid (by rw [HRF.out, show most.toNat = k by omega])
      clear HRF
      have d1 : decide ((k : Int) < most) = false := decide_eq_false (by omega)
      have d2 : decide ((k : Int) < most) = false := decide_eq_false (by omega)
      clear hgo HE HF hst hsu h0 hnf
      generalize stepsM c k (newM c, own) = r at *
      go_wp2_with (first
        | (with_reducible refine ld_mach G AX.out _ rfl rfl rfl ?_)
        | (with_reducible refine st_mach (w.heap.size + 1) HR.out rfl rfl _ _ rfl rfl rfl rfl ?_))
      exact bodyPost_ret (v := .tuple #[.agg (mA r.1 sA sn sc oA on oc), .slice bA' bn' bc']) (res2_mach rfl _ _ (w.heap.size + 1) _ rfl rfl (Bk.setRow HR.out _)) rfl
        (by rw [hF.out]; exact ⟨_, _, _, _, _, _, _, _, _, rfl, AM.out.setRow AO.out _, below_row HB.out (by omega) _⟩)

end
end Go.Proofs.Ytoomadafgkcebaa

/-
  What run.Whole and run.Some, and the reference's, answer of a command that may be, with its machine taken apart. No conditions but those that stand there.
-/
namespace Go.Proofs.Ytoomadafgkcebaa
open Go.RowKit

/-- a machine, blocks and a number. -/
def XPost (pc fuel : Int) (st : List Int) (r0 r1 r2 r3 : Int) (ou : List Int) (ov : Bool) (e0 : Int) (own : Blks) (n : Nat) (w : World) (e : Ending) (w' : World) : Prop :=
  ∃ sA sn sc oA on oc bA bn bc, e = .returned (.tuple #[.agg (mC pc fuel (.slice sA sn sc) r0 r1 r2 r3 (.slice oA on oc) ov e0), .slice bA bn bc, .int .i64 (n : Int)]) ∧ MIn w' st ou own sA sn sc oA on oc bA bn bc ∧ Below w.heap.size w w'
/-- a machine and blocks. -/
def YPost (pc fuel : Int) (st : List Int) (r0 r1 r2 r3 : Int) (ou : List Int) (ov : Bool) (e0 : Int) (own : Blks) (w : World) (e : Ending) (w' : World) : Prop :=
  ∃ sA sn sc oA on oc bA bn bc, e = .returned (.tuple #[.agg (mC pc fuel (.slice sA sn sc) r0 r1 r2 r3 (.slice oA on oc) ov e0), .slice bA bn bc]) ∧ MIn w' st ou own sA sn sc oA on oc bA bn bc ∧ Below w.heap.size w w'

/-- behind so many steps. -/
structure RunsTo (c : Cmd) (own : Blks) (n : Nat) (pc f : Int) (st regs ou : List Int) (ov : Bool) (to : Nat) (bl : Blks) : Prop where
  is : stepsM c n (newM c, own) = (⟨pc, f, st, regs, ou, ov, to⟩, bl)
  deep : st.length ≤ 8
  out : ou.length ≤ 8
  cells : ∀ b ∈ bl, b.length = 8
  many : bl.length = own.length

theorem runs_to {c : Cmd} {own : Blks} (hm : MayBe c) (hown : own.length = c.reads.length + c.writes.length) (h8 : ∀ b ∈ own, b.length = 8) (n : Nat) :
    ∃ pc f st regs ou ov to bl, RunsTo c own n pc f st regs ou ov to bl := by
  obtain ⟨d, hd⟩ := hm.depths
  have h := steps_ok hm hd (r := (newM c, own)) (new_ok hm hd hown h8) n
  obtain ⟨⟨⟨pc, f, st, regs, ou, ov, to⟩, bl⟩, hr⟩ : ∃ r, r = stepsM c n (newM c, own) := ⟨_, rfl⟩
  rw [← hr] at h
  exact ⟨pc, f, st, regs, ou, ov, to, bl, hr.symm, h.deep, h.out, h.cells, by rw [h.many, hown]⟩

/-- its end. -/
theorem run_ends {c : Cmd} {own : Blks} (hm : MayBe c) (hown : own.length = c.reads.length + c.writes.length) (h8 : ∀ b ∈ own, b.length = 8) :
    ∃ n pc f st regs ou to bl, Ends c (newM c, own) n ∧ RunsTo c own n pc f st regs ou true to bl ∧ 1 ≤ n ∧ n ≤ 201 ∧ (n : Int) ≤ c.fuel + 1 ∧ (to = 0 ∨ to = 11 ∨ to = 12 ∨ to = 13) ∧ ((n : Int) = c.fuel + 1 ↔ to = 11) := by
  obtain ⟨d, hd⟩ := hm.depths
  obtain ⟨-, -, -, -, f5, f6⟩ := hm.few
  obtain ⟨N, hN⟩ := Int.eq_ofNat_of_zero_le (show (0 : Int) ≤ c.fuel by omega)
  have h0 := new_ok hm hd hown h8
  obtain ⟨n, -, hE⟩ := ends hm hd N (newM c, own) h0 hN
  obtain ⟨g1, g2, g3, g4⟩ := end_bound hm hd (r := (newM c, own)) h0 rfl hE
  rw [show (newM c, own).1.fuel = c.fuel from rfl] at g2 g4
  obtain ⟨pc, f, st, regs, ou, ov, to, bl, hR⟩ := runs_to hm hown h8 n
  have ho := hE.over
  rw [hR.is] at ho g3 g4
  simp only at ho g3 g4
  subst ho
  exact ⟨n, pc, f, st, regs, ou, to, bl, hE, hR, g1, by omega, g2, g3, g4⟩

section
variable (ra : Option Addr) (nr rc : Nat) (wa : Option Addr) (nw wc : Nat) (aa : Option Addr) (na ac : Nat) (ca : Option Addr) (nc cc : Nat)
variable {c : Cmd} {own : Blks} {n : Nat} {pc f : Int} {st regs ou : List Int} {ov : Bool} {to : Nat} {bl : Blks} {bA : Option Addr} {bn bc : Nat}

theorem whole_runs (hm : MayBe c) (hown : own.length = c.reads.length + c.writes.length) (h8 : ∀ b ∈ own, b.length = 8) (hE : Ends c (newM c, own) n) (hn : n ≤ 201) (hR : RunsTo c own n pc f st regs ou ov to bl)
    (w : World) (hC : CmIn w c ra nr rc wa nw wc aa na ac ca nc cc) (hO : Sl w 8 bA bn bc (blksW own)) :
    Calls Try.prog 9 #[cmV ra nr rc wa nw wc aa na ac c.fuel ca nc cc, .slice bA bn bc] w (XPost pc f st (rg regs 0) (rg regs 1) (rg regs 2) (rg regs 3) ou ov to bl n w) := by
  obtain ⟨d, hd⟩ := hm.depths
  have h := whole_any ra nr rc wa nw wc aa na ac ca nc cc c own n bA bn bc w hC hO (by omega) hE (fun k _ => steps_fit hm hd hown h8 k)
  rw [hR.is] at h
  exact h

theorem rwhole_runs (hm : MayBe c) (hown : own.length = c.reads.length + c.writes.length) (h8 : ∀ b ∈ own, b.length = 8) (hE : Ends c (newM c, own) n) (hn : n ≤ 201) (hR : RunsTo c own n pc f st regs ou ov to bl)
    (w : World) (hC : CmIn w c ra nr rc wa nw wc aa na ac ca nc cc) (hO : Sl w 8 bA bn bc (blksW own)) :
    Calls Try.prog 10 #[cmV ra nr rc wa nw wc aa na ac c.fuel ca nc cc, .slice bA bn bc] w (XPost pc f st (rg regs 0) (rg regs 1) (rg regs 2) (rg regs 3) ou ov to bl n w) := by
  obtain ⟨d, hd⟩ := hm.depths
  have h := rwhole_any ra nr rc wa nw wc aa na ac ca nc cc c own n bA bn bc w hC hO (by omega) hE (fun k _ => steps_fit hm hd hown h8 k)
  rw [hR.is] at h
  exact h

theorem some_runs (hm : MayBe c) (hown : own.length = c.reads.length + c.writes.length) (h8 : ∀ b ∈ own, b.length = 8) (hE : Ends c (newM c, own) n) (hn : n ≤ 201) {most : Int} (hmo : -9223372036854775808 ≤ most ∧ most ≤ 9223372036854775807) (hR : RunsTo c own most.toNat pc f st regs ou ov to bl)
    (w : World) (hC : CmIn w c ra nr rc wa nw wc aa na ac ca nc cc) (hO : Sl w 8 bA bn bc (blksW own)) (hb : bn ≤ 1000) :
    Calls Try.prog 11 #[cmV ra nr rc wa nw wc aa na ac c.fuel ca nc cc, .slice bA bn bc, .int .i64 most] w (YPost pc f st (rg regs 0) (rg regs 1) (rg regs 2) (rg regs 3) ou ov to bl w) := by
  obtain ⟨d, hd⟩ := hm.depths
  have h := some_any ra nr rc wa nw wc aa na ac ca nc cc c own n most bA bn bc w hC hO (by omega) hb hmo hE (fun k _ => steps_fit hm hd hown h8 k)
  rw [hR.is] at h
  exact h

theorem rsome_runs (hm : MayBe c) (hown : own.length = c.reads.length + c.writes.length) (h8 : ∀ b ∈ own, b.length = 8) (hE : Ends c (newM c, own) n) (hn : n ≤ 201) {most : Int} (hmo : -9223372036854775808 ≤ most ∧ most ≤ 9223372036854775807) (hR : RunsTo c own most.toNat pc f st regs ou ov to bl)
    (w : World) (hC : CmIn w c ra nr rc wa nw wc aa na ac ca nc cc) (hO : Sl w 8 bA bn bc (blksW own)) :
    Calls Try.prog 12 #[cmV ra nr rc wa nw wc aa na ac c.fuel ca nc cc, .slice bA bn bc, .int .i64 most] w (YPost pc f st (rg regs 0) (rg regs 1) (rg regs 2) (rg regs 3) ou ov to bl w) := by
  obtain ⟨d, hd⟩ := hm.depths
  have h := rsome_any ra nr rc wa nw wc aa na ac ca nc cc c own n most bA bn bc w hC hO (by omega) hmo hE (fun k _ => steps_fit hm hd hown h8 k)
  rw [hR.is] at h
  exact h
end

/-- the same machines, wherever their lists lie: alike. -/
theorem same_mins {st ou : List Int} {bl : Blks} (h8 : ∀ b ∈ bl, b.length = 8) (hs : st.length ≤ 8) (ho : ou.length ≤ 8) {w : World} {sA : Option Addr} {sn sc : Nat} {oA : Option Addr} {on oc : Nat} {bA : Option Addr} {bn bc : Nat} {sA' : Option Addr} {sn' sc' : Nat} {oA' : Option Addr} {on' oc' : Nat} {bA' : Option Addr} {bn' bc' : Nat}
    (h : MIn w st ou bl sA sn sc oA on oc bA bn bc) (h' : MIn w st ou bl sA' sn' sc' oA' on' oc' bA' bn' bc') (pc fuel : Int) (r0 r1 r2 r3 : Int) (ov : Bool) (e0 : Int) :
    Calls Try.prog 13 #[.agg (mC pc fuel (.slice sA sn sc) r0 r1 r2 r3 (.slice oA on oc) ov e0), .agg (mC pc fuel (.slice sA' sn' sc') r0 r1 r2 r3 (.slice oA' on' oc') ov e0)] w fun e w' => e = .returned (.bool true) ∧ Below w.heap.size w w' := by
  obtain ⟨p1, p2, -⟩ := h.lens h8
  obtain ⟨q1, q2, -⟩ := h'.lens h8
  obtain rfl : sn = sn' := by omega
  obtain rfl : on = on' := by omega
  exact rsame_yes pc fuel st ou r0 r1 r2 r3 ov e0 sA sA' _ sc sc' oA oA' _ oc oc' w h.st h'.st h.ou h'.ou (by omega) (by omega)

theorem same_bks {st ou st' ou' : List Int} {bl : Blks} (h8 : ∀ b ∈ bl, b.length = 8) (hb : bl.length ≤ 1000) {w : World} {sA : Option Addr} {sn sc : Nat} {oA : Option Addr} {on oc : Nat} {bA : Option Addr} {bn bc : Nat} {sA' : Option Addr} {sn' sc' : Nat} {oA' : Option Addr} {on' oc' : Nat} {bA' : Option Addr} {bn' bc' : Nat}
    (h : MIn w st ou bl sA sn sc oA on oc bA bn bc) (h' : MIn w st' ou' bl sA' sn' sc' oA' on' oc' bA' bn' bc') :
    Calls Try.prog 14 #[.slice bA bn bc, .slice bA' bn' bc'] w fun e w' => e = .returned (.bool true) ∧ Below w.heap.size w w' := by
  obtain ⟨-, -, p3⟩ := h.lens h8
  obtain ⟨-, -, q3⟩ := h'.lens h8
  have k := h.bk
  have k' := h'.bk
  rw [p3] at k ⊢
  rw [q3] at k' ⊢
  exact rsameB_yes bl h8 _ _ _ _ _ w k k' rfl (by omega)

end Go.Proofs.Ytoomadafgkcebaa
