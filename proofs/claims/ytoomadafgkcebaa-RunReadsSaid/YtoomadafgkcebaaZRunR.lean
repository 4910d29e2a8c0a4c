/-
  RunReads, walked: true of any command and any two lists of blocks, in whatever memory.
-/
import Derived.Test.YtoomadafgkcebaaZRrgt
import Derived.Test.YtoomadafgkcebaaZRunD
import Derived.Test.YtoomadafgkcebaaQRunC
import Derived.Test.YtoomadafgkcebaaZRunX
import Derived.Test.YtoomadafgkcebaaZAppSl
import Derived.Test.YtoomadafgkcebaaZOwnE
import Derived.Test.YtoomadafgkcebaaZMchK
import Derived.Test.YtoomadafgkcebaaQRely
namespace Go.Proofs.Ytoomadafgkcebaa
open Go.RowKit
attribute [local go_sem] look findAt
attribute [local simp] depsOf isV Region.binds

/-- the same machines, with whatever blocks: alike. -/
theorem same_mins2 {st ou : List Int} {bl bl' : Blks} (h8 : ∀ b ∈ bl, b.length = 8) (h8' : ∀ b ∈ bl', b.length = 8) (hs : st.length ≤ 8) (ho : ou.length ≤ 8) {w : World} {sA : Option Addr} {sn sc : Nat} {oA : Option Addr} {on oc : Nat} {bA : Option Addr} {bn bc : Nat} {sA' : Option Addr} {sn' sc' : Nat} {oA' : Option Addr} {on' oc' : Nat} {bA' : Option Addr} {bn' bc' : Nat}
    (h : MIn w st ou bl sA sn sc oA on oc bA bn bc) (h' : MIn w st ou bl' sA' sn' sc' oA' on' oc' bA' bn' bc') (pc fuel : Int) (r0 r1 r2 r3 : Int) (ov : Bool) (e0 : Int) :
    Calls Try.prog 13 #[.agg (mC pc fuel (.slice sA sn sc) r0 r1 r2 r3 (.slice oA on oc) ov e0), .agg (mC pc fuel (.slice sA' sn' sc') r0 r1 r2 r3 (.slice oA' on' oc') ov e0)] w fun e w' => e = .returned (.bool true) ∧ Below w.heap.size w w' := by
  obtain ⟨p1, p2, -⟩ := h.lens h8
  obtain ⟨q1, q2, -⟩ := h'.lens h8'
  obtain rfl : sn = sn' := by omega
  obtain rfl : on = on' := by omega
  exact rsame_yes pc fuel st ou r0 r1 r2 r3 ov e0 sA sA' _ sc sc' oA oA' _ oc oc' w h.st h'.st h.ou h'.ou (by omega) (by omega)

section
variable (c : Cmd) (ra : Option Addr) (nr rc : Nat) (wa : Option Addr) (nw wc : Nat) (aa : Option Addr) (na ac : Nat) (ca : Option Addr) (nc cc : Nat)
variable (own : Blks) (bA : Option Addr) (bn bc : Nat) (other : Blks) (xA : Option Addr) (xn xc : Nat)

set_option maxHeartbeats 16000000 in
set_option maxRecDepth 100000 in
theorem runReads_no (w : World) (h : CmRaw w c ra nr rc wa nw wc aa na ac ca nc cc) (hno : ¬ (MayBe c ∧ bn = nr + nw)) :
    Calls Try.prog 5 #[cmV ra nr rc wa nw wc aa na ac c.fuel ca nc cc, .slice bA bn bc, .slice xA xn xc] w fun e w' => e = .returned (.bool true) ∧ Below w.heap.size w w' := by
  have hrt := Lib.hid (fun W (hW : Below w.heap.size w W) => right_any c ra nr rc wa nw wc aa na ac ca nc cc bA bn bc W (h.below hW) false ⟨(fun q => by cases q), fun q => absurd q hno⟩)
  have B0 := Lib.hid (below_alloc1 w (CmObj ra nr rc wa nw wc aa na ac c.fuel ca nc cc))
  have aw := Lib.hid (fun W => awake11 W)
  clear h hno
  generalize c.fuel = fuel at *
  go_enter Try.func5, Try.ntmps5
  go_wp2_with (first
    | (go_at_call 7; go_must ((with_reducible refine (hrt.out _ B0.out).mono ?_); rintro e w1 ⟨rfl, hb1⟩; have B1 := Lib.hid (bnext B0.out hb1); clear hb1))
    | (go_at_call 8; go_must ((with_reducible refine (aw.out _).mono ?_); rintro e w2 ⟨rfl, hb2⟩; have B2 := Lib.hid (bnext B1.out hb2))))
  go_ret
  exact ⟨rfl, B2.out⟩

set_option maxHeartbeats 16000000 in
set_option maxRecDepth 100000 in
theorem runReads_few (w : World) (h : CmRaw w c ra nr rc wa nw wc aa na ac ca nc cc) (hyes : MayBe c ∧ bn = nr + nw) (hfew : xn < bn) :
    Calls Try.prog 5 #[cmV ra nr rc wa nw wc aa na ac c.fuel ca nc cc, .slice bA bn bc, .slice xA xn xc] w fun e w' => e = .returned (.bool true) ∧ Below w.heap.size w w' := by
  have hrt := Lib.hid (fun W (hW : Below w.heap.size w W) => right_any c ra nr rc wa nw wc aa na ac ca nc cc bA bn bc W (h.below hW) true ⟨fun _ => hyes, fun _ => rfl⟩)
  have B0 := Lib.hid (below_alloc1 w (CmObj ra nr rc wa nw wc aa na ac c.fuel ca nc cc))
  have aw := Lib.hid (fun W => awake11 W)
  have d1 : (xn : Int) < (bn : Int) := by omega
  clear h hyes hfew
  generalize c.fuel = fuel at *
  go_enter Try.func5, Try.ntmps5
  go_wp2_with (first
    | (go_at_call 7; go_must ((with_reducible refine (hrt.out _ B0.out).mono ?_); rintro e w1 ⟨rfl, hb1⟩; have B1 := Lib.hid (bnext B0.out hb1); clear hb1))
    | (go_at_call 8; go_must ((with_reducible refine (aw.out _).mono ?_); rintro e w2 ⟨rfl, hb2⟩; have B2 := Lib.hid (bnext B1.out hb2))))
  go_ret
  exact ⟨rfl, B2.out⟩

set_option maxHeartbeats 16000000 in
set_option maxRecDepth 100000 in
theorem runReads_yes (hm : MayBe c) (hown : own.length = c.reads.length + c.writes.length) (h8 : ∀ b ∈ own, b.length = 8) (hx8 : ∀ b ∈ other, b.length = 8) (w : World) (h : CmRaw w c ra nr rc wa nw wc aa na ac ca nc cc) (hO : Sl w 8 bA bn bc (blksW own)) (hX : Sl w 8 xA xn xc (blksW other)) (hbn : bn = nr + nw) (hxn : other.length = xn) (hle : bn ≤ xn) :
    Calls Try.prog 5 #[cmV ra nr rc wa nw wc aa na ac c.fuel ca nc cc, .slice bA bn bc, .slice xA xn xc] w fun e w' => e = .returned (.bool true) ∧ Below w.heap.size w w' := by
  obtain ⟨dd, hd⟩ := hm.depths
  obtain ⟨g1, g2, g3, g4, f5, f6⟩ := hm.few
  have hC := h.maybe hm
  obtain ⟨cb, co, rfl, hcb, -, -, -⟩ := hC.code.cellAt (j := 0) (by omega)
  have hrt := Lib.hid (fun W (hW : Below w.heap.size w W) => right_any c ra nr rc wa nw wc aa na ac (some ⟨cb, co, none⟩) nc cc bA bn bc W (h.below hW) true ⟨fun _ => ⟨hm, hbn⟩, fun _ => rfl⟩)
  obtain ⟨n, pc, f, st, regs, ou, to, bl, hE, hR, n1, n2, n3, -, -⟩ := run_ends hm hown h8
  have hlc := h.lc
  have hbo : own.length = bn := by rw [hown, h.lr, h.lw, hbn]
  have hb1000 : bn ≤ 8 := by
    have := h.lr
    have := h.lw
    omega
  have hW := Lib.hid (fun W (hW : Below w.heap.size w W) => whole_runs ra nr rc wa nw wc aa na ac (some ⟨cb, co, none⟩) nc cc hm hown h8 hE n2 hR W (hC.below hW) (hO.below hW))
  have hWX := Lib.hid (fun (xs : Blks) (hfl : Filled c own nc xs) => show ∃ blx : Blks, (∀ b ∈ blx, b.length = 8) ∧ ∀ (W : World) (A : Option Addr) (k : Nat), Below w.heap.size w W → Sl W 8 A bn k (blksW xs) →
      Calls Try.prog 9 #[cmV ra nr rc wa nw wc aa na ac c.fuel (some ⟨cb, co, none⟩) nc cc, .slice A bn k] W (XPost pc f st (rg regs 0) (rg regs 1) (rg regs 2) (rg regs 3) ou true to blx n W) from by
    have hag := Filled.agree (by rw [hlc]; exact hfl) h8
    have hmok := new_ok hm hd hown h8
    have hE' := hE.reads hm hd hmok hag
    obtain ⟨e1, e2⟩ := steps_reads hm hd hmok hag n
    rw [hR.is] at e1 e2
    simp only at e1 e2
    refine ⟨(stepsM c n (newM c, xs)).2, e2.cellsB, fun W A k hW hS => whole_runs ra nr rc wa nw wc aa na ac (some ⟨cb, co, none⟩) nc cc hm (by rw [hfl.len, hown]) hfl.cells hE' n2 ⟨Prod.ext e1.symm rfl, hR.deep, hR.out, e2.cellsB, ?_⟩ W (hC.below hW) hS⟩
    rw [← e2.len, hR.many, hfl.len])
  have hK : Hid (∀ i, i < nc → ∀ W, Below w.heap.size w W → W.cell? ⟨cb, co + i * 3, none⟩ = some (.int .i64 (insAt c.code i).op) ∧ W.cell? ⟨cb, co + i * 3 + 1, none⟩ = some (.int .i64 (insAt c.code i).a) ∧ W.cell? ⟨cb, co + i * 3 + 2, none⟩ = some (.int .i64 (insAt c.code i).b)) := Lib.hid (fun i hi W hW => by
    obtain ⟨b, off, e, hb, x0, x1, x2⟩ := hC.code.cellAt (j := i) (by omega)
    injection e with e
    injection e with e1 e2
    subst e1
    subst e2
    exact ⟨(hW.cell (p := ⟨cb, co + i * 3, none⟩) hb).trans x0, (hW.cell (p := ⟨cb, co + i * 3 + 1, none⟩) hb).trans x1, (hW.cell (p := ⟨cb, co + i * 3 + 2, none⟩) hb).trans x2⟩)
  have hG : Hid (∀ i, i < nc → (insAt c.code i).op = 4 → ∃ a b : Nat, insAt c.code i = ⟨4, a, b⟩ ∧ a < bn ∧ b < 8) := Lib.hid (fun i hi hop => by
    obtain ⟨-, -, hb, -⟩ := hm.ops _ (insAt_mem (l := c.code) (i := i) (by omega))
    obtain ⟨q1, q2, q3, q4⟩ := hb hop
    obtain ⟨a, ha⟩ := Int.eq_ofNat_of_zero_le q1
    obtain ⟨b, hb⟩ := Int.eq_ofNat_of_zero_le q3
    refine ⟨a, b, ?_, by omega, by omega⟩
    rcases hx : insAt c.code i with ⟨o', a', b'⟩
    rw [hx] at ha hb hop
    simp only at ha hb hop
    rw [ha, hb, hop])
  have hsrc : Hid (∀ a b, a < bn → b < 8 → ∃ ob oo, bA = some ⟨ob, oo, none⟩ ∧ ∀ W, Below w.heap.size w W → W.cell? ⟨ob, oo + a * 8 + b, none⟩ = some (.int .i64 (getC (own[a]?.getD []) b))) := Lib.hid (fun a b ha hb => by
    obtain ⟨ob, oo, e, hlt, hc⟩ := hO.2.2.2 (by omega)
    refine ⟨ob, oo, e, fun W hW => ?_⟩
    rw [hW.cell (p := ⟨ob, oo + a * 8 + b, none⟩) hlt, show oo + a * 8 + b = oo + (a * 8 + b) by omega, hc _ (by omega), blksW_at own h8 a (by omega) b hb]
    simp [getC, show (b : Int) < 8 by omega])
  have OT : Hid (Sl w 8 xA bn xc (blksW (other.take bn))) := Lib.hid (by
    rw [← blksW_take other hx8 bn (by omega)]
    exact hX.take hle)
  have hF0 : Hid (Filled c own 0 (other.take bn)) := Lib.hid (Filled.start (by rw [List.length_take, hbo]; omega) (fun b hb => hx8 b (List.mem_of_mem_take hb)))
  have hFs := Lib.hid (fun (i : Nat) (xs : Blks) (q : Filled c own i xs) ho => q.skip ho)
  have hFp := Lib.hid (fun (i : Nat) (xs : Blks) (q : Filled c own i xs) (a b : Nat) (e : insAt c.code i = ⟨4, a, b⟩) (ha : a < bn) hb => (⟨q.put e (by omega) hb, blksW_put xs q.cells (a := a) (b := b) (by rw [q.len]; omega) hb (getC (own[a]?.getD []) b), by rw [blksW_length xs q.cells, q.len, hbo]⟩ : Filled c own (i + 1) (xs.set a (putC (xs[a]?.getD []) b (getC (own[a]?.getD []) b))) ∧ (blksW xs).set (a * 8 + b) (.int .i64 (getC (own[a]?.getD []) b)) = blksW (xs.set a (putC (xs[a]?.getD []) b (getC (own[a]?.getD []) b))) ∧ (blksW xs).length = bn * 8))
  obtain ⟨iB, hib, hb0, hbs, hbb⟩ := infoBlkZ
  have H8 := Lib.hid hR.cells
  have HD := Lib.hid hR.deep
  have HO8 := Lib.hid hR.out
  have B_0 := Lib.hid (below_alloc1 w (CmObj ra nr rc wa nw wc aa na ac c.fuel (some ⟨cb, co, none⟩) nc cc))
  have C_0 : Hid (Bk (w.alloc (CmObj ra nr rc wa nw wc aa na ac c.fuel (some ⟨cb, co, none⟩) nc cc)) w.heap.size 25 #[.slice ra nr rc, .slice wa nw wc, .slice aa na ac, .int .i64 c.fuel, .slice (some ⟨cb, co, none⟩) nc cc]) := Lib.hid (Bk.new w _ _)
  have aw := Lib.hid (fun W => awake11 W)
  have hcc := hC.code.2.1
  rw [hlc] at hcc
  have hnc : nc ≤ 64 := by omega
  have hxx : xn ≤ xc := hX.2.1
  have hbx : bn ≤ xc := by omega
  have hbc : bn ≤ bc := hO.2.1
  have d2 : decide ((xn : Int) < (bn : Int)) = false := decide_eq_false (by omega)
  clear h hm hown h8 hO hX hbn hC hE hR hx8 hxn hlc hbo g1 g2 g3 g4 f5 f6 n3 hd
  generalize c.fuel = F at *
  generalize (to : Int) = e0 at *
  generalize rg regs 0 = r0 at *
  generalize rg regs 1 = r1 at *
  generalize rg regs 2 = r2 at *
  generalize rg regs 3 = r3 at *
  go_enter Try.func5, Try.ntmps5
  go_wp2_with (first
    | (go_at_call 7; go_must ((with_reducible refine (hrt.out _ B_0.out).mono ?_); rintro e w1 ⟨rfl, hb⟩; have C_1 := Lib.hid (C_0.out.below hb); have B_1 := Lib.hid (bnext B_0.out hb); clear hb))
    | (refine wpList_slice_to _ _ _ 47 iB Try.underlying26 hib xA xn xc bn hbx rfl rfl rfl rfl ?_)
    | (at_builtin; go_must (refine append_sl rfl (.tmp 28) (.tmp 32) _ rfl w1.heap.size 47 iB _ 8 64 Try.underlying26 hib hb0 hbs hbb rfl (by decide) (.slice (some ⟨w1.heap.size, 0, none⟩) 0 0) 0 [] rfl (own_empty w1 _ _ _ (Nat.le_refl _)) xA bn xc _ rfl (OT.out.below (bnext B_1.out (below_alloc1 _ _))) (blksW_one _) (by unfold maxLen; omega) (by omega) (by simp) ?_; intro v' w3 ho3 hg3; have B3 : Hid (Below w1.heap.size w1 w3) := Lib.hid (((Below.refl _ _).alloc (Nat.le_refl _) _).grown hg3 (by simp) (fun q hq => by simp [Value.ownBlock] at hq; omega)); obtain ⟨A3, c3, rfl, -⟩ := Sl.own ho3; simp only [Nat.zero_add, List.nil_append] at ho3; have O3 := Lib.hid ho3; clear ho3 hg3)))
  have hw1 : Hid (w.heap.size < w1.heap.size) := Lib.hid C_1.out.lt
  have C1 := C_1
  have B1 := B_1
  clear C_1 B_1 C_0 B_0 hrt OT
  go_loopw [8] (fun ii wr => ∃ (i : Nat) (xs : Blks), i ≤ nc ∧ ii = .int .i64 (i : Int) ∧ Hid (Filled c own i xs) ∧ Hid (Below w1.heap.size w1 wr) ∧ Hid (wr.ownsRow w1.heap.size 47 8 (.slice A3 bn c3) bn (blksW xs))) (fun ii _ => nc - (intOf ii).toNat)
  case atStart => exact ⟨0, _, Nat.zero_le _, rfl, hF0, B3, O3⟩
  case round =>
    clear B3 O3 hF0
    obtain ⟨i, xs, hi, rfl, HFL, HB, HW⟩ := hrel
    have HC := Lib.hid (C1.out.below HB.out)
    obtain ⟨f0, f1, f2, f3, f4, ff⟩ := HC.out.cmd
    have fl := HC.out.lt
    by_cases hlt : i < nc
    · have d1 : (i : Int) < (nc : Int) := by omega
      have d3 : (i : Int) < (cc : Int) := by omega
      obtain ⟨k0, k1, k2⟩ := hK.out i hlt wr (bnext B1.out HB.out)
      by_cases hop : (insAt c.code i).op = 4
      · obtain ⟨a, b, hx, ha, hb8⟩ := hG.out i hlt hop
        obtain ⟨hf1, hset, hlen⟩ := hFp.out i xs HFL.out a b hx ha hb8
        rw [hx] at k0 k1 k2
        simp only at k0 k1 k2
        obtain ⟨ob, oo, rfl, hv⟩ := hsrc.out a b ha hb8
        obtain ⟨v, hve⟩ : ∃ v, v = getC (own[a]?.getD []) b := ⟨_, rfl⟩
        rw [← hve] at hv hset hf1
        obtain ⟨g, cur, rfl, hgB, hgk, hgc, -, hgs, hgt⟩ := own_pos HW.out (by omega)
        have GK := Lib.hid hgk
        have GS := Lib.hid hgs
        have HV := Lib.hid hv
        have HF1 := Lib.hid hf1
        have HSET := Lib.hid hset
        have e1 : (a : Int) < (bn : Int) := by omega
        have e2 : (b : Int) < 8 := by omega
        have e3 : (a : Int) < (bc : Int) := by omega
        have e4 : (a : Int) < (c3 : Int) := by omega
        have hab : a * 8 + b < cur.size := by rw [hgs]; omega
        have HAB := Lib.hid hab
        clear hx hop hf1 hset hlen hv hve hgk hgs hgt hab
        go_wp2
        obtain ⟨W9, hW9⟩ : ∃ W, W = wr.alloc (.cells #[.int .i64 4, .int .i64 (a : Int), .int .i64 (b : Int)] 45) := ⟨_, rfl⟩
        have B9 : Hid (Below wr.heap.size wr W9) := Lib.hid (by rw [hW9]; exact below_alloc1 _ _)
        have I9 : Hid (Bk W9 wr.heap.size 45 #[.int .i64 4, .int .i64 (a : Int), .int .i64 (b : Int)]) := Lib.hid (by rw [hW9]; exact Bk.new wr _ _)
        have hQ : Hid (∀ X, Below W9.heap.size W9 X → X.cell? ⟨wr.heap.size, 1, none⟩ = some (.int .i64 (a : Int)) ∧ X.cell? ⟨wr.heap.size, 2, none⟩ = some (.int .i64 (b : Int)) ∧ X.cell? ⟨ob, oo + a * 8 + b, none⟩ = some (.int .i64 v)) := Lib.hid (fun X hX => ⟨(I9.out.below hX).cell 1, (I9.out.below hX).cell 2, HV.out X (bnext (bnext (bnext B1.out HB.out) B9.out) hX)⟩)
        rw [← hW9]
        clear hW9
        try simp only [List.append_eq, List.cons_append, List.nil_append]
        refine wp_region_saysK 15 (fun x y => Below x.heap.size x y) (fun _ _ _ h k => bnext h k) W9 (below_drew1 W9) (by kernel_rfl) (by kernel_rfl) (by kernel_rfl) (by kernel_rfl) (by rfl) ?_
        simp only [List.take_succ_cons, List.take_zero, List.drop_succ_cons, List.drop_zero]
        refine walkK_is ?_ (by first | exact gs0 rfl | exact gs1 rfl rfl rfl) (fun _ => Below.refl _ _) (fun u X hX hd => ?_) ?_
        rotate_left
        · obtain ⟨q1, q2, q3⟩ := hQ.out X hX
          try simp at hd
          go_simp
          try rfl
        apply walkK_norm
        · first | (simp only [List.nil_append]; rfl) | simp only [List.nil_append]
        refine walkK_is ?_ (by first | exact gs0 rfl | exact gs1 rfl rfl rfl) (fun _ => Below.refl _ _) (fun u X hX hd => ?_) ?_
        rotate_left
        · obtain ⟨q1, q2, q3⟩ := hQ.out X hX
          try simp at hd
          go_simp
          try rfl
        apply walkK_norm
        · first | (simp only [List.nil_append, List.cons_append]; rfl) | simp only [List.nil_append, List.cons_append]
        refine walkK_is ?_ (by first | exact gs0 rfl | exact gs1 rfl rfl rfl) (fun _ => Below.refl _ _) (fun u X hX hd => ?_) ?_
        rotate_left
        · obtain ⟨q1, q2, q3⟩ := hQ.out X hX
          try simp at hd
          go_simp
          try rfl
        apply walkK_norm
        · first | (simp only [List.nil_append, List.cons_append]; rfl) | simp only [List.nil_append, List.cons_append]
        refine walkK_is ?_ (by first | exact gs0 rfl | exact gs1 rfl rfl rfl) (fun _ => Below.refl _ _) (fun u X hX hd => ?_) ?_
        rotate_left
        · obtain ⟨q1, q2, q3⟩ := hQ.out X hX
          try simp at hd
          go_simp
          try rfl
        apply walkK_norm
        · first | (simp only [List.nil_append, List.cons_append]; rfl) | simp only [List.nil_append, List.cons_append]
        refine walkK_is ?_ (by first | exact gs0 rfl | exact gs1 rfl rfl rfl) (fun _ => Below.refl _ _) (fun u X hX hd => ?_) ?_
        rotate_left
        · obtain ⟨q1, q2, q3⟩ := hQ.out X hX
          try simp at hd
          go_simp
          try rfl
        apply walkK_norm
        · first | (simp only [List.nil_append, List.cons_append]; rfl) | simp only [List.nil_append, List.cons_append]
        refine walkK_is ?_ (by first | exact gs0 rfl | exact gs1 rfl rfl rfl) (fun _ => Below.refl _ _) (fun u X hX hd => ?_) ?_
        rotate_left
        · obtain ⟨q1, q2, q3⟩ := hQ.out X hX
          try simp at hd
          go_simp
          try rfl
        apply walkK_norm
        · first | (simp only [List.nil_append, List.cons_append]; rfl) | simp only [List.nil_append, List.cons_append]
        refine walkK_is ?_ (by first | exact gs0 rfl | exact gs1 rfl rfl rfl) (fun _ => Below.refl _ _) (fun u X hX hd => ?_) ?_
        rotate_left
        · obtain ⟨q1, q2, q3⟩ := hQ.out X hX
          try simp at hd
          go_simp
          try rfl
        apply walkK_norm
        · first | (simp only [List.nil_append, List.cons_append]; rfl) | simp only [List.nil_append, List.cons_append]
        refine walkK_is ?_ (by first | exact gs0 rfl | exact gs1 rfl rfl rfl) (fun _ => Below.refl _ _) (fun u X hX hd => ?_) ?_
        rotate_left
        · obtain ⟨q1, q2, q3⟩ := hQ.out X hX
          try simp at hd
          go_simp
          try rfl
        apply walkK_norm
        · first | (simp only [List.nil_append, List.cons_append]; rfl) | simp only [List.nil_append, List.cons_append]
        refine walkK_is ?_ (by first | exact gs0 rfl | exact gs1 rfl rfl rfl) (fun _ => Below.refl _ _) (fun u X hX hd => ?_) ?_
        rotate_left
        · obtain ⟨q1, q2, q3⟩ := hQ.out X hX
          try simp at hd
          go_simp
          try rfl
        apply walkK_norm
        · first | (simp only [List.nil_append, List.cons_append]; rfl) | simp only [List.nil_append, List.cons_append]
        refine walkK_is ?_ (by first | exact gs0 rfl | exact gs1 rfl rfl rfl) (fun _ => Below.refl _ _) (fun u X hX hd => ?_) ?_
        rotate_left
        · obtain ⟨q1, q2, q3⟩ := hQ.out X hX
          try simp at hd
          go_simp
          try rfl
        apply walkK_norm
        · first | (simp only [List.nil_append, List.cons_append]; rfl) | simp only [List.nil_append, List.cons_append]
        refine walkK_is ?_ (by first | exact gs0 rfl | exact gs1 rfl rfl rfl) (fun _ => Below.refl _ _) (fun u X hX hd => ?_) ?_
        rotate_left
        · obtain ⟨q1, q2, q3⟩ := hQ.out X hX
          try simp at hd
          go_simp
          try rfl
        apply walkK_norm
        · first | (simp only [List.nil_append, List.cons_append]; rfl) | simp only [List.nil_append, List.cons_append]
        refine walkK_is ?_ (by first | exact gs0 rfl | exact gs1 rfl rfl rfl) (fun _ => Below.refl _ _) (fun u X hX hd => ?_) ?_
        rotate_left
        · obtain ⟨q1, q2, q3⟩ := hQ.out X hX
          try simp at hd
          go_simp
          try rfl
        apply walkK_norm
        · first | (simp only [List.nil_append, List.cons_append]; rfl) | simp only [List.nil_append, List.cons_append]
        refine walkK_is ?_ (by first | exact gs0 rfl | exact gs1 rfl rfl rfl) (fun _ => Below.refl _ _) (fun u X hX hd => ?_) ?_
        rotate_left
        · obtain ⟨q1, q2, q3⟩ := hQ.out X hX
          try simp at hd
          go_simp
          try rfl
        apply walkK_norm
        · first | (simp only [List.nil_append, List.cons_append]; rfl) | simp only [List.nil_append, List.cons_append]
        refine walkK_is ?_ (by first | exact gs0 rfl | exact gs1 rfl rfl rfl) (fun _ => Below.refl _ _) (fun u X hX hd => ?_) ?_
        rotate_left
        · obtain ⟨q1, q2, q3⟩ := hQ.out X hX
          try simp at hd
          go_simp
          try rfl
        apply walkK_norm
        · first | (simp only [List.nil_append, List.cons_append]; rfl) | simp only [List.nil_append, List.cons_append]
        refine walkK_is ?_ (by first | exact gs0 rfl | exact gs1 rfl rfl rfl) (fun _ => Below.refl _ _) (fun u X hX hd => ?_) ?_
        rotate_left
        · obtain ⟨q1, q2, q3⟩ := hQ.out X hX
          try simp at hd
          go_simp
          try rfl
        apply walkK_norm
        · first | (simp only [List.nil_append, List.cons_append]; rfl) | simp only [List.nil_append, List.cons_append]
        intro u X hX hsay
        simp only [sayAll, isV] at hsay
        obtain ⟨v0, v1, v2, v3, v4, v5, v6, v7, v8, v9, v10, v11, v12, v13, v14, -⟩ := hsay
        have GX := Lib.hid ((GK.out.below B9.out).below hX)
        have hold : ∃ z, X.cell? ⟨g, a * 8 + b, none⟩ = some z := ⟨_, (GX.out.cell (a * 8 + b)).trans (Array.getElem?_eq_getElem HAB.out)⟩
        obtain ⟨z, hz⟩ := hold
        have hzf := GX.out.frozen (a * 8 + b)
        have hzl := GX.out.lt
        have OX := Lib.hid (own_below (own_below HW.out B9.out) hX)
        have BX := Lib.hid (bnext (bnext HB.out B9.out) hX)
        simp only [putAll, Act.put, v0, v1, v2, v3, v4, v5, v6, v7, v8, v9, v10, v11, v12, v13, v14, List.setIfInBounds_toArray, List.set_cons_succ, List.set_cons_zero]
        clear v0 v1 v2 v3 v4 v5 v6 v7 v8 v9 v10 v11 v12 v13 v14 hX
        go_wp2
        go_roundw
        case rel =>
          refine ⟨i + 1, _, by omega, by go_num, HF1, Lib.hid (BX.out.setCell (p := ⟨g, a * 8 + b, none⟩) hgB _), Lib.hid ?_⟩
          rw [← HSET.out]
          exact (OX.out.stored (a * 8 + b) (.int .i64 v)).1
        case measure => simp [intOf]; omega
      · have HS := Lib.hid (hFs.out i xs HFL.out hop)
        have hop' : ((insAt c.code i).op == 4) = false := by simpa using hop
        clear hop
        generalize (insAt c.code i).op = op at *
        generalize (insAt c.code i).a = a at *
        generalize (insAt c.code i).b = b at *
        go_wp2
        go_roundw
        case rel =>
          exact ⟨i + 1, xs, by omega, by go_num, HS, Lib.hid (bnext HB.out (below_alloc1 _ _)), Lib.hid (own_below HW.out (below_alloc1 _ _))⟩
        case measure => simp [intOf]; omega
    · obtain rfl : i = nc := by omega
      obtain ⟨blx, hx8, hwx⟩ := hWX.out xs HFL.out
      have HX8 := Lib.hid hx8
      have HWX := Lib.hid hwx
      have O_10 := Lib.hid (Sl.own' HW.out)
      have B_10 := Lib.hid (bnext B1.out HB.out)
      have C_10 := HC
      clear hx8 hwx hlt HC HB HW HFL hWX hK hG hsrc hFs hFp
      have n_Whole1 : True := trivial
      have n_Whole2 : True := trivial
      go_wp2_with (first
        | (go_at_call 9; clear n_Whole1; go_must ((with_reducible refine (hW.out _ B_10.out).mono ?_); rintro e w11 ⟨sA11, sn11, sc11, oA11, on11, oc11, bA11, bn11, bc11, rfl, q, hb0⟩; have hb := bnext hb0 (var_below w11 (mC pc f (.slice sA11 sn11 sc11) r0 r1 r2 r3 (.slice oA11 on11 oc11) true e0)); have C_11 := Lib.hid (C_10.out.below hb); have O_11 := Lib.hid (O_10.out.below hb); have B_11 := Lib.hid (bnext B_10.out hb); have N11 := Lib.hid (Bk.new w11 32 mZ); have K11_11 := Lib.hid (var_bk w11 (mC pc f (.slice sA11 sn11 sc11) r0 r1 r2 r3 (.slice oA11 on11 oc11) true e0)); have M11_11 := Lib.hid (q.below (var_below w11 (mC pc f (.slice sA11 sn11 sc11) r0 r1 r2 r3 (.slice oA11 on11 oc11) true e0))); obtain ⟨zc0, zc1, zc2, zc3, zc4, zcf⟩ := C_11.out.cmd; have zcl := C_11.out.lt; clear hb hb0 q))
        | (with_reducible refine st_mach w11.heap.size N11.out rfl rfl _ _ rfl rfl rfl rfl ?_)
        | (go_at_call 9; clear n_Whole2; go_must ((with_reducible refine (HWX.out _ _ _ B_11.out O_11.out).mono ?_); rintro e w12 ⟨sA12, sn12, sc12, oA12, on12, oc12, bA12, bn12, bc12, rfl, q, hb0⟩; have hb := bnext hb0 (var_below w12 (mC pc f (.slice sA12 sn12 sc12) r0 r1 r2 r3 (.slice oA12 on12 oc12) true e0)); have C_12 := Lib.hid (C_11.out.below hb); have O_12 := Lib.hid (O_11.out.below hb); have K11_12 := Lib.hid (K11_11.out.below hb); have M11_12 := Lib.hid (M11_11.out.below hb); have B_12 := Lib.hid (bnext B_11.out hb); have N12 := Lib.hid (Bk.new w12 32 mZ); have K12_12 := Lib.hid (var_bk w12 (mC pc f (.slice sA12 sn12 sc12) r0 r1 r2 r3 (.slice oA12 on12 oc12) true e0)); have M12_12 := Lib.hid (q.below (var_below w12 (mC pc f (.slice sA12 sn12 sc12) r0 r1 r2 r3 (.slice oA12 on12 oc12) true e0))); clear zc0 zc1 zc2 zc3 zc4 zcf zcl; clear hb hb0 q))
        | (with_reducible refine st_mach w12.heap.size N12.out rfl rfl _ _ rfl rfl rfl rfl ?_)
        | (go_at_call 8; go_must ((with_reducible refine (aw.out _).mono ?_); rintro e w13 ⟨rfl, hb⟩; have C_13 := Lib.hid (C_12.out.below hb); have O_13 := Lib.hid (O_12.out.below hb); have K11_13 := Lib.hid (K11_12.out.below hb); have M11_13 := Lib.hid (M11_12.out.below hb); have K12_13 := Lib.hid (K12_12.out.below hb); have M12_13 := Lib.hid (M12_12.out.below hb); have B_13 := Lib.hid (bnext B_12.out hb); clear hb))
        | (refine wpList_load_at _ w11.heap.size 0 (load_mach K11_13.out) _ rfl rfl rfl ?_)
        | (refine wpList_load_at _ w12.heap.size 0 (load_mach K12_13.out) _ rfl rfl rfl ?_)
        | (go_at_call 13; go_must ((with_reducible refine (same_mins2 H8.out HX8.out HD.out HO8.out M11_13.out M12_13.out pc f r0 r1 r2 r3 true e0).mono ?_); rintro e w14 ⟨rfl, hb⟩; have C_14 := Lib.hid (C_13.out.below hb); have O_14 := Lib.hid (O_13.out.below hb); have K11_14 := Lib.hid (K11_13.out.below hb); have M11_14 := Lib.hid (M11_13.out.below hb); have K12_14 := Lib.hid (K12_13.out.below hb); have M12_14 := Lib.hid (M12_13.out.below hb); have B_14 := Lib.hid (bnext B_13.out hb); clear hb)))
      go_ret
      exact ⟨rfl, B_14.out⟩

theorem runReads_walk (h8 : ∀ b ∈ own, b.length = 8) (hx8 : ∀ b ∈ other, b.length = 8) (w : World) (h : CmRaw w c ra nr rc wa nw wc aa na ac ca nc cc) (hO : Sl w 8 bA bn bc (blksW own)) (hbn : own.length = bn) (hX : Sl w 8 xA xn xc (blksW other)) (hxn : other.length = xn) :
    Calls Try.prog 5 #[cmV ra nr rc wa nw wc aa na ac c.fuel ca nc cc, .slice bA bn bc, .slice xA xn xc] w fun e w' => e = .returned (.bool true) ∧ Below w.heap.size w w' := by
  by_cases hm : MayBe c ∧ bn = nr + nw
  · by_cases hx : bn ≤ xn
    · exact runReads_yes c ra nr rc wa nw wc aa na ac ca nc cc own bA bn bc other xA xn xc hm.1 (by rw [h.lr, h.lw, hbn]; exact hm.2) h8 hx8 w h hO hX hm.2 hxn hx
    · exact runReads_few c ra nr rc wa nw wc aa na ac ca nc cc bA bn bc xA xn xc w h hm (by omega)
  · exact runReads_no c ra nr rc wa nw wc aa na ac ca nc cc bA bn bc xA xn xc w h hm
end
end Go.Proofs.Ytoomadafgkcebaa
