/-
  MachineEnds, walked: true of any command and any blocks, in whatever memory.
-/
import Derived.Test.YtehaknnoplcbcaaZMrgt
import Derived.Test.YtehaknnoplcbcaaZRunQ
import Derived.Test.YtehaknnoplcbcaaZMchY
namespace Go.Proofs.Ytehaknnoplcbcaa
open Go.RowKit

/-- behind so many steps: over, or going on. -/
structure EndsAt (c : Cmd) (own : Blks) (N k : Nat) (m : Mac) (bl : Blks) : Prop where
  is : stepsM c k (newM c, own) = (m, bl)
  fuel : 0 ≤ m.fuel ∧ m.fuel ≤ N
  deep : m.stack.length ≤ 8
  out : m.out.length ≤ 8
  told : m.told ≠ 0 → m.out = []
  cells : ∀ b ∈ bl, b.length = 8
  many : bl.length = own.length
  fit : Fit c m bl
  reads : ∀ i, i < c.reads.length → bl[i]? = own[i]?
  goes : m.over = false → k ≤ N ∧ m.fuel = N - k

theorem endsAt {c : Cmd} {own : Blks} {N : Nat} (hc : MayBe c) (hown : own.length = c.reads.length + c.writes.length) (h8 : ∀ b ∈ own, b.length = 8) (hN : c.fuel = N) : ∀ k, EndsAt c own N k (stepsM c k (newM c, own)).1 (stepsM c k (newM c, own)).2 := by
  obtain ⟨d, hd⟩ := hc.depths
  have h0 := new_ok hc hd hown h8
  intro k
  have hm := steps_ok hc hd (r := (newM c, own)) h0 k
  have hle := steps_fuel_le (c := c) (newM c, own) k
  rw [show (newM c, own).1.fuel = c.fuel from rfl, hN] at hle
  have hr : ∀ k i, i < c.reads.length → (stepsM c k (newM c, own)).2[i]? = own[i]? := by
    intro k
    induction k with
    | zero => exact fun _ _ => rfl
    | succ k ih =>
      intro i hi
      rw [steps_succ]
      obtain ⟨-, -, h3, -⟩ := step_ok hc hd (steps_ok hc hd (r := (newM c, own)) h0 k)
      rw [h3 i hi]
      exact ih i hi
  refine ⟨rfl, ⟨hm.fuel, hle⟩, hm.deep, hm.out, hm.told, hm.cells, by rw [hm.many, hown], steps_fit hc hd hown h8 k, hr k, fun ho => ?_⟩
  have hf := steps_fuel hc hd (r := (newM c, own)) h0 k (fun j hj => by
    cases hjo : (stepsM c j (newM c, own)).1.over with
    | false => rfl
    | true =>
      obtain ⟨q, rfl⟩ := Nat.exists_eq_add_of_le hj
      rw [steps_add, steps_over hjo, hjo] at ho
      cases ho)
  rw [show (newM c, own).1.fuel = c.fuel from rfl, hN] at hf
  have := hm.fuel
  exact ⟨by omega, hf⟩

/-- one step more. -/
theorem EndsAt.next {c : Cmd} {own : Blks} {N k : Nat} {m : Mac} {bl : Blks} (hc : MayBe c) (hown : own.length = c.reads.length + c.writes.length) (h8 : ∀ b ∈ own, b.length = 8) (hN : c.fuel = N) (h : EndsAt c own N k m bl) (ho : m.over = false) :
    ∃ m' bl', stepM c m bl = (m', bl') ∧ EndsAt c own N (k + 1) m' bl' ∧ m.pc ≤ m'.pc ∧ (m'.fuel = m.fuel - 1 ∨ (m'.told = 11 ∧ m.fuel = 0 ∧ m'.fuel = 0)) := by
  obtain ⟨d, hd⟩ := hc.depths
  have h1 := endsAt hc hown h8 hN (k + 1)
  have hm := steps_ok hc hd (r := (newM c, own)) (new_ok hc hd hown h8) k
  have e : stepsM c (k + 1) (newM c, own) = stepM c m bl := by rw [steps_succ, h.is]
  rw [h.is] at hm
  obtain ⟨-, h2, -, h4⟩ := step_ok hc hd hm
  rw [e] at h1
  refine ⟨(stepM c m bl).1, (stepM c m bl).2, rfl, h1, h2, ?_⟩
  rcases h4 ho with h4 | ⟨h5, h6, -⟩
  · exact .inl h4
  · refine .inr ⟨h5, h6, ?_⟩
    rw [step_empty ho h6]
    exact h6

section
variable (c : Cmd) (ra : Option Addr) (nr rc : Nat) (wa : Option Addr) (nw wc : Nat) (aa : Option Addr) (na ac : Nat) (ca : Option Addr) (nc cc : Nat)
variable (own : Blks) (bA : Option Addr) (bn bc : Nat)

set_option maxHeartbeats 16000000 in
set_option maxRecDepth 100000 in
theorem machineEnds_no (w : World) (h : CmRaw w c ra nr rc wa nw wc aa na ac ca nc cc) (hno : ¬ (MayBe c ∧ bn = nr + nw)) :
    Calls Try.prog 4 #[cmV ra nr rc wa nw wc aa na ac c.fuel ca nc cc, .slice bA bn bc] w fun e w' => e = .returned (.bool true) ∧ Below w.heap.size w w' := by
  have hrt := Lib.hid (fun W (hW : Below w.heap.size w W) => right_any c ra nr rc wa nw wc aa na ac ca nc cc bA bn bc W (h.below hW) false ⟨(fun q => by cases q), fun q => absurd q hno⟩)
  have B0 := Lib.hid (below_alloc1 w (CmObj ra nr rc wa nw wc aa na ac c.fuel ca nc cc))
  have aw := Lib.hid (fun W => awake10 W)
  clear h hno
  generalize c.fuel = fuel at *
  go_enter Try.func4, Try.ntmps4
  go_wp2_with (first
    | (go_at_call 9; go_must ((with_reducible refine (hrt.out _ B0.out).mono ?_); rintro e w1 ⟨rfl, hb1⟩; have B1 := Lib.hid (bnext B0.out hb1); clear hb1))
    | (go_at_call 10; go_must ((with_reducible refine (aw.out _).mono ?_); rintro e w2 ⟨rfl, hb2⟩; have B2 := Lib.hid (bnext B1.out hb2))))
  go_ret
  exact ⟨rfl, B2.out⟩

set_option maxHeartbeats 16000000 in
set_option maxRecDepth 100000 in
theorem machineEnds_yes (hm : MayBe c) (hown : own.length = c.reads.length + c.writes.length) (h8 : ∀ b ∈ own, b.length = 8) (w : World) (h : CmRaw w c ra nr rc wa nw wc aa na ac ca nc cc) (hO : Sl w 8 bA bn bc (blksW own)) (hbn : bn = nr + nw) :
    Calls Try.prog 4 #[cmV ra nr rc wa nw wc aa na ac c.fuel ca nc cc, .slice bA bn bc] w fun e w' => e = .returned (.bool true) ∧ Below w.heap.size w w' := by
  obtain ⟨f1, f2, f3, f4, f5, f6⟩ := hm.few
  have hC := h.maybe hm
  have hrt := Lib.hid (fun W (hW : Below w.heap.size w W) => right_any c ra nr rc wa nw wc aa na ac ca nc cc bA bn bc W (h.below hW) true ⟨fun _ => ⟨hm, hbn⟩, fun _ => rfl⟩)
  obtain ⟨N, hN⟩ := Int.eq_ofNat_of_zero_le (show (0 : Int) ≤ c.fuel by omega)
  have HE0 := Lib.hid (endsAt hm hown h8 hN 0)
  have HNX := Lib.hid (fun (k : Nat) (m : Mac) (bl : Blks) (q : EndsAt c own N k m bl) ho => q.next hm hown h8 hN ho)
  have HST := Lib.hid (fun (m : Mac) (bl : Blks) (hf : Fit c m bl) (W : World) (hW : Below w.heap.size w W) (sA : Option Addr) (sn sc : Nat) (oA : Option Addr) (on oc : Nat) (bA : Option Addr) (bn bc : Nat) hM => step_any ra nr rc wa nw wc aa na ac ca nc cc sA sn sc oA on oc bA bn bc c m bl W hf (hC.below hW) hM)
  have B0 := Lib.hid (below_alloc1 w (CmObj ra nr rc wa nw wc aa na ac c.fuel ca nc cc))
  have C0 : Hid (Bk (w.alloc (CmObj ra nr rc wa nw wc aa na ac c.fuel ca nc cc)) w.heap.size 25 #[.slice ra nr rc, .slice wa nw wc, .slice aa na ac, .int .i64 c.fuel, .slice ca nc cc]) := Lib.hid (Bk.new w _ _)
  have aw := Lib.hid (fun W => awake10 W)
  have hn1 := Lib.hid (fun W => mnew_any ra nr rc wa nw wc aa na ac c.fuel ca nc cc W)
  have HO := Lib.hid hO
  have H8 := Lib.hid h8
  have HLR := Lib.hid h.lr
  have HL := Lib.hid (show own.length = bn by rw [hown, h.lr, h.lw, hbn])
  have hyes := Lib.hid (fun (own : Blks) (h8 : ∀ b ∈ own, b.length = 8) (A A' : Option Addr) (n c c' : Nat) (w : World) (h : Blocks w A c own) (h' : Blocks w A' c' own) (hn : own.length = n) (hz : n ≤ 1000000) => rsameB_yes own h8 A A' n c c' w h h' hn hz)
  have hbs : nr ≤ bn := by omega
  have hbm : bn ≤ 1000 := by
    have := h.lr
    have := h.lw
    omega
  have hbc : bn ≤ bc := hO.2.1
  have y1 := Lib.hid (show (newM c).fuel = c.fuel from rfl)
  have hN2 : N ≤ 200 := by omega
  clear h hm hown h8 hC hO hbn f1 f2 f3 f4 f5 f6
  have hfs : Hid (∀ (m : Mac) (bl : Blks), Fit c m bl → ∀ (W : World), Below w.heap.size w W → ∀ (sA : Option Addr) (sn sc : Nat) (oA : Option Addr) (on oc : Nat) (bA : Option Addr) (bn bc : Nat), MIn W m.stack m.out bl sA sn sc oA on oc bA bn bc →
      Calls Try.prog 13 #[cmV ra nr rc wa nw wc aa na ac (N : Int) ca nc cc, mM m sA sn sc oA on oc, .slice bA bn bc] W (MacPost (stepM c m bl) W)) := Lib.hid (by
    have := HST.out
    rw [hN] at this
    exact this)
  have HE1 : Hid (EndsAt c own N 0 ⟨0, N, [], [0, 0, 0, 0], [], false, 0⟩ own) := Lib.hid (by
    have := HE0.out
    rw [show (stepsM c 0 (newM c, own)).1 = newM c from rfl, show (stepsM c 0 (newM c, own)).2 = own from rfl] at this
    rw [show newM c = ⟨0, N, [], [0, 0, 0, 0], [], false, 0⟩ from by rw [newM, hN]] at this
    exact this)
  clear HST HE0 y1
  rw [hN] at C0 B0 hn1 hrt ⊢
  clear hN
  go_enter Try.func4, Try.ntmps4
  go_wp2_with (first
    | (go_at_call 9; go_must ((with_reducible refine (hrt.out _ B0.out).mono ?_); rintro e w1 ⟨rfl, hb1⟩; have B1 := Lib.hid (bnext B0.out hb1); have C1 := Lib.hid (C0.out.below hb1); obtain ⟨c0, c1, c2', c3, c4, cf⟩ := C1.out.cmd; have cl := C1.out.lt; clear hb1))
    | (go_at_call 11; go_must ((with_reducible refine (hn1.out _).mono ?_); rintro e w2 ⟨rfl, hb2⟩; have B2 := Lib.hid (bnext B1.out hb2); have C2 := Lib.hid (C1.out.below hb2); have N2 := Lib.hid (Bk.new w2 32 mZ); have V2 := Lib.hid (var_below w2 (mC 0 (N : Int) (.slice none 0 0) 0 0 0 0 (.slice none 0 0) false 0)); have K2 := Lib.hid (var_bk w2 (mC 0 (N : Int) (.slice none 0 0) 0 0 0 0 (.slice none 0 0) false 0)); clear hb2))
    | (with_reducible refine st_mach w2.heap.size N2.out rfl rfl _ _ rfl rfl rfl rfl ?_))
  obtain ⟨Ga, hGa⟩ : ∃ G, G = w2.heap.size := ⟨_, rfl⟩
  have hwa : w.heap.size < Ga := by rw [hGa]; exact C2.out.lt
  have hoff : Hid (∀ G, w.heap.size ≤ G → offA G bA bn) := Lib.hid (fun G hG hn b off he => by
    obtain ⟨b', off', e, hb, _⟩ := HO.out.2.2.2 hn
    rw [he] at e
    injection e with e
    injection e with e
    omega)
  have hNil : Hid (∀ W : World, Sl W 1 none 0 0 (([] : List Int).map (.int .i64))) := Lib.hid (fun W => ⟨rfl, Nat.le_refl _, fun _ => ⟨rfl, rfl⟩, fun h => absurd h (by omega)⟩)
  have BT := Lib.hid (bnext B2.out V2.out)
  have CT := Lib.hid (C2.out.below V2.out)
  have MT : Hid (MIn ((w2.alloc (.cells mZ 32)).setRow w2.heap.size (mC 0 (N : Int) (.slice none 0 0) 0 0 0 0 (.slice none 0 0) false 0)) [] [] own none 0 0 none 0 0 bA bn bc) := Lib.hid ⟨hNil.out _, hNil.out _, HO.out.below BT.out⟩
  have OT : Hid (off3 Ga none 0 none 0 bA bn) := Lib.hid ⟨fun h => absurd h (by omega), fun h => absurd h (by omega), hoff.out _ (by omega)⟩
  rw [← hGa] at K2 BT CT MT ⊢
  clear hGa hrt hn1 B0 C0 B1 C1 c0 c1 c2' c3 c4 cf cl B2 C2 N2 V2 hNil
  go_loopw [6, 7] (fun xs nn wr => ∃ (k : Nat) (pc f : Int) (st regs ou : List Int) (ov : Bool) (to : Nat) (bl : Blks) (sA : Option Addr) (sn sc : Nat) (oA : Option Addr) (on oc : Nat) (A1 : Option Addr) (c1 : Nat), k ≤ N + 1 ∧ nn = .int .i64 k ∧ xs = .slice A1 bn c1 ∧ Hid (Below w.heap.size w wr) ∧ Hid (EndsAt c own N k ⟨pc, f, st, regs, ou, ov, to⟩ bl) ∧ Hid (Bk wr Ga 32 (mC pc f (.slice sA sn sc) (rg regs 0) (rg regs 1) (rg regs 2) (rg regs 3) (.slice oA on oc) ov to)) ∧ Hid (MIn wr st ou bl sA sn sc oA on oc A1 bn c1) ∧ Hid (off3 Ga sA sn oA on A1 bn) ∧ Hid (Bk wr w.heap.size 25 #[.slice ra nr rc, .slice wa nw wc, .slice aa na ac, .int .i64 (N : Int), .slice ca nc cc])) (fun _ nn _ => N + 1 - (intOf nn).toNat)
  case atStart => exact ⟨0, 0, N, [], [0, 0, 0, 0], [], false, 0, own, none, 0, 0, none, 0, 0, _, _, Nat.zero_le _, rfl, rfl, BT, HE1, K2, MT, OT, CT⟩
  case round =>
    clear BT HE1 K2 MT OT CT
    obtain ⟨k, pc, f, st, regs, ou, ov, to, bl, sA, sn, sc, oA, on, oc, A1, c1, hk, rfl, rfl, HB, HE, HA, HM, HF, HC⟩ := hrel
    obtain ⟨f0, f1, f2, f3, f4, ff⟩ := HC.out.cmd
    have fl := HC.out.lt
    have al := HA.out.lt

    by_cases hgo : ov = true
    · subst hgo
      have HS8 : Hid (Calls Try.prog 13 #[cmV ra nr rc wa nw wc aa na ac (N : Int) ca nc cc, .agg (mC pc f (.slice sA sn sc) (rg regs 0) (rg regs 1) (rg regs 2) (rg regs 3) (.slice oA on oc) true to), .slice A1 bn c1] wr (SPost pc f st (rg regs 0) (rg regs 1) (rg regs 2) (rg regs 3) ou true to bl wr)) := Lib.hid (by
        have := hfs.out _ _ HE.out.fit wr HB.out sA sn sc oA on oc A1 bn c1 HM.out
        rw [step_over rfl] at this
        exact this)
      have htold := HE.out.told
      have h8b := Lib.hid HE.out.cells
      simp only at htold
      obtain ⟨l1, l2, l3⟩ := HM.out.lens HE.out.cells
      have hst8 := HE.out.deep
      have hou8 := HE.out.out
      simp only at hst8 hou8
      have a8 := HA.out.cell 8
      simp only [List.getElem?_toArray, List.getElem?_cons_zero, List.getElem?_cons_succ] at a8
      have htl : (((to : Nat) : Int) == 0) = true ∨ (((to : Nat) : Int) == 0) = false ∧ on = 0 := by
        by_cases q : to = 0
        · left; simp [q]
        · right
          refine ⟨by simp; omega, ?_⟩
          rw [l2, htold q]
          rfl
      have l1' : sn ≤ 1000 := by omega
      have l2' : on ≤ 1000 := by omega
      have l3' : bn ≤ 1000 := hbm
      clear l1 l2 l3 hst8 hou8 htold
      rcases htl with htl | ⟨htl, rfl⟩
      · skip
        go_wp2_with (first
          | (with_reducible refine ld_mach Ga HA.out _ rfl rfl rfl ?_)
          | (go_at_call 13; go_must ((with_reducible refine HS8.out.mono ?_); rintro e w8 ⟨sA8, sn8, sc8, oA8, on8, oc8, bA8, bn8, bc8, rfl, q3, b3, -⟩; have N8 := Lib.hid (Bk.new w8 32 mZ); have B8 : Hid (Below w.heap.size w ((w8.alloc (.cells mZ 32)).setRow w8.heap.size (mC pc f (.slice sA8 sn8 sc8) (rg regs 0) (rg regs 1) (rg regs 2) (rg regs 3) (.slice oA8 on8 oc8) true to))) := Lib.hid (bnext (bnext HB.out b3) (var_below w8 _)); have A8 : Hid (Bk ((w8.alloc (.cells mZ 32)).setRow w8.heap.size (mC pc f (.slice sA8 sn8 sc8) (rg regs 0) (rg regs 1) (rg regs 2) (rg regs 3) (.slice oA8 on8 oc8) true to)) Ga 32 (mC pc f (.slice sA sn sc) (rg regs 0) (rg regs 1) (rg regs 2) (rg regs 3) (.slice oA on oc) true to)) := Lib.hid ((HA.out.below b3).below (var_below w8 _)); have T8 : Hid (Bk ((w8.alloc (.cells mZ 32)).setRow w8.heap.size (mC pc f (.slice sA8 sn8 sc8) (rg regs 0) (rg regs 1) (rg regs 2) (rg regs 3) (.slice oA8 on8 oc8) true to)) w8.heap.size 32 (mC pc f (.slice sA8 sn8 sc8) (rg regs 0) (rg regs 1) (rg regs 2) (rg regs 3) (.slice oA8 on8 oc8) true to)) := Lib.hid (var_bk w8 _); have M8 := Lib.hid (q3.below (var_below w8 (mC pc f (.slice sA8 sn8 sc8) (rg regs 0) (rg regs 1) (rg regs 2) (rg regs 3) (.slice oA8 on8 oc8) true to))); have M1 := Lib.hid ((HM.out.below b3).below (var_below w8 (mC pc f (.slice sA8 sn8 sc8) (rg regs 0) (rg regs 1) (rg regs 2) (rg regs 3) (.slice oA8 on8 oc8) true to))); clear q3 b3))
          | (with_reducible refine st_mach w8.heap.size N8.out rfl rfl _ _ rfl rfl rfl rfl ?_)
          | (go_at_call 10; go_must ((with_reducible refine (aw.out _).mono ?_); rintro e w9 ⟨rfl, hb9⟩; have B9 := Lib.hid (bnext B8.out hb9); have A9 := Lib.hid (A8.out.below hb9); have T9 := Lib.hid (T8.out.below hb9); have M89 := Lib.hid (M8.out.below hb9); have M19 := Lib.hid (M1.out.below hb9); have u8 := A9.out.cell 8; have ul := A9.out.lt; have SM : Hid (Calls Try.prog 15 #[.agg (mC pc f (.slice sA8 sn8 sc8) (rg regs 0) (rg regs 1) (rg regs 2) (rg regs 3) (.slice oA8 on8 oc8) true to), .agg (mC pc f (.slice sA sn sc) (rg regs 0) (rg regs 1) (rg regs 2) (rg regs 3) (.slice oA on oc) true to)] w9 fun e w' => e = .returned (.bool true) ∧ Below w9.heap.size w9 w') := Lib.hid (by obtain ⟨p1, p2, -⟩ := M89.out.lens h8b.out; obtain ⟨p4, p5, -⟩ := M19.out.lens h8b.out; have ks := M89.out.st; have ko := M89.out.ou; have ks' := M19.out.st; have ko' := M19.out.ou; obtain rfl : sn8 = sn := (by omega); obtain rfl : on8 = on := (by omega); exact rsame_yes pc f st ou (rg regs 0) (rg regs 1) (rg regs 2) (rg regs 3) true to sA8 sA _ sc8 sc oA8 oA _ oc8 oc w9 ks ks' ko ko' (by omega) (by omega)); simp only [List.getElem?_toArray, List.getElem?_cons_zero, List.getElem?_cons_succ] at u8; clear hb9))
          | (refine wpList_load_at _ w8.heap.size 0 (load_mach T9.out) _ rfl rfl rfl ?_)
          | (refine wpList_load_at _ Ga 0 (load_mach A9.out) _ rfl rfl rfl ?_)
          | (go_at_call 15; go_must ((with_reducible refine SM.out.mono ?_); rintro e w10 ⟨rfl, hb10⟩; have B10 := Lib.hid (bnext B9.out hb10); have A10 := Lib.hid (A9.out.below hb10); have SB : Hid (Calls Try.prog 16 #[.slice A1 bn c1, .slice bA8 bn8 bc8] w10 fun e w' => e = .returned (.bool true) ∧ Below w10.heap.size w10 w') := Lib.hid (by obtain ⟨-, -, p3⟩ := M89.out.lens h8b.out; obtain ⟨-, -, p6⟩ := M19.out.lens h8b.out; have k5 := (M19.out.below hb10).bk; have k6 := (M89.out.below hb10).bk; rw [p6] at k5 ⊢; rw [p3] at k6 ⊢; exact hyes.out bl h8b.out _ _ _ _ _ _ k5 k6 rfl (by omega)); clear hb10))
          | (go_at_call 16; go_must ((with_reducible refine SB.out.mono ?_); rintro e w11 ⟨rfl, hb11⟩; have B11 := Lib.hid (bnext B10.out hb11); have A11 := Lib.hid (A10.out.below hb11); have v9 := A11.out.cell 9; have v7 := A11.out.cell 7; have vl := A11.out.lt; simp only [List.getElem?_toArray, List.getElem?_cons_zero, List.getElem?_cons_succ] at v9 v7; clear hb11)))
        go_ret
        exact ⟨rfl, B11.out⟩
      · skip
        go_wp2_with (first
          | (with_reducible refine ld_mach Ga HA.out _ rfl rfl rfl ?_)
          | (go_at_call 13; go_must ((with_reducible refine HS8.out.mono ?_); rintro e w8 ⟨sA8, sn8, sc8, oA8, on8, oc8, bA8, bn8, bc8, rfl, q3, b3, -⟩; have N8 := Lib.hid (Bk.new w8 32 mZ); have B8 : Hid (Below w.heap.size w ((w8.alloc (.cells mZ 32)).setRow w8.heap.size (mC pc f (.slice sA8 sn8 sc8) (rg regs 0) (rg regs 1) (rg regs 2) (rg regs 3) (.slice oA8 on8 oc8) true to))) := Lib.hid (bnext (bnext HB.out b3) (var_below w8 _)); have A8 : Hid (Bk ((w8.alloc (.cells mZ 32)).setRow w8.heap.size (mC pc f (.slice sA8 sn8 sc8) (rg regs 0) (rg regs 1) (rg regs 2) (rg regs 3) (.slice oA8 on8 oc8) true to)) Ga 32 (mC pc f (.slice sA sn sc) (rg regs 0) (rg regs 1) (rg regs 2) (rg regs 3) (.slice oA 0 oc) true to)) := Lib.hid ((HA.out.below b3).below (var_below w8 _)); have T8 : Hid (Bk ((w8.alloc (.cells mZ 32)).setRow w8.heap.size (mC pc f (.slice sA8 sn8 sc8) (rg regs 0) (rg regs 1) (rg regs 2) (rg regs 3) (.slice oA8 on8 oc8) true to)) w8.heap.size 32 (mC pc f (.slice sA8 sn8 sc8) (rg regs 0) (rg regs 1) (rg regs 2) (rg regs 3) (.slice oA8 on8 oc8) true to)) := Lib.hid (var_bk w8 _); have M8 := Lib.hid (q3.below (var_below w8 (mC pc f (.slice sA8 sn8 sc8) (rg regs 0) (rg regs 1) (rg regs 2) (rg regs 3) (.slice oA8 on8 oc8) true to))); have M1 := Lib.hid ((HM.out.below b3).below (var_below w8 (mC pc f (.slice sA8 sn8 sc8) (rg regs 0) (rg regs 1) (rg regs 2) (rg regs 3) (.slice oA8 on8 oc8) true to))); clear q3 b3))
          | (with_reducible refine st_mach w8.heap.size N8.out rfl rfl _ _ rfl rfl rfl rfl ?_)
          | (go_at_call 10; go_must ((with_reducible refine (aw.out _).mono ?_); rintro e w9 ⟨rfl, hb9⟩; have B9 := Lib.hid (bnext B8.out hb9); have A9 := Lib.hid (A8.out.below hb9); have T9 := Lib.hid (T8.out.below hb9); have M89 := Lib.hid (M8.out.below hb9); have M19 := Lib.hid (M1.out.below hb9); have u8 := A9.out.cell 8; have ul := A9.out.lt; have SM : Hid (Calls Try.prog 15 #[.agg (mC pc f (.slice sA8 sn8 sc8) (rg regs 0) (rg regs 1) (rg regs 2) (rg regs 3) (.slice oA8 on8 oc8) true to), .agg (mC pc f (.slice sA sn sc) (rg regs 0) (rg regs 1) (rg regs 2) (rg regs 3) (.slice oA 0 oc) true to)] w9 fun e w' => e = .returned (.bool true) ∧ Below w9.heap.size w9 w') := Lib.hid (by obtain ⟨p1, p2, -⟩ := M89.out.lens h8b.out; obtain ⟨p4, p5, -⟩ := M19.out.lens h8b.out; have ks := M89.out.st; have ko := M89.out.ou; have ks' := M19.out.st; have ko' := M19.out.ou; obtain rfl : sn8 = sn := (by omega); obtain rfl : on8 = 0 := (by omega); exact rsame_yes pc f st ou (rg regs 0) (rg regs 1) (rg regs 2) (rg regs 3) true to sA8 sA _ sc8 sc oA8 oA _ oc8 oc w9 ks ks' ko ko' (by omega) (by omega)); simp only [List.getElem?_toArray, List.getElem?_cons_zero, List.getElem?_cons_succ] at u8; clear hb9))
          | (refine wpList_load_at _ w8.heap.size 0 (load_mach T9.out) _ rfl rfl rfl ?_)
          | (refine wpList_load_at _ Ga 0 (load_mach A9.out) _ rfl rfl rfl ?_)
          | (go_at_call 15; go_must ((with_reducible refine SM.out.mono ?_); rintro e w10 ⟨rfl, hb10⟩; have B10 := Lib.hid (bnext B9.out hb10); have A10 := Lib.hid (A9.out.below hb10); have SB : Hid (Calls Try.prog 16 #[.slice A1 bn c1, .slice bA8 bn8 bc8] w10 fun e w' => e = .returned (.bool true) ∧ Below w10.heap.size w10 w') := Lib.hid (by obtain ⟨-, -, p3⟩ := M89.out.lens h8b.out; obtain ⟨-, -, p6⟩ := M19.out.lens h8b.out; have k5 := (M19.out.below hb10).bk; have k6 := (M89.out.below hb10).bk; rw [p6] at k5 ⊢; rw [p3] at k6 ⊢; exact hyes.out bl h8b.out _ _ _ _ _ _ k5 k6 rfl (by omega)); clear hb10))
          | (go_at_call 16; go_must ((with_reducible refine SB.out.mono ?_); rintro e w11 ⟨rfl, hb11⟩; have B11 := Lib.hid (bnext B10.out hb11); have A11 := Lib.hid (A10.out.below hb11); have v9 := A11.out.cell 9; have v7 := A11.out.cell 7; have vl := A11.out.lt; simp only [List.getElem?_toArray, List.getElem?_cons_zero, List.getElem?_cons_succ] at v9 v7; clear hb11)))
        go_ret
        exact ⟨rfl, B11.out⟩

    · obtain rfl : ov = false := by cases ov <;> simp_all
      obtain ⟨hkN, -⟩ := HE.out.goes rfl
      have hff : 0 ≤ f ∧ f ≤ 200 := by
        have := HE.out.fuel
        simp only at this
        omega
      have dk : (k : Int) ≤ (N : Int) := by omega
      obtain ⟨m', bl', hst', HE'0, hpc, hfu⟩ := HNX.out k _ bl HE.out rfl
      obtain ⟨pc', f', st', regs', ou', ov', to'⟩ := m'
      simp only at hpc hfu
      have HE' := Lib.hid HE'0
      have HS5 : Hid (Calls Try.prog 13 #[cmV ra nr rc wa nw wc aa na ac (N : Int) ca nc cc, .agg (mC pc f (.slice sA sn sc) (rg regs 0) (rg regs 1) (rg regs 2) (rg regs 3) (.slice oA on oc) false to), .slice A1 bn c1] wr (SPost pc' f' st' (rg regs' 0) (rg regs' 1) (rg regs' 2) (rg regs' 3) ou' ov' to' bl' wr)) := Lib.hid (by
        have := hfs.out _ _ HE.out.fit wr HB.out sA sn sc oA on oc A1 bn c1 HM.out
        rw [hst'] at this
        exact this)
      have h8b := Lib.hid HE'0.cells
      have hd8 := HE'0.deep
      have ho8 := HE'0.out
      have hmb : bl'.length = bn := by rw [HE'0.many, HL.out]
      have HMB := Lib.hid hmb
      simp only at hd8 ho8
      have npc : ¬ pc' < pc := by omega
      have a8 := HA.out.cell 8
      simp only [List.getElem?_toArray, List.getElem?_cons_zero, List.getElem?_cons_succ] at a8
      clear hst' HE'0 hmb hpc
      rcases hfu with rfl | ⟨rfl, rfl, rfl⟩

      · skip
        go_wp2_with (first
          | (with_reducible refine ld_mach Ga HA.out _ rfl rfl rfl ?_)
          | (go_at_call 13; go_must ((with_reducible refine HS5.out.mono ?_); rintro e w5 ⟨sA5, sn5, sc5, oA5, on5, oc5, bA5, bn5, bc5, rfl, q3, b3, o3⟩; obtain ⟨l1, l2, l3⟩ := q3.lens h8b.out; obtain rfl : bn5 = bn := (by rw [l3]; exact HMB.out); have e1 : ¬ (8 : Int) < (sn5 : Int) := (by omega); have e2 : ¬ (8 : Int) < (on5 : Int) := (by omega); clear l1 l2 l3; have N5 := Lib.hid (Bk.new w5 32 mZ); have B5 : Hid (Below w.heap.size w ((w5.alloc (.cells mZ 32)).setRow w5.heap.size (mC pc' (f - 1) (.slice sA5 sn5 sc5) (rg regs' 0) (rg regs' 1) (rg regs' 2) (rg regs' 3) (.slice oA5 on5 oc5) ov' to'))) := Lib.hid (bnext (bnext HB.out b3) (var_below w5 _)); have A5 : Hid (Bk ((w5.alloc (.cells mZ 32)).setRow w5.heap.size (mC pc' (f - 1) (.slice sA5 sn5 sc5) (rg regs' 0) (rg regs' 1) (rg regs' 2) (rg regs' 3) (.slice oA5 on5 oc5) ov' to')) Ga 32 (mC pc f (.slice sA sn sc) (rg regs 0) (rg regs 1) (rg regs 2) (rg regs 3) (.slice oA on oc) false to)) := Lib.hid ((HA.out.below b3).below (var_below w5 _)); have T5 : Hid (Bk ((w5.alloc (.cells mZ 32)).setRow w5.heap.size (mC pc' (f - 1) (.slice sA5 sn5 sc5) (rg regs' 0) (rg regs' 1) (rg regs' 2) (rg regs' 3) (.slice oA5 on5 oc5) ov' to')) w5.heap.size 32 (mC pc' (f - 1) (.slice sA5 sn5 sc5) (rg regs' 0) (rg regs' 1) (rg regs' 2) (rg regs' 3) (.slice oA5 on5 oc5) ov' to')) := Lib.hid (var_bk w5 _); have C5 : Hid (Bk ((w5.alloc (.cells mZ 32)).setRow w5.heap.size (mC pc' (f - 1) (.slice sA5 sn5 sc5) (rg regs' 0) (rg regs' 1) (rg regs' 2) (rg regs' 3) (.slice oA5 on5 oc5) ov' to')) w.heap.size 25 #[.slice ra nr rc, .slice wa nw wc, .slice aa na ac, .int .i64 (N : Int), .slice ca nc cc]) := Lib.hid ((HC.out.below b3).below (var_below w5 _)); have M5 := Lib.hid (q3.below (var_below w5 (mC pc' (f - 1) (.slice sA5 sn5 sc5) (rg regs' 0) (rg regs' 1) (rg regs' 2) (rg regs' 3) (.slice oA5 on5 oc5) ov' to'))); have O5 := Lib.hid (o3 Ga HA.out.lt); have HGG : Hid (Ga < w5.heap.size) := Lib.hid (Nat.lt_of_lt_of_le HA.out.lt b3.size); have u0 := A5.out.cell 0; have u1 := A5.out.cell 1; have t0 := T5.out.cell 0; have t1 := T5.out.cell 1; have t2 := T5.out.cell 2; have t7 := T5.out.cell 7; have t9 := T5.out.cell 9; have ul := A5.out.lt; have tl := T5.out.lt; simp only [List.getElem?_toArray, List.getElem?_cons_zero, List.getElem?_cons_succ] at u0 u1 t0 t1 t2 t7 t9; clear q3 b3 o3))
          | (with_reducible refine st_mach w5.heap.size N5.out rfl rfl _ _ rfl rfl rfl rfl ?_))
        have hag : Hid (w.heap.size < Ga) := Lib.hid hwa
        obtain ⟨Gt, hGt⟩ : ∃ G, G = w5.heap.size := ⟨_, rfl⟩
        have hat : Ga < Gt := by rw [hGt]; exact HGG.out
        rw [← hGt] at B5 A5 T5 C5 M5 ⊢
        obtain ⟨wS, hwS⟩ : ∃ W, W = ((w5.alloc (.cells mZ 32)).setRow Gt (mC pc' (f - 1) (.slice sA5 sn5 sc5) (rg regs' 0) (rg regs' 1) (rg regs' 2) (rg regs' 3) (.slice oA5 on5 oc5) ov' to')) := ⟨_, rfl⟩
        rw [← hwS] at B5 A5 T5 C5 M5 ⊢
        clear hGt hwS N5 u0 u1 t0 t1 t2 t7 t9 ul tl e1 e2
        go_loopw [10] (fun ii wr => ∃ i : Nat, i ≤ nr ∧ ii = .int .i64 i ∧ Hid (Below wS.heap.size wS wr)) (fun ii _ => nr - (intOf ii).toNat)
        case atStart => exact ⟨0, Nat.zero_le _, rfl, Lib.hid (Below.refl _ _)⟩
        case round =>
          obtain ⟨i, hi, rfl, HI⟩ := hrel
          obtain ⟨g0, g1, g2, g3, g4, gf⟩ := (C5.out.below HI.out).cmd
          have gl := (C5.out.below HI.out).lt
          by_cases hil : i < nr
          · have di : (i : Int) < (nr : Int) := by omega
            have dj : (i : Int) < (bn5 : Int) := by omega
            have dl : (i : Int) < (bc5 : Int) := by have := M5.out.bk.2.1; omega
            have dm : (i : Int) < (bc : Int) := by omega
            have hby : Blocks wS bA5 bc5 bl' := by
              have := M5.out.bk
              unfold Blocks
              rwa [HMB.out]
            have hbo : Blocks w bA bc own := by
              have := HO.out
              unfold Blocks
              rwa [HL.out]
            obtain ⟨g, off, rfl, hl⟩ := hby.load h8b.out (i := i) (by rw [HMB.out]; omega)
            obtain ⟨g', off', rfl, hl'⟩ := hbo.load H8.out (i := i) (by rw [HL.out]; omega)
            have hri : bl'[i]? = own[i]? := HE'.out.reads i (by rw [HLR.out]; exact hil)
            rw [hri] at hl
            have L : Hid (∀ w', (∃ n, w' = wr.drewN n) → (loadVar 40 ⟨g, off + i * 8, none⟩).run Try.prog w' = .ok (.agg (bkC (own[i]?.getD []))) w') := Lib.hid (by
              rintro _ ⟨q, rfl⟩
              exact hl _ (bnext HI.out (drewN_below _ _)))
            have L' : Hid (∀ w', (∃ n, w' = wr.drewN n) → (loadVar 40 ⟨g', off' + i * 8, none⟩).run Try.prog w' = .ok (.agg (bkC (own[i]?.getD []))) w') := Lib.hid (by
              rintro _ ⟨q, rfl⟩
              exact hl' _ (bnext (bnext B5.out HI.out) (drewN_below _ _)))
            have NE := Lib.hid (fun W => neq_blk_same W (a := own[i]?.getD []) (by
              rw [List.getElem?_eq_getElem (by rw [HL.out]; omega)]
              exact H8.out _ (List.getElem_mem _)))
            clear hl hl' hri hby hbo
            generalize bkC (own[i]?.getD []) = cs at *
            go_wp2
            try simp only [List.append_eq, List.cons_append, List.nil_append]
            refine wp_region_quiet_lit (by kernel_rfl) (by kernel_rfl) ?_
            repeat (first
              | (go_big_quiet_want; (first | refine quiet_load_at _ g (off + i * 8) L.out _ rfl rfl ?_ | refine quiet_load_at _ g' (off' + i * 8) L'.out _ rfl rfl ?_ | refine quiet_neq_blk false NE.out _ _ _ rfl rfl rfl ?_); go_simp; go_big_quiet_on)
              | go_big_quiet_step (fail))
            refine wpQuiet_nil ?_
            rintro _ ⟨nq, rfl⟩
            go_wp2
            go_roundw
            case rel => exact ⟨i + 1, by omega, by go_num, Lib.hid (bnext HI.out (drewN_below _ _))⟩
            case measure => simp [intOf]; omega
          · obtain rfl : i = nr := by omega
            clear hil
            have T6 := Lib.hid (T5.out.below HI.out)
            have A6 := Lib.hid (A5.out.below HI.out)
            have C6 := Lib.hid (C5.out.below HI.out)
            have M6 := Lib.hid (M5.out.below HI.out)
            have B6 := Lib.hid (bnext B5.out HI.out)
            go_wp2_with (first
              | (with_reducible refine ld_mach Gt T6.out _ rfl rfl rfl ?_)
              | (with_reducible refine st_mach Ga A6.out rfl rfl _ _ rfl rfl rfl rfl ?_))
            go_roundw
            case rel =>
              exact ⟨k + 1, pc', (f - 1), st', regs', ou', ov', to', bl', sA5, sn5, sc5, oA5, on5, oc5, bA5, bc5, by omega, by go_num, rfl, Lib.hid (below_row B6.out (by omega) _), HE', Lib.hid (Bk.setRow A6.out _), Lib.hid (M6.out.setRow O5.out _), O5, Lib.hid (C6.out.farRow (by omega) _)⟩
            case measure => simp [intOf]; omega
      · skip
        go_wp2_with (first
          | (with_reducible refine ld_mach Ga HA.out _ rfl rfl rfl ?_)
          | (go_at_call 13; go_must ((with_reducible refine HS5.out.mono ?_); rintro e w5 ⟨sA5, sn5, sc5, oA5, on5, oc5, bA5, bn5, bc5, rfl, q3, b3, o3⟩; obtain ⟨l1, l2, l3⟩ := q3.lens h8b.out; obtain rfl : bn5 = bn := (by rw [l3]; exact HMB.out); have e1 : ¬ (8 : Int) < (sn5 : Int) := (by omega); have e2 : ¬ (8 : Int) < (on5 : Int) := (by omega); clear l1 l2 l3; have N5 := Lib.hid (Bk.new w5 32 mZ); have B5 : Hid (Below w.heap.size w ((w5.alloc (.cells mZ 32)).setRow w5.heap.size (mC pc' 0 (.slice sA5 sn5 sc5) (rg regs' 0) (rg regs' 1) (rg regs' 2) (rg regs' 3) (.slice oA5 on5 oc5) ov' 11))) := Lib.hid (bnext (bnext HB.out b3) (var_below w5 _)); have A5 : Hid (Bk ((w5.alloc (.cells mZ 32)).setRow w5.heap.size (mC pc' 0 (.slice sA5 sn5 sc5) (rg regs' 0) (rg regs' 1) (rg regs' 2) (rg regs' 3) (.slice oA5 on5 oc5) ov' 11)) Ga 32 (mC pc 0 (.slice sA sn sc) (rg regs 0) (rg regs 1) (rg regs 2) (rg regs 3) (.slice oA on oc) false to)) := Lib.hid ((HA.out.below b3).below (var_below w5 _)); have T5 : Hid (Bk ((w5.alloc (.cells mZ 32)).setRow w5.heap.size (mC pc' 0 (.slice sA5 sn5 sc5) (rg regs' 0) (rg regs' 1) (rg regs' 2) (rg regs' 3) (.slice oA5 on5 oc5) ov' 11)) w5.heap.size 32 (mC pc' 0 (.slice sA5 sn5 sc5) (rg regs' 0) (rg regs' 1) (rg regs' 2) (rg regs' 3) (.slice oA5 on5 oc5) ov' 11)) := Lib.hid (var_bk w5 _); have C5 : Hid (Bk ((w5.alloc (.cells mZ 32)).setRow w5.heap.size (mC pc' 0 (.slice sA5 sn5 sc5) (rg regs' 0) (rg regs' 1) (rg regs' 2) (rg regs' 3) (.slice oA5 on5 oc5) ov' 11)) w.heap.size 25 #[.slice ra nr rc, .slice wa nw wc, .slice aa na ac, .int .i64 (N : Int), .slice ca nc cc]) := Lib.hid ((HC.out.below b3).below (var_below w5 _)); have M5 := Lib.hid (q3.below (var_below w5 (mC pc' 0 (.slice sA5 sn5 sc5) (rg regs' 0) (rg regs' 1) (rg regs' 2) (rg regs' 3) (.slice oA5 on5 oc5) ov' 11))); have O5 := Lib.hid (o3 Ga HA.out.lt); have HGG : Hid (Ga < w5.heap.size) := Lib.hid (Nat.lt_of_lt_of_le HA.out.lt b3.size); have u0 := A5.out.cell 0; have u1 := A5.out.cell 1; have t0 := T5.out.cell 0; have t1 := T5.out.cell 1; have t2 := T5.out.cell 2; have t7 := T5.out.cell 7; have t9 := T5.out.cell 9; have ul := A5.out.lt; have tl := T5.out.lt; simp only [List.getElem?_toArray, List.getElem?_cons_zero, List.getElem?_cons_succ] at u0 u1 t0 t1 t2 t7 t9; clear q3 b3 o3))
          | (with_reducible refine st_mach w5.heap.size N5.out rfl rfl _ _ rfl rfl rfl rfl ?_))
        have hag : Hid (w.heap.size < Ga) := Lib.hid hwa
        obtain ⟨Gt, hGt⟩ : ∃ G, G = w5.heap.size := ⟨_, rfl⟩
        have hat : Ga < Gt := by rw [hGt]; exact HGG.out
        rw [← hGt] at B5 A5 T5 C5 M5 ⊢
        obtain ⟨wS, hwS⟩ : ∃ W, W = ((w5.alloc (.cells mZ 32)).setRow Gt (mC pc' 0 (.slice sA5 sn5 sc5) (rg regs' 0) (rg regs' 1) (rg regs' 2) (rg regs' 3) (.slice oA5 on5 oc5) ov' 11)) := ⟨_, rfl⟩
        rw [← hwS] at B5 A5 T5 C5 M5 ⊢
        clear hGt hwS N5 u0 u1 t0 t1 t2 t7 t9 ul tl e1 e2
        go_loopw [10] (fun ii wr => ∃ i : Nat, i ≤ nr ∧ ii = .int .i64 i ∧ Hid (Below wS.heap.size wS wr)) (fun ii _ => nr - (intOf ii).toNat)
        case atStart => exact ⟨0, Nat.zero_le _, rfl, Lib.hid (Below.refl _ _)⟩
        case round =>
          obtain ⟨i, hi, rfl, HI⟩ := hrel
          obtain ⟨g0, g1, g2, g3, g4, gf⟩ := (C5.out.below HI.out).cmd
          have gl := (C5.out.below HI.out).lt
          by_cases hil : i < nr
          · have di : (i : Int) < (nr : Int) := by omega
            have dj : (i : Int) < (bn5 : Int) := by omega
            have dl : (i : Int) < (bc5 : Int) := by have := M5.out.bk.2.1; omega
            have dm : (i : Int) < (bc : Int) := by omega
            have hby : Blocks wS bA5 bc5 bl' := by
              have := M5.out.bk
              unfold Blocks
              rwa [HMB.out]
            have hbo : Blocks w bA bc own := by
              have := HO.out
              unfold Blocks
              rwa [HL.out]
            obtain ⟨g, off, rfl, hl⟩ := hby.load h8b.out (i := i) (by rw [HMB.out]; omega)
            obtain ⟨g', off', rfl, hl'⟩ := hbo.load H8.out (i := i) (by rw [HL.out]; omega)
            have hri : bl'[i]? = own[i]? := HE'.out.reads i (by rw [HLR.out]; exact hil)
            rw [hri] at hl
            have L : Hid (∀ w', (∃ n, w' = wr.drewN n) → (loadVar 40 ⟨g, off + i * 8, none⟩).run Try.prog w' = .ok (.agg (bkC (own[i]?.getD []))) w') := Lib.hid (by
              rintro _ ⟨q, rfl⟩
              exact hl _ (bnext HI.out (drewN_below _ _)))
            have L' : Hid (∀ w', (∃ n, w' = wr.drewN n) → (loadVar 40 ⟨g', off' + i * 8, none⟩).run Try.prog w' = .ok (.agg (bkC (own[i]?.getD []))) w') := Lib.hid (by
              rintro _ ⟨q, rfl⟩
              exact hl' _ (bnext (bnext B5.out HI.out) (drewN_below _ _)))
            have NE := Lib.hid (fun W => neq_blk_same W (a := own[i]?.getD []) (by
              rw [List.getElem?_eq_getElem (by rw [HL.out]; omega)]
              exact H8.out _ (List.getElem_mem _)))
            clear hl hl' hri hby hbo
            generalize bkC (own[i]?.getD []) = cs at *
            go_wp2
            try simp only [List.append_eq, List.cons_append, List.nil_append]
            refine wp_region_quiet_lit (by kernel_rfl) (by kernel_rfl) ?_
            repeat (first
              | (go_big_quiet_want; (first | refine quiet_load_at _ g (off + i * 8) L.out _ rfl rfl ?_ | refine quiet_load_at _ g' (off' + i * 8) L'.out _ rfl rfl ?_ | refine quiet_neq_blk false NE.out _ _ _ rfl rfl rfl ?_); go_simp; go_big_quiet_on)
              | go_big_quiet_step (fail))
            refine wpQuiet_nil ?_
            rintro _ ⟨nq, rfl⟩
            go_wp2
            go_roundw
            case rel => exact ⟨i + 1, by omega, by go_num, Lib.hid (bnext HI.out (drewN_below _ _))⟩
            case measure => simp [intOf]; omega
          · obtain rfl : i = nr := by omega
            clear hil
            have T6 := Lib.hid (T5.out.below HI.out)
            have A6 := Lib.hid (A5.out.below HI.out)
            have C6 := Lib.hid (C5.out.below HI.out)
            have M6 := Lib.hid (M5.out.below HI.out)
            have B6 := Lib.hid (bnext B5.out HI.out)
            go_wp2_with (first
              | (with_reducible refine ld_mach Gt T6.out _ rfl rfl rfl ?_)
              | (with_reducible refine st_mach Ga A6.out rfl rfl _ _ rfl rfl rfl rfl ?_))
            go_roundw
            case rel =>
              exact ⟨k + 1, pc', 0, st', regs', ou', ov', 11, bl', sA5, sn5, sc5, oA5, on5, oc5, bA5, bc5, by omega, by go_num, rfl, Lib.hid (below_row B6.out (by omega) _), HE', Lib.hid (Bk.setRow A6.out _), Lib.hid (M6.out.setRow O5.out _), O5, Lib.hid (C6.out.farRow (by omega) _)⟩
            case measure => simp [intOf]; omega


theorem machineEnds_walk (h8 : ∀ b ∈ own, b.length = 8) (w : World) (h : CmRaw w c ra nr rc wa nw wc aa na ac ca nc cc) (hO : Sl w 8 bA bn bc (blksW own)) (hbn : own.length = bn) :
    Calls Try.prog 4 #[cmV ra nr rc wa nw wc aa na ac c.fuel ca nc cc, .slice bA bn bc] w fun e w' => e = .returned (.bool true) ∧ Below w.heap.size w w' := by
  by_cases hm : MayBe c ∧ bn = nr + nw
  · exact machineEnds_yes c ra nr rc wa nw wc aa na ac ca nc cc own bA bn bc hm.1 (by rw [h.lr, h.lw, hbn]; exact hm.2) h8 w h hO hm.2
  · exact machineEnds_no c ra nr rc wa nw wc aa na ac ca nc cc bA bn bc w h hm
end
end Go.Proofs.Ytehaknnoplcbcaa
