/-
  What foremanref16.Same answers of tasks that read the same: true, in whatever memory. No conditions but those that stand there.
-/
import Derived.Test.YtldljohholgmoaaQWords
import Derived.Test.YtldljohholgmoaaZLdAt
import Derived.Test.YtldljohholgmoaaZCmdSm
import Derived.Test.YtldljohholgmoaaZPooB
import Derived.Test.YtldljohholgmoaaZMchS
namespace Go.Proofs.Ytldljohholgmoaa
open Go Go.RowKit
attribute [local go_sem] look findAt
attribute [local simp] depsOf isV Region.binds

set_option maxHeartbeats 16000000 in
set_option maxRecDepth 100000 in
theorem rsame16_yes (l m : List TkL) (A : Option Addr) (c : Nat) (B : Option Addr) (d n : Nat) (w : World) (h1 : Tks w A c l) (h2 : Tks w B d m) (hN : l.length = n) (hM : m.length = n) (hs : ∀ (i : Nat) (t u : TkL), l[i]? = some t → m[i]? = some u → t.tsk = u.tsk) (hz : n ≤ 1000) (hf : ∀ t ∈ l, fewT t) :
    Calls Try.prog 14 #[.slice A n c, .slice B n d] w fun e w' => e = .returned (.bool true) ∧ Below w.heap.size w w' := by
  have H1 := Lib.hid h1
  have H2 := Lib.hid h2
  have HN := Lib.hid hN
  have HM := Lib.hid hM
  have HS := Lib.hid hs
  have HF := Lib.hid hf
  have hnc : n ≤ c := by have := h1.cap; omega
  have hnd : n ≤ d := by have := h2.cap; omega
  clear h1 h2 hN hM hs hf
  go_enter Try.func14, Try.ntmps14
  go_wp2
  go_loopw [5] (fun cc wr => ∃ i : Nat, i ≤ n ∧ cc = .int .i64 i ∧ Hid (Below w.heap.size w wr)) (fun cc _ => n - (intOf cc).toNat)
  case atStart => exact ⟨0, Nat.zero_le _, rfl, Lib.hid (Below.refl _ _)⟩
  case round =>
    obtain ⟨i, hi, rfl, HB⟩ := hrel
    by_cases hlt : i < n
    · have d1 : (i : Int) < (n : Int) := by omega
      have d2 : (i : Int) < (c : Int) := by omega
      have d3 : (i : Int) < (d : Int) := by omega
      obtain ⟨t, ht⟩ := tk_at (l := l) (i := i) (by rw [HN.out]; exact hlt)
      obtain ⟨u, hu⟩ := tk_at (l := m) (i := i) (by rw [HM.out]; exact hlt)
      have htu := HS.out i t u ht hu
      have hfe := HF.out t (List.mem_of_getElem? ht)
      have I1 := (H1.out.below HB.out).2 t (List.mem_of_getElem? ht)
      have I2 := (H2.out.below HB.out).2 u (List.mem_of_getElem? hu)
      obtain ⟨b1, o1, rfl, hat1⟩ := (H1.out.below HB.out).lies ht
      obtain ⟨b2, o2, rfl, hat2⟩ := (H2.out.below HB.out).lies hu
      clear ht hu
      obtain ⟨s, x, mm, sA, sn, sc, oA, on, oc, own, bA, bn, bc, wk⟩ := t
      obtain ⟨s2, x2, mm2, sA2, sn2, sc2, oA2, on2, oc2, own2, bA2, bn2, bc2, wk2⟩ := u
      have htu : (⟨s, x.c, mm, own, wk⟩ : Tsk) = ⟨s2, x2.c, mm2, own2, wk2⟩ := htu
      injection htu with e1 e2 e3 e4 e5
      subst e1
      subst e3
      subst e4
      subst e5
      obtain rfl : sn2 = sn := by have a := I1.mac.st.1; have b := I2.mac.st.1; simp at a b; omega
      obtain rfl : on2 = on := by have a := I1.mac.ou.1; have b := I2.mac.ou.1; simp at a b; omega
      obtain rfl : bn2 = bn := by have a := I1.own; have b := I2.own; simp only at a b; omega
      obtain ⟨f1, f2, f3, f4, f5, f6, f7⟩ := hfe
      have I1 : (⟨s, x, mm, sA, sn2, sc, oA, on2, oc, own, bA, bn2, bc, wk⟩ : TkL).In wr := I1
      have J1 := Lib.hid I1
      have J2 := Lib.hid I2
      have c1 : Hid (∀ X, Below wr.heap.size wr X → Calls Try.prog 26 #[.agg #[.slice x.ra x.nr x.rc, .slice x.wa x.nw x.wc, .slice x.aa x.na x.ac, .int .i64 x.c.fuel, .slice x.ca x.nc x.cc], .agg #[.slice x2.ra x2.nr x2.rc, .slice x2.wa x2.nw x2.wc, .slice x2.aa x2.na x2.ac, .int .i64 x2.c.fuel, .slice x2.ca x2.nc x2.cc]] X fun e w' => e = .returned (.bool true) ∧ Below X.heap.size X w') := Lib.hid (fun X (hX : Below wr.heap.size wr X) => rcsame_yes x x2 e2 X (J1.out.cmd.below hX) (J2.out.cmd.below hX) ⟨f1, f2, f3, f4⟩)
      have c2 := Lib.hid (fun X (hX : Below wr.heap.size wr X) => rsame_yes mm.pc mm.fuel mm.stack mm.out (rg mm.regs 0) (rg mm.regs 1) (rg mm.regs 2) (rg mm.regs 3) mm.over mm.told sA sA2 sn2 sc sc2 oA oA2 on2 oc oc2 X (J1.out.mac.below hX).st (J2.out.mac.below hX).st (J1.out.mac.below hX).ou (J2.out.mac.below hX).ou (Nat.le_trans f5 (by decide)) (Nat.le_trans f6 (by decide)))
      have c3 := Lib.hid (fun X (hX : Below wr.heap.size wr X) => rsameB_yes own J1.out.eight bA bA2 bn2 bc bc2 X (by have := (J1.out.mac.below hX).bk; unfold Blocks; rw [J1.out.own]; exact this) (by have := (J2.out.mac.below hX).bk; unfold Blocks; rw [J1.out.own]; exact this) J1.out.own (Nat.le_trans f7 (by decide)))
      obtain ⟨p10, -, -, -, -, -, -, p1o, p1w, -, -, p1l⟩ := hat1 wr (Below.refl _ _)
      have r10 := KW.cell p10 p1l
      have r1o := KW.cell p1o p1l
      have r1w := KW.cell p1w p1l
      simp only at r10 r1o r1w
      have L1c : Hid (∀ W, (∃ x : KW wr, W = x.1) → (loadVar 33 ⟨b1, o1 + i * 18 + 1, none⟩).run Try.prog W = .ok (.agg #[.slice x.ra x.nr x.rc, .slice x.wa x.nw x.wc, .slice x.aa x.na x.ac, .int .i64 x.c.fuel, .slice x.ca x.nc x.cc]) W) := Lib.hid (fun W ⟨kw, hkw⟩ => by
        subst hkw
        obtain ⟨-, q1, q2, q3, q4, q5, -⟩ := hat1 kw.1 kw.2
        exact run_loadVar_mid kw.1 b1 (o1 + i * 18 + 1) 33 (cmlC x) _ (fun j v hv => by
          have hj : j < 5 := by
            rcases Nat.lt_or_ge j 5 with q | q
            · exact q
            · rw [List.getElem?_eq_none (by exact q)] at hv; cases hv
          rw [← hv]
          rcases (show j = 0 ∨ j = 1 ∨ j = 2 ∨ j = 3 ∨ j = 4 by omega) with e | e | e | e | e <;> subst e <;> first | exact q1 | exact q2 | exact q3 | exact q4 | exact q5) Try.underlying33 rfl infoCm5)
      have L1m : Hid (∀ W, (∃ x : KW wr, W = x.1) → (loadVar 38 ⟨b1, o1 + i * 18 + 6, none⟩).run Try.prog W = .ok (.agg (mC mm.pc mm.fuel (.slice sA sn2 sc) (rg mm.regs 0) (rg mm.regs 1) (rg mm.regs 2) (rg mm.regs 3) (.slice oA on2 oc) mm.over mm.told)) W) := Lib.hid (fun W ⟨kw, hkw⟩ => by
        subst hkw
        obtain ⟨-, -, -, -, -, -, -, -, -, -, pm, -⟩ := hat1 kw.1 kw.2
        exact run_loadVar_mid kw.1 b1 (o1 + i * 18 + 6) 38 _ _ pm Try.underlying38 rfl infoMc)
      obtain ⟨p20, -, -, -, -, -, -, p2o, p2w, -, -, p2l⟩ := hat2 wr (Below.refl _ _)
      have r20 := KW.cell p20 p2l
      have r2o := KW.cell p2o p2l
      have r2w := KW.cell p2w p2l
      simp only at r20 r2o r2w
      have L2c : Hid (∀ W, (∃ x : KW wr, W = x.1) → (loadVar 33 ⟨b2, o2 + i * 18 + 1, none⟩).run Try.prog W = .ok (.agg #[.slice x2.ra x2.nr x2.rc, .slice x2.wa x2.nw x2.wc, .slice x2.aa x2.na x2.ac, .int .i64 x2.c.fuel, .slice x2.ca x2.nc x2.cc]) W) := Lib.hid (fun W ⟨kw, hkw⟩ => by
        subst hkw
        obtain ⟨-, q1, q2, q3, q4, q5, -⟩ := hat2 kw.1 kw.2
        exact run_loadVar_mid kw.1 b2 (o2 + i * 18 + 1) 33 (cmlC x2) _ (fun j v hv => by
          have hj : j < 5 := by
            rcases Nat.lt_or_ge j 5 with q | q
            · exact q
            · rw [List.getElem?_eq_none (by exact q)] at hv; cases hv
          rw [← hv]
          rcases (show j = 0 ∨ j = 1 ∨ j = 2 ∨ j = 3 ∨ j = 4 by omega) with e | e | e | e | e <;> subst e <;> first | exact q1 | exact q2 | exact q3 | exact q4 | exact q5) Try.underlying33 rfl infoCm5)
      have L2m : Hid (∀ W, (∃ x : KW wr, W = x.1) → (loadVar 38 ⟨b2, o2 + i * 18 + 6, none⟩).run Try.prog W = .ok (.agg (mC mm.pc mm.fuel (.slice sA2 sn2 sc2) (rg mm.regs 0) (rg mm.regs 1) (rg mm.regs 2) (rg mm.regs 3) (.slice oA2 on2 oc2) mm.over mm.told)) W) := Lib.hid (fun W ⟨kw, hkw⟩ => by
        subst hkw
        obtain ⟨-, -, -, -, -, -, -, -, -, -, pm, -⟩ := hat2 kw.1 kw.2
        exact run_loadVar_mid kw.1 b2 (o2 + i * 18 + 6) 38 _ _ pm Try.underlying38 rfl infoMc)
      have hne : Nonempty (KW wr) := ⟨⟨wr, Below.refl _ _⟩⟩
      clear e2 hat1 hat2 I1 I2 f1 f2 f3 f4 f5 f6 f7 HS HF htu p10 p1o p1w p1l p20 p2o p2w p2l
      go_wp2
      try simp only [List.append_eq, List.cons_append, List.nil_append]
      refine wp_region_kept wr (Below.refl _ _) (by kernel_rfl) (by kernel_rfl) ?_
      repeat (first
        | (go_big_quiet_want; (first | refine quiet_load_at 33 b1 (o1 + i * 18 + 1) L1c.out _ rfl rfl ?_ | refine quiet_load_at 33 b2 (o2 + i * 18 + 1) L2c.out _ rfl rfl ?_ | refine quiet_load_at 38 b1 (o1 + i * 18 + 6) L1m.out _ rfl rfl ?_ | refine quiet_load_at 38 b2 (o2 + i * 18 + 6) L2m.out _ rfl rfl ?_); go_simp; go_big_quiet_on)
        | go_big_quiet_step ((first
          | (go_at_call 26; with_reducible exact kept_of _ (c1.out _ (Subtype.property _)))
          | (go_at_call 37; with_reducible exact kept_of _ (c2.out _ (Subtype.property _)))
          | (go_at_call 38; with_reducible exact kept_of _ (c3.out _ (Subtype.property _))))))
      refine wpQuiet_nil ?_
      rintro _ ⟨wx, rfl⟩
      have BX := Lib.hid (bnext HB.out wx.2)
      go_wp2
      go_roundw
      case rel => exact ⟨i + 1, by omega, by go_num, BX⟩
      case measure => simp [intOf]; omega
    · obtain rfl : i = n := by omega
      clear hlt
      go_wp2
      go_ret
      exact ⟨rfl, HB.out⟩

end Go.Proofs.Ytldljohholgmoaa
