/-
  PoolFinds, walked: true of any commands and any byte, in whatever memory.
-/
import Derived.Test.YtldljohholgmoaaZPooG
namespace Go.Proofs.Ytldljohholgmoaa
open Go Go.RowKit
attribute [local go_sem] look findAt
attribute [local simp] depsOf isV Region.binds

/-! ### where they are -/
abbrev fF : Nat → Int := fun j => (j : Int) + 1
theorem newG_get {l : List CmL} {n j : Nat} {T : Tsk} (h : (newG fF l n)[j]? = some T) : j < n ∧ T.seq = (j : Int) + 1 := by
  unfold newG at h
  rw [List.getElem?_map] at h
  rcases Nat.lt_or_ge j n with q | q
  · rw [List.getElem?_range q] at h
    injection h with h
    exact ⟨q, by rw [← h]; rfl⟩
  · rw [List.getElem?_eq_none (by rw [List.length_range]; exact q)] at h
    cases h
theorem newG_some (l : List CmL) {n j : Nat} (h : j < n) : ∃ T, (newG fF l n)[j]? = some T ∧ T.seq = (j : Int) + 1 := by
  have hl : j < (newG fF l n).length := by rw [newG_length]; exact h
  exact ⟨_, List.getElem?_eq_getElem hl, (newG_get (List.getElem?_eq_getElem hl)).2⟩
theorem find_all (l : List CmL) {n K : Nat} (h : K < n) : idxP (seqP ((K : Int) + 1)) (newG fF l n) = K := by
  obtain ⟨T, hT, hs⟩ := newG_some l h
  refine idxP_at hT (by unfold seqP; rw [hs]; exact decide_eq_true rfl) fun j y hj hy => ?_
  have := (newG_get hy).2
  unfold seqP
  exact decide_eq_false (by omega)
theorem without_at (L : List Tsk) {K : Nat} (hK : K < L.length) (j : Nat) : (withoutP L K)[j]? = if j < K then L[j]? else L[j + 1]? := by
  unfold withoutP
  by_cases h : j < K
  · rw [if_pos h, List.getElem?_append_left (by rw [List.length_take]; omega), List.getElem?_take, if_pos h]
  · rw [if_neg h, List.getElem?_append_right (by rw [List.length_take]; omega), List.length_take, List.getElem?_drop]
    congr 1
    omega
theorem find_less (l : List CmL) {n K i : Nat} (h : K < n) (hi : i < K) : idxP (seqP ((i : Int) + 1)) (withoutP (newG fF l n) K) = i := by
  have hK : K < (newG fF l n).length := by rw [newG_length]; exact h
  obtain ⟨T, hT, hs⟩ := newG_some l (show i < n by omega)
  refine idxP_at (i := i) (by rw [without_at _ hK, if_pos hi]; exact hT) (by unfold seqP; rw [hs]; exact decide_eq_true rfl) fun j y hj hy => ?_
  rw [without_at _ hK, if_pos (by omega)] at hy
  have := (newG_get hy).2
  unfold seqP
  exact decide_eq_false (by omega)
theorem find_it (l : List CmL) {n K : Nat} (h : K < n) : idxP (seqP ((K : Int) + 1)) (withoutP (newG fF l n) K) = -1 := by
  have hK : K < (newG fF l n).length := by rw [newG_length]; exact h
  refine idxP_none fun j y _ hy => ?_
  rw [without_at _ hK] at hy
  unfold seqP
  split at hy
  · have := (newG_get hy).2
    exact decide_eq_false (by omega)
  · have := (newG_get hy).2
    exact decide_eq_false (by omega)
theorem find_more (l : List CmL) {n K i : Nat} (hn : i < n) (hi : K < i) : idxP (seqP ((i : Int) + 1)) (withoutP (newG fF l n) K) = ((i - 1 : Nat) : Int) := by
  have hK : K < (newG fF l n).length := by rw [newG_length]; omega
  obtain ⟨T, hT, hs⟩ := newG_some l hn
  refine idxP_at (i := i - 1) (by rw [without_at _ hK, if_neg (by omega), show i - 1 + 1 = i by omega]; exact hT) (by unfold seqP; rw [hs]; exact decide_eq_true rfl) fun j y hj hy => ?_
  rw [without_at _ hK] at hy
  unfold seqP
  split at hy
  · have := (newG_get hy).2
    exact decide_eq_false (by omega)
  · have := (newG_get hy).2
    exact decide_eq_false (by omega)

section
variable (l : List CmL) (A : Option Addr) (n c : Nat) (b : Int)

set_option maxHeartbeats 4000000 in
theorem poolFinds_no (hz : n ≤ 9223372036854775807) (w : World) (h : Cmds w A c l) (hN : l.length = n) (hr : ¬ RightC l) :
    Calls Try.prog 4 #[.slice A n c, .int .u8 b] w fun e w' => e = .returned (.bool true) ∧ Below w.heap.size w w' := by
  have aw := Lib.hid (fun W => awake16 W)
  have hri := Lib.hid (right16_no l A n c w h hN hz hr)
  clear h hN hr
  go_enter Try.func4, Try.ntmps4
  go_wp2_with (first
    | (go_at_call 6; go_must ((with_reducible refine hri.out.mono ?_); rintro e w1 ⟨rfl, hb1⟩; have B1 := Lib.hid hb1; clear hb1))
    | (go_at_call 7; go_must ((with_reducible refine (aw.out _).mono ?_); rintro e w2 ⟨rfl, hb2⟩; have B2 := Lib.hid (bnext B1.out hb2); clear hb2)))
  go_ret
  exact ⟨rfl, B2.out⟩

set_option maxHeartbeats 4000000 in
theorem poolFinds_none (w : World) (h : Cmds w A c l) (hN : l.length = n) (hr : RightC l) (h0 : n = 0) :
    Calls Try.prog 4 #[.slice A n c, .int .u8 b] w fun e w' => e = .returned (.bool true) ∧ Below w.heap.size w w' := by
  have aw := Lib.hid (fun W => awake16 W)
  subst h0
  have hri := Lib.hid (right16_yes l A 0 c w h hN hr)
  clear h hN hr
  go_enter Try.func4, Try.ntmps4
  go_wp2_with (first
    | (go_at_call 6; go_must ((with_reducible refine hri.out.mono ?_); rintro e w1 ⟨rfl, hb1⟩; have B1 := Lib.hid hb1; clear hb1))
    | (go_at_call 7; go_must ((with_reducible refine (aw.out _).mono ?_); rintro e w2 ⟨rfl, hb2⟩; have B2 := Lib.hid (bnext B1.out hb2); clear hb2)))
  go_ret
  exact ⟨rfl, B2.out⟩

set_option maxHeartbeats 16000000 in
set_option maxRecDepth 100000 in
theorem poolFinds_main (w : World) (h : Cmds w A c l) (hN : l.length = n) (hr : RightC l) (hpos : 0 < n) (hb0 : 0 ≤ b) (hb1 : b ≤ 255) :
    Calls Try.prog 4 #[.slice A n c, .int .u8 b] w fun e w' => e = .returned (.bool true) ∧ Below w.heap.size w w' := by
  have aw := Lib.hid (fun W => awake16 W)
  have hri := Lib.hid (right16_yes l A n c w h hN hr)
  have H := Lib.hid h
  have HN := Lib.hid hN
  have HR := Lib.hid hr
  have hcap := h.cap
  rw [hN] at hcap
  have h30 := hr.2
  rw [hN] at h30
  obtain ⟨K, hK⟩ : ∃ K : Nat, b % (n : Int) = (K : Int) := ⟨(b % (n : Int)).toNat, by have := Int.emod_nonneg b (show (n : Int) ≠ 0 by omega); omega⟩
  have hKn : K < n := by have := Int.emod_lt_of_pos b (show 0 < (n : Int) by omega); omega
  have hKt : b.tmod (n : Int) = (K : Int) := by rw [Int.tmod_eq_emod_of_nonneg hb0]; exact hK
  have hww : wrap64 b = b := by unfold wrap64; omega
  have hn0 : ¬ (n : Int) = 0 := by omega
  have hn1 : ¬ n = 0 := by omega
  have hn0' : ((n : Int) == 0) = false := by simpa using hn0
  clear h hN hr hK
  go_enter Try.func4, Try.ntmps4
  go_wp2_with (go_at_call 6; go_must ((with_reducible refine hri.out.mono ?_); rintro e w1 ⟨rfl, hb1⟩; have B1 := Lib.hid hb1; clear hb1))
  have T0 : Hid (TkNew (newG fF l 0) w.heap.size w1 none 0 0 []) := Lib.hid ⟨TkOwn.nil _ _, rfl, by simp, by simp, fun g off e => by cases e⟩
  go_loopw [5, 6] (fun xs cc wr => ∃ (i kx : Nat) (X : Option Addr) (lx : List TkL), i ≤ n ∧ xs = .slice X i kx ∧ cc = .int .i64 i ∧ Hid (TkNew (newG fF l i) w.heap.size wr X i kx lx) ∧ Hid (Below w.heap.size w wr)) (fun _ cc _ => n - (intOf cc).toNat)
  case atStart => exact ⟨0, 0, none, [], Nat.zero_le _, rfl, rfl, T0, B1⟩
  case round =>
    obtain ⟨i, kx, X, lx, hi, rfl, rfl, HT, HB⟩ := hrel
    by_cases hlt : i < n
    · have d1 : (i : Int) < (n : Int) := by omega
      have d2 : (i : Int) < (c : Int) := by omega
      have dw : IntKind.i64.wrap ((i : Int) + 1) = (i : Int) + 1 := by rw [IntKind.wrap_i64]; omega
      obtain ⟨x, hx⟩ := cml_at (l := l) (i := i) (by rw [HN.out]; exact hlt)
      have hmf := HR.out.at hx
      have hin := H.out.2 x (List.mem_of_getElem? hx)
      have hadd := Lib.hid (padd_is _ lx X i kx wr x ((i : Int) + 1) HT.out.is (by omega) (hin.below HB.out) (hin.few hmf.1))
      rw [← newG_succ fF hx] at hadd
      obtain ⟨bb, off, rfl, hA⟩ := (H.out.below HB.out).lies hx
      obtain ⟨c0, c1, c2, c3, c4, cl⟩ := hA _ (Below.refl _ _)
      clear hx hA hmf hin
      go_wp2_with (go_at_call 9; go_must ((with_reducible refine hadd.out.mono ?_); rintro e w3 ⟨X3, k3, l3, rfl, hT3, hb3⟩; have T3 := Lib.hid (hT3.lower (B' := w.heap.size) HB.out.size); have B3 := Lib.hid (HB.out.trans (hb3.mono HB.out.size)); clear hT3 hb3 c0 c1 c2 c3 c4 cl))
      go_roundw
      case rel => exact ⟨i + 1, k3, X3, l3, by omega, rfl, by go_num, T3, B3⟩
      case measure => simp [intOf]; omega
    · obtain rfl : n = i := by omega
      have d1 : (K : Int) < (n : Int) := by omega
      have d2 : (K : Int) < (c : Int) := by omega
      have dw : IntKind.i64.wrap ((K : Int) + 1) = (K : Int) + 1 := by rw [IntKind.wrap_i64]; omega
      obtain ⟨x, hx⟩ := cml_at (l := l) (i := K) (by rw [HN.out]; exact hKn)
      obtain ⟨t, ht⟩ := tk_at (l := lx) (i := K) (by rw [HT.out.own.1]; exact hKn)
      have hts : t.tsk = newP ((K : Int) + 1) x.c := by
        have h1 := HT.out.says.at ht
        rw [newG_at fF hKn hx] at h1
        injection h1 with h1
        exact h1.symm
      have hxc := HT.out.own.cap
      have d3 : (K : Int) < (kx : Int) := by omega
      obtain ⟨g, o1, hX, hat⟩ := HT.out.own.sl.lies ht
      obtain ⟨bb, off, hAA, hA⟩ := (H.out.below HB.out).lies hx
      subst hX
      subst hAA
      obtain ⟨c0, c1, c2, c3, c4, cl⟩ := hA wr (Below.refl _ _)
      have q0 := hat wr (Below.refl _ _)
      have qw := q0.wk
      have qf := q0.fuel
      have hwk : t.wk = -1 := congrArg Tsk.worker hts
      have hfu : t.m.fuel = x.c.fuel := congrArg (fun T : Tsk => T.m.fuel) hts
      have htc : t.x.c = x.c := congrArg Tsk.cmd hts
      rw [hwk] at qw
      rw [hfu] at qf
      have r1 := KW.cell qw q0.lt
      have r2 := KW.cell qf q0.lt
      have r3 := KW.cell c3 cl
      try simp only at r1 r2 r3
      have hfind := Lib.hid (fun W (hW : Below wr.heap.size wr W) => pfind_is (newG fF l n) lx _ n kx W ((K : Int) + 1) (HT.out.is.below hW) (by omega))
      rw [find_all l hKn] at hfind
      have hint := HT.out.own.2.2 t (List.mem_of_getElem? ht)
      have hinx := (H.out.2 x (List.mem_of_getElem? hx)).below HB.out
      have hfe := HT.out.few t (List.mem_of_getElem? ht)
      have hsame : Hid (∀ W, Below wr.heap.size wr W → Calls Try.prog 26 #[.agg #[.slice t.x.ra t.x.nr t.x.rc, .slice t.x.wa t.x.nw t.x.wc, .slice t.x.aa t.x.na t.x.ac, .int .i64 t.x.c.fuel, .slice t.x.ca t.x.nc t.x.cc], .agg #[.slice x.ra x.nr x.rc, .slice x.wa x.nw x.wc, .slice x.aa x.na x.ac, .int .i64 x.c.fuel, .slice x.ca x.nc x.cc]] W fun e w' => e = .returned (.bool true) ∧ Below W.heap.size W w') := Lib.hid (fun W hW => rcsame_yes t.x x htc W (hint.cmd.below hW) (hinx.below hW) ⟨hfe.r, hfe.w, hfe.a, hfe.c⟩)
      have L1 : Hid (∀ W, (∃ x : KW wr, W = x.1) → (loadVar 33 ⟨g, o1 + K * 18 + 1, none⟩).run Try.prog W = .ok (.agg #[.slice t.x.ra t.x.nr t.x.rc, .slice t.x.wa t.x.nw t.x.wc, .slice t.x.aa t.x.na t.x.ac, .int .i64 t.x.c.fuel, .slice t.x.ca t.x.nc t.x.cc]) W) := Lib.hid (fun W ⟨kw, hkw⟩ => by
        subst hkw
        obtain ⟨-, q1, q2, q3, q4, q5, -⟩ := hat kw.1 kw.2
        exact run_loadVar_mid kw.1 g (o1 + K * 18 + 1) 33 (cmlC t.x) _ (fun j v hv => by
          have hj : j < 5 := by
            rcases Nat.lt_or_ge j 5 with q | q
            · exact q
            · rw [List.getElem?_eq_none (by exact q)] at hv; cases hv
          rw [← hv]
          rcases (show j = 0 ∨ j = 1 ∨ j = 2 ∨ j = 3 ∨ j = 4 by omega) with e | e | e | e | e <;> subst e <;> first | exact q1 | exact q2 | exact q3 | exact q4 | exact q5) Try.underlying33 rfl infoCm5)
      have L2 : Hid (∀ W, (∃ x : KW wr, W = x.1) → (loadVar 33 ⟨bb, off + K * 5, none⟩).run Try.prog W = .ok (.agg #[.slice x.ra x.nr x.rc, .slice x.wa x.nw x.wc, .slice x.aa x.na x.ac, .int .i64 x.c.fuel, .slice x.ca x.nc x.cc]) W) := Lib.hid (fun W ⟨kw, hkw⟩ => by
        subst hkw
        obtain ⟨q1, q2, q3, q4, q5, -⟩ := hA kw.1 kw.2
        exact run_loadVar_mid kw.1 bb (off + K * 5) 33 (cmlC x) _ (fun j v hv => by
          have hj : j < 5 := by
            rcases Nat.lt_or_ge j 5 with q | q
            · exact q
            · rw [List.getElem?_eq_none (by exact q)] at hv; cases hv
          rw [← hv]
          rcases (show j = 0 ∨ j = 1 ∨ j = 2 ∨ j = 3 ∨ j = 4 by omega) with e | e | e | e | e <;> subst e <;> first | exact q1 | exact q2 | exact q3 | exact q4 | exact q5) Try.underlying33 rfl infoCm5)
      have hne : Nonempty (KW wr) := ⟨⟨wr, Below.refl _ _⟩⟩
      obtain ⟨q, hq⟩ : ∃ q, q = n - 1 := ⟨_, rfl⟩
      have hwo := Lib.hid (fun W (hW : Below wr.heap.size wr W) => (pwithout_is (newG fF l n) lx _ n kx W K (HT.out.is.below hW) hKn (by omega)).mono fun _ _ h => h.is)
      rw [← hq] at hwo
      have dq : IntKind.i64.wrap ((n : Int) - 1) = (q : Int) := by rw [IntKind.wrap_i64]; omega
      have hxf : (x.c.fuel == x.c.fuel) = true := by simp
      have HQ := Lib.hid hq
      clear hlt hx ht hts hat hA q0 qw qf c0 c1 c2 c3 c4 cl hwk hfu htc hint hinx hfe hq
      generalize x.c.fuel = xf at *
      go_wp2
      try simp only [List.append_eq, List.cons_append, List.nil_append]
      refine wp_region_kept wr (Below.refl _ _) (by kernel_rfl) (by kernel_rfl) ?_
      repeat (first
        | (go_big_quiet_want; (first | refine quiet_load_at 33 g (o1 + K * 18 + 1) L1.out _ rfl rfl ?_ | refine quiet_load_at 33 bb (off + K * 5) L2.out _ rfl rfl ?_); go_simp; go_big_quiet_on)
        | go_big_quiet_step ((first
          | (go_at_call 15; with_reducible exact kept_of _ (hfind.out _ (Subtype.property _)))
          | (go_at_call 26; with_reducible exact kept_of _ (hsame.out _ (Subtype.property _))))))
      refine wpQuiet_nil ?_
      rintro _ ⟨wx, rfl⟩
      have BX := Lib.hid wx.2
      obtain ⟨W4, hW4⟩ : ∃ W, W = wx.1 := ⟨_, rfl⟩
      rw [← hW4] at BX ⊢
      clear hW4
      go_wp2_with (go_at_call 24; go_must ((with_reducible refine (hwo.out _ BX.out).mono ?_); rintro e w5 ⟨Y, ky, ly, rfl, hY, hb5⟩; have Y5 := Lib.hid hY; have B5 := Lib.hid (HB.out.trans ((bnext BX.out hb5).mono HB.out.size)); clear hY hb5))
      obtain ⟨w6, hw6⟩ : ∃ W, W = w5 := ⟨_, rfl⟩
      rw [← hw6] at Y5 B5 ⊢
      clear hw6
      go_loopw [9] (fun cc wr => ∃ i : Nat, i ≤ n ∧ cc = .int .i64 i ∧ Hid (Below w6.heap.size w6 wr)) (fun cc _ => n - (intOf cc).toNat)
      case atStart => exact ⟨0, Nat.zero_le _, rfl, Lib.hid (Below.refl _ _)⟩
      case round =>
        obtain ⟨i, hi, rfl, HI⟩ := hrel
        by_cases hlt : i < n
        · have f1 : (i : Int) < (n : Int) := by omega
          have fw : IntKind.i64.wrap ((i : Int) + 1) = (i : Int) + 1 := by rw [IntKind.wrap_i64]; omega
          have hf2 := pfind_is _ ly Y q ky _ ((i : Int) + 1) (Y5.out.below HI.out) (by have := HQ.out; omega)
          rcases Nat.lt_trichotomy i K with hik | hik | hik
          · rw [find_less l hKn hik] at hf2
            have HF := Lib.hid hf2
            have g1 : ((i : Int) == (K : Int)) = false := beq_eq_false_iff_ne.2 (by omega)
            have g2 : (i : Int) < (K : Int) := by omega
            have g3 : ¬ (K : Int) < (i : Int) := by omega
            have g4 : ¬ K < i := by omega
            have g5 : ¬ i = K := by omega
            clear hf2
            go_wp2_with (go_at_call 15; go_must ((with_reducible refine HF.out.mono ?_); rintro e w7 ⟨rfl, hb⟩; have B7 := Lib.hid (bnext HI.out hb); clear hb))
            go_roundw
            case rel => exact ⟨i + 1, by omega, by go_num, B7⟩
            case measure => simp [intOf]; omega
          · subst hik
            rw [find_it l hKn] at hf2
            have HF := Lib.hid hf2
            clear hf2
            go_wp2_with (go_at_call 15; go_must ((with_reducible refine HF.out.mono ?_); rintro e w7 ⟨rfl, hb⟩; have B7 := Lib.hid (bnext HI.out hb); clear hb))
            go_roundw
            case rel => exact ⟨i + 1, by omega, by go_num, B7⟩
            case measure => simp [intOf]; omega
          · rw [find_more l hlt hik] at hf2
            obtain ⟨z, hz⟩ : ∃ z, z = i - 1 := ⟨_, rfl⟩
            rw [← hz] at hf2
            have HF := Lib.hid hf2
            have g0 : IntKind.i64.wrap ((i : Int) - 1) = (z : Int) := by rw [IntKind.wrap_i64]; omega
            have g1 : ((i : Int) == (K : Int)) = false := beq_eq_false_iff_ne.2 (by omega)
            have g2 : ¬ (i : Int) < (K : Int) := by omega
            have g3 : (K : Int) < (i : Int) := by omega
            have g4 : ¬ i < K := by omega
            have g5 : ¬ i = K := by omega
            clear hf2 hz
            go_wp2_with (go_at_call 15; go_must ((with_reducible refine HF.out.mono ?_); rintro e w7 ⟨rfl, hb⟩; have B7 := Lib.hid (bnext HI.out hb); clear hb))
            go_roundw
            case rel => exact ⟨i + 1, by omega, by go_num, B7⟩
            case measure => simp [intOf]; omega
        · obtain rfl : n = i := by omega
          clear hlt
          go_wp2_with (go_at_call 7; go_must ((with_reducible refine (aw.out _).mono ?_); rintro e w8 ⟨rfl, hb⟩; have B8 := Lib.hid (B5.out.trans ((bnext HI.out hb).mono B5.out.size)); clear hb))
          go_ret
          exact ⟨rfl, B8.out⟩

theorem poolFinds_walk (hz : n ≤ 9223372036854775807) (w : World) (h : Cmds w A c l) (hN : l.length = n) (hb0 : 0 ≤ b) (hb1 : b ≤ 255) :
    Calls Try.prog 4 #[.slice A n c, .int .u8 b] w fun e w' => e = .returned (.bool true) ∧ Below w.heap.size w w' := by
  by_cases hr : RightC l
  · by_cases h0 : n = 0
    · exact poolFinds_none l A n c b w h hN hr h0
    · exact poolFinds_main l A n c b w h hN hr (by omega) hb0 hb1
  · exact poolFinds_no l A n c b hz w h hN hr

end
end Go.Proofs.Ytldljohholgmoaa
