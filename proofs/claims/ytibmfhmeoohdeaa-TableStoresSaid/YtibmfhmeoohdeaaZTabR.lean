/-
  What foremanref08.Fits, foremanlaw12's right and foremanref12.Same (of what reads the same) answer, in whatever memory. No conditions but those that stand there.
-/
import Derived.Test.YtibmfhmeoohdeaaZRckC
import Derived.Test.YtibmfhmeoohdeaaQTabA
import Derived.Test.YtibmfhmeoohdeaaQStr
import Derived.Test.YtibmfhmeoohdeaaZRunQ
namespace Go.Proofs.Ytibmfhmeoohdeaa
open Go.RowKit

section
variable (c : Cmd) (ra : Option Addr) (nr rc : Nat) (wa : Option Addr) (nw wc : Nat) (aa : Option Addr) (na ac : Nat) (ca : Option Addr) (nc cc : Nat)

set_option maxHeartbeats 2000000 in
theorem fits_any (ln : Nat) (b : Bool) (w : World) (h : CmIn w c ra nr rc wa nw wc aa na ac ca nc cc) (hb : b = true ↔ fitsT c ln) :
    Calls Try.prog 21 #[cmV ra nr rc wa nw wc aa na ac c.fuel ca nc cc, .int .i64 (ln : Int)] w fun e w' => e = .returned (.bool b) ∧ Below w.heap.size w w' := by
  have hlr := h.lr
  have hlw := h.lw
  have hbr := h.br
  have hbw := h.bw
  have hrc : nr ≤ rc := by have := h.reads.2.1; rw [h.lr] at this; exact this
  have hwc : nw ≤ wc := by have := h.writes.2.1; rw [h.lw] at this; exact this
  have HR : Hid (Sl w 1 ra nr rc (c.reads.map (.int .i64))) := Lib.hid (by have := h.reads; unfold Ints at this; rwa [h.lr] at this)
  have HW : Hid (Sl w 1 wa nw wc (c.writes.map (.int .i64))) := Lib.hid (by have := h.writes; unfold Ints at this; rwa [h.lw] at this)
  have B0 := Lib.hid (below_alloc1 w (CmObj ra nr rc wa nw wc aa na ac c.fuel ca nc cc))
  have C0 : Hid (Bk (w.alloc (CmObj ra nr rc wa nw wc aa na ac c.fuel ca nc cc)) w.heap.size 26 #[.slice ra nr rc, .slice wa nw wc, .slice aa na ac, .int .i64 c.fuel, .slice ca nc cc]) := Lib.hid (Bk.new w _ _)
  have rno : Hid (∀ k, k < nr → (ln : Int) ≤ c.reads[k]?.getD 0 → b = false) := Lib.hid (fun k hk hg => by
    cases b with
    | false => rfl
    | true =>
      have := (hb.1 rfl).1 (c.reads[k]?.getD 0) (by rw [List.getElem?_eq_getElem (by omega)]; exact List.getElem_mem _)
      omega)
  have wno : Hid (∀ k, k < nw → (ln : Int) ≤ c.writes[k]?.getD 0 → b = false) := Lib.hid (fun k hk hg => by
    cases b with
    | false => rfl
    | true =>
      have := (hb.1 rfl).2 (c.writes[k]?.getD 0) (by rw [List.getElem?_eq_getElem (by omega)]; exact List.getElem_mem _)
      omega)
  have yes : Hid ((∀ j, j < nr → c.reads[j]?.getD 0 < (ln : Int)) → (∀ j, j < nw → c.writes[j]?.getD 0 < (ln : Int)) → b = true) := Lib.hid (fun p q => hb.2 ⟨fun x hx => by
      obtain ⟨i, hi, rfl⟩ := List.getElem_of_mem hx
      have := p i (by omega)
      rwa [List.getElem?_eq_getElem hi] at this, fun x hx => by
      obtain ⟨i, hi, rfl⟩ := List.getElem_of_mem hx
      have := q i (by omega)
      rwa [List.getElem?_eq_getElem hi] at this⟩)
  clear h hb hlr hlw
  generalize c.fuel = fuel at *
  generalize c.reads = rs at *
  generalize c.writes = ws at *
  go_enter Try.func21, Try.ntmps21
  go_wp2
  go_loopw [5] (fun ii wr => ∃ k : Nat, k ≤ nr ∧ ii = .int .i64 (k : Int) ∧ Hid (Below w.heap.size w wr) ∧ Hid (Bk wr w.heap.size 26 #[.slice ra nr rc, .slice wa nw wc, .slice aa na ac, .int .i64 fuel, .slice ca nc cc]) ∧ Hid (∀ j, j < k → rs[j]?.getD 0 < (ln : Int))) (fun ii _ => nr - (intOf ii).toNat)
  case atStart => exact ⟨0, Nat.zero_le _, rfl, B0, C0, Lib.hid (fun j hj => absurd hj (by omega))⟩
  case round =>
    clear B0 C0
    obtain ⟨k, hk, rfl, HB, HC, HP⟩ := hrel
    obtain ⟨f0, f1, f2, f3, f4, ff⟩ := HC.out.cmd
    have fl := HC.out.lt
    by_cases hlt : k < nr
    · obtain ⟨g, off, rfl, hg, hv⟩ := (HR.out.below HB.out).int hlt
      have d1 : (k : Int) < (nr : Int) := by omega
      have d2 : (k : Int) < (rc : Int) := by omega
      have hp := HP.out
      have hn := rno.out k hlt
      clear HP
      obtain ⟨v, hvv⟩ : ∃ v, v = rs[k]?.getD 0 := ⟨_, rfl⟩
      rw [← hvv] at hv hn
      have HV := Lib.hid hvv
      have HPP := Lib.hid hp
      clear hvv hp
      by_cases hge : (ln : Int) ≤ v
      · obtain rfl := hn hge
        clear hn
        go_wp2
        go_ret
        exact ⟨rfl, HB.out⟩
      · clear hn
        have hlt2 : v < (ln : Int) := by omega
        go_wp2
        go_roundw
        case rel => exact ⟨k + 1, by omega, by go_num, HB, HC, Lib.hid (fun j hj => by
          rcases Nat.lt_or_ge j k with q | q
          · exact HPP.out j q
          · obtain rfl : j = k := by omega
            rw [← HV.out]
            exact hlt2)⟩
        case measure => simp [intOf]; omega
    · obtain rfl : nr = k := by omega
      have RP := HP
      clear hlt HP rno HR
      go_wp2
      go_loopw [6] (fun ii wr => ∃ k : Nat, k ≤ nw ∧ ii = .int .i64 (k : Int) ∧ Hid (Below w.heap.size w wr) ∧ Hid (Bk wr w.heap.size 26 #[.slice ra nr rc, .slice wa nw wc, .slice aa na ac, .int .i64 fuel, .slice ca nc cc]) ∧ Hid (∀ j, j < k → ws[j]?.getD 0 < (ln : Int))) (fun ii _ => nw - (intOf ii).toNat)
      case atStart => exact ⟨0, Nat.zero_le _, rfl, HB, HC, Lib.hid (fun j hj => absurd hj (by omega))⟩
      case round =>
        clear HB HC f0 f1 f2 f3 f4 ff fl
        obtain ⟨k, hk2, rfl, HB, HC, HP⟩ := hrel
        obtain ⟨f0, f1, f2, f3, f4, ff⟩ := HC.out.cmd
        have fl := HC.out.lt
        by_cases hlt : k < nw
        · obtain ⟨g, off, rfl, hg, hv⟩ := (HW.out.below HB.out).int hlt
          have d1 : (k : Int) < (nw : Int) := by omega
          have d2 : (k : Int) < (wc : Int) := by omega
          have hp := HP.out
          have hn := wno.out k hlt
          clear HP
          obtain ⟨v, hvv⟩ : ∃ v, v = ws[k]?.getD 0 := ⟨_, rfl⟩
          rw [← hvv] at hv hn
          have HV := Lib.hid hvv
          have HPP := Lib.hid hp
          clear hvv hp
          by_cases hge : (ln : Int) ≤ v
          · obtain rfl := hn hge
            clear hn
            go_wp2
            go_ret
            exact ⟨rfl, HB.out⟩
          · clear hn
            have hlt2 : v < (ln : Int) := by omega
            go_wp2
            go_roundw
            case rel => exact ⟨k + 1, by omega, by go_num, HB, HC, Lib.hid (fun j hj => by
              rcases Nat.lt_or_ge j k with q | q
              · exact HPP.out j q
              · obtain rfl : j = k := by omega
                rw [← HV.out]
                exact hlt2)⟩
            case measure => simp [intOf]; omega
        · obtain rfl : k = nw := by omega
          obtain rfl := yes.out RP.out HP.out
          clear hlt
          go_wp2
          go_ret
          exact ⟨rfl, HB.out⟩

/-- too many numbers: ErrLimit. -/
theorem rcheck_args (w : World) (h1 : nr ≤ 8) (h2 : nw ≤ 8) (h3 : 8 < na) :
    Calls Try.prog 20 #[cmV ra nr rc wa nw wc aa na ac c.fuel ca nc cc] w fun e w' => e = .returned (.int .i64 4) ∧ Below w.heap.size w w' := by
  have B0 := Lib.hid (below_alloc1 w (CmObj ra nr rc wa nw wc aa na ac c.fuel ca nc cc))
  generalize c.fuel = fuel at *
  by_cases g : nr + nw ≤ 8
  · have e0 : decide (8 < (nr : Int) + (nw : Int)) = false := decide_eq_false (by omega)
    have e1 : decide (8 < (na : Int)) = true := decide_eq_true (by omega)
    go_enter Try.func20, Try.ntmps20
    go_wp2
    go_ret
    exact ⟨rfl, B0.out⟩
  · have e0 : decide (8 < (nr : Int) + (nw : Int)) = true := decide_eq_true (by omega)
    go_enter Try.func20, Try.ntmps20
    go_wp2
    go_ret
    exact ⟨rfl, B0.out⟩

theorem right_any (lA : Option Addr) (ln kc : Nat) (w : World) (h : CmRaw w c ra nr rc wa nw wc aa na ac ca nc cc) (b : Bool) (hb : b = true ↔ ln ≤ 64 ∧ MayBe c ∧ fitsT c ln) :
    Calls Try.prog 7 #[.slice lA ln kc, cmV ra nr rc wa nw wc aa na ac c.fuel ca nc cc] w fun e w' => e = .returned (.bool b) ∧ Below w.heap.size w w' := by
  have hlr := h.lr
  have hlw := h.lw
  have hla := h.la
  have hlc := h.lc
  have B0 := Lib.hid (below_alloc1 w (CmObj ra nr rc wa nw wc aa na ac c.fuel ca nc cc))
  have C0 : Hid (Bk (w.alloc (CmObj ra nr rc wa nw wc aa na ac c.fuel ca nc cc)) w.heap.size 26 #[.slice ra nr rc, .slice wa nw wc, .slice aa na ac, .int .i64 c.fuel, .slice ca nc cc]) := Lib.hid (Bk.new w _ _)
  have hno : (¬ (ln ≤ 64 ∧ nr ≤ 8 ∧ nw ≤ 8 ∧ na ≤ 8 ∧ nc ≤ 64)) → b = false := fun hn => by
    cases b with
    | false => rfl
    | true =>
      obtain ⟨hl, hm, -⟩ := hb.1 rfl
      obtain ⟨f1, f2, f3, f4, -, -⟩ := hm.few
      exact absurd (by omega) hn
  by_cases g0 : ln ≤ 64
  rotate_left
  · obtain rfl : b = false := hno (by omega)
    have e0 : decide ((ln : Int) ≤ 64) = false := decide_eq_false (by omega)
    clear hb hno h hlr hlw hla hlc
    generalize c.fuel = fuel at *
    go_enter Try.func7, Try.ntmps7
    go_wp2
    go_ret
    exact ⟨rfl, B0.out⟩
  have e0 : decide ((ln : Int) ≤ 64) = true := decide_eq_true (by omega)
  by_cases g1 : nr ≤ 8
  rotate_left
  · obtain rfl : b = false := hno (by omega)
    have e1 : decide ((nr : Int) ≤ 8) = false := decide_eq_false (by omega)
    clear hb hno h hlr hlw hla hlc
    generalize c.fuel = fuel at *
    go_enter Try.func7, Try.ntmps7
    go_wp2
    go_ret
    exact ⟨rfl, B0.out⟩
  have e1 : decide ((nr : Int) ≤ 8) = true := decide_eq_true (by omega)
  by_cases g2 : nw ≤ 8
  rotate_left
  · obtain rfl : b = false := hno (by omega)
    have e2 : decide ((nw : Int) ≤ 8) = false := decide_eq_false (by omega)
    clear hb hno h hlr hlw hla hlc
    generalize c.fuel = fuel at *
    go_enter Try.func7, Try.ntmps7
    go_wp2
    go_ret
    exact ⟨rfl, B0.out⟩
  have e2 : decide ((nw : Int) ≤ 8) = true := decide_eq_true (by omega)
  by_cases g3 : nc ≤ 64
  rotate_left
  · obtain rfl : b = false := hno (by omega)
    have e3 : decide ((nc : Int) ≤ 64) = false := decide_eq_false (by omega)
    clear hb hno h hlr hlw hla hlc
    generalize c.fuel = fuel at *
    go_enter Try.func7, Try.ntmps7
    go_wp2
    go_ret
    exact ⟨rfl, B0.out⟩
  have e3 : decide ((nc : Int) ≤ 64) = true := decide_eq_true (by omega)
  by_cases g4 : na ≤ 8
  rotate_left
  · obtain rfl : b = false := hno (by omega)
    have hck := Lib.hid (fun W (_ : Below w.heap.size w W) => rcheck_args c ra nr rc wa nw wc aa na ac ca nc cc W g1 g2 (by omega))
    clear hb hno h hlr hlw hla hlc
    generalize c.fuel = fuel at *
    go_enter Try.func7, Try.ntmps7
    go_wp2_with (go_at_call 20; go_must ((with_reducible refine (hck.out _ B0.out).mono ?_); rintro e w1 ⟨rfl, hb1⟩; have B1 := Lib.hid (bnext B0.out hb1); obtain ⟨c0, c1, c2, c3, c4, cf⟩ := (C0.out.below hb1).cmd; have cl := (C0.out.below hb1).lt; clear hb1))
    go_ret
    exact ⟨rfl, B1.out⟩
  have hC : CmIn w c ra nr rc wa nw wc aa na ac ca nc cc := ⟨h.lr, h.lw, h.la, h.lc, h.reads, h.writes, h.args, h.code, by omega, by omega, by omega, by omega⟩
  have hck := Lib.hid (fun W (hW : Below w.heap.size w W) => rcheck_any c ra nr rc wa nw wc aa na ac ca nc cc W (hC.below hW))
  by_cases hm : MayBe c
  · have hz : checkN c = 0 := (check_zero c).2 hm
    rw [hz] at hck
    have hck : Hid (∀ W, Below w.heap.size w W → Calls Try.prog 20 #[cmV ra nr rc wa nw wc aa na ac c.fuel ca nc cc] W fun e w' => e = .returned (.int .i64 0) ∧ Below W.heap.size W w') := hck
    have hs : b = true ↔ fitsT c ln := ⟨fun q => (hb.1 q).2.2, fun q => hb.2 ⟨g0, hm, q⟩⟩
    have hft := Lib.hid (fun W (hW : Below w.heap.size w W) => fits_any c ra nr rc wa nw wc aa na ac ca nc cc ln b W (hC.below hW) hs)
    clear hC hs
    clear hm hz
    clear hb hno h hlr hlw hla hlc
    generalize c.fuel = fuel at *
    go_enter Try.func7, Try.ntmps7
    go_wp2_with (first
      | (go_at_call 20; go_must ((with_reducible refine (hck.out _ B0.out).mono ?_); rintro e w1 ⟨rfl, hb1⟩; have B1 := Lib.hid (bnext B0.out hb1); obtain ⟨c0, c1, c2, c3, c4, cf⟩ := (C0.out.below hb1).cmd; have cl := (C0.out.below hb1).lt; clear hb1))
      | (go_at_call 21; go_must ((with_reducible refine (hft.out _ B1.out).mono ?_); rintro e w2 ⟨rfl, hb2⟩; have B2 := Lib.hid (bnext B1.out hb2); clear hb2)))
    go_ret
    exact ⟨rfl, B2.out⟩
  · have hz : checkN c ≠ 0 := fun q => hm ((check_zero c).1 q)
    obtain rfl : b = false := by
      cases b with
      | false => rfl
      | true => exact absurd (hb.1 rfl).2.1 hm
    have e5 : ((checkN c : Nat) : Int) ≠ 0 := by omega
    have e6 : (((checkN c : Nat) : Int) == 0) = false := by simpa using e5
    generalize ((checkN c : Nat) : Int) = z at *
    clear hC hm hz e5
    clear hb hno h hlr hlw hla hlc
    generalize c.fuel = fuel at *
    go_enter Try.func7, Try.ntmps7
    go_wp2_with (go_at_call 20; go_must ((with_reducible refine (hck.out _ B0.out).mono ?_); rintro e w1 ⟨rfl, hb1⟩; have B1 := Lib.hid (bnext B0.out hb1); obtain ⟨c0, c1, c2, c3, c4, cf⟩ := (C0.out.below hb1).cmd; have cl := (C0.out.below hb1).lt; clear hb1))
    go_ret
    exact ⟨rfl, B1.out⟩

end

set_option maxHeartbeats 1000000 in
/-- entries that read the same. -/
theorem rsameE_yes (l : List Ent) (h8 : Eight l) (A A' : Option Addr) (n c c' : Nat) (w : World) (h : Ents w A c l) (h' : Ents w A' c' l) (hn : l.length = n) (hz : n ≤ 1000000) :
    Calls Try.prog 12 #[.slice A n c, .slice A' n c'] w fun e w' => e = .returned (.bool true) ∧ Below w.heap.size w w' := by
  have hc := h.2.1
  have hc' := h'.2.1
  have H := Lib.hid h
  have H' := Lib.hid h'
  have H8 := Lib.hid h8
  have HN := Lib.hid hn
  rw [hn] at hc hc'
  clear h h' h8 hn
  go_enter Try.func12, Try.ntmps12
  go_wp2
  go_loopw [5] (fun cc wr => ∃ k : Nat, k ≤ n ∧ cc = .int .i64 k ∧ Hid (Below w.heap.size w wr)) (fun cc _ => n - (intOf cc).toNat)
  case atStart => exact ⟨0, Nat.zero_le _, rfl, Lib.hid (Below.refl _ _)⟩
  case round =>
    obtain ⟨k, hk, rfl, HB⟩ := hrel
    by_cases hlt : k < n
    · have d1 : (k : Int) < (n : Int) := by omega
      have d2 : (k : Int) < (c : Int) := by omega
      have d3 : (k : Int) < (c' : Int) := by omega
      obtain ⟨g, off, rfl, hg, hl⟩ := H.out.load H8.out (i := k) (by rw [HN.out]; exact hlt)
      obtain ⟨g', off', rfl, hg', hl'⟩ := H'.out.load H8.out (i := k) (by rw [HN.out]; exact hlt)
      have L : Hid (∀ w', (∃ n, w' = wr.drewN n) → (loadVar 45 ⟨g, off + k * 9, none⟩).run Try.prog w' = .ok (.agg (bkC (entI (l[k]?.getD entZ)))) w') := Lib.hid (by
        rintro _ ⟨q, rfl⟩
        exact (hl _ (bnext HB.out (drewN_below _ _))).1)
      have L' : Hid (∀ w', (∃ n, w' = wr.drewN n) → (loadVar 45 ⟨g', off' + k * 9, none⟩).run Try.prog w' = .ok (.agg (bkC (entI (l[k]?.getD entZ)))) w') := Lib.hid (by
        rintro _ ⟨q, rfl⟩
        exact (hl' _ (bnext HB.out (drewN_below _ _))).1)
      have NE : Hid (∀ W, (binOp .neq 45 (.agg (bkC (entI (l[k]?.getD entZ)))) (.agg (bkC (entI (l[k]?.getD entZ))))).run Try.prog W = .ok (.bool false) W) := Lib.hid (fun W => by rw [neq_ent W (H8.out.at k) (H8.out.at k), decide_eq_true rfl]; rfl)
      clear hl hl'
      generalize bkC (entI (l[k]?.getD entZ)) = cs at *
      go_wp2
      try simp only [List.append_eq, List.cons_append, List.nil_append]
      refine wp_region_quiet_lit (by kernel_rfl) (by kernel_rfl) ?_
      repeat (first
        | (go_big_quiet_want; (first | refine quiet_load_at _ g (off + k * 9) L.out _ rfl rfl ?_ | refine quiet_load_at _ g' (off' + k * 9) L'.out _ rfl rfl ?_ | refine quiet_neq_at _ false eqGuardEnt NE.out _ _ _ rfl rfl rfl ?_); go_simp; go_big_quiet_on)
        | go_big_quiet_step (fail))
      refine wpQuiet_nil ?_
      rintro _ ⟨nq, rfl⟩
      go_wp2
      go_roundw
      case rel => exact ⟨k + 1, by omega, by go_num, Lib.hid (bnext HB.out (drewN_below _ _))⟩
      case measure => simp [intOf]; omega
    · obtain rfl : k = n := by omega
      clear hlt
      go_wp2
      go_ret
      exact ⟨rfl, HB.out⟩

end Go.Proofs.Ytibmfhmeoohdeaa
