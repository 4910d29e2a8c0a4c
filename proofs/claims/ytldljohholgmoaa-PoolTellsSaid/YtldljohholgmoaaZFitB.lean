/-
  What foremanref08.Fits answers, in whatever memory. No conditions but those that stand there.
-/
import Derived.Test.YtldljohholgmoaaQWords
import Derived.Test.YtldljohholgmoaaZSlI
import Derived.Test.YtldljohholgmoaaQStr
namespace Go.Proofs.Ytldljohholgmoaa
open Go.RowKit

section
variable (c : Cmd) (ra : Option Addr) (nr rc : Nat) (wa : Option Addr) (nw wc : Nat) (aa : Option Addr) (na ac : Nat) (ca : Option Addr) (nc cc : Nat)

set_option maxHeartbeats 2000000 in
theorem fits_any (ln : Nat) (b : Bool) (w : World) (h : CmIn w c ra nr rc wa nw wc aa na ac ca nc cc) (hb : b = true ↔ fitsT c ln) :
    Calls Try.prog 29 #[cmV ra nr rc wa nw wc aa na ac c.fuel ca nc cc, .int .i64 (ln : Int)] w fun e w' => e = .returned (.bool b) ∧ Below w.heap.size w w' := by
  have hlr := h.lr
  have hlw := h.lw
  have hbr := h.br
  have hbw := h.bw
  have hrc : nr ≤ rc := by have := h.reads.2.1; rw [h.lr] at this; exact this
  have hwc : nw ≤ wc := by have := h.writes.2.1; rw [h.lw] at this; exact this
  have HR : Hid (Sl w 1 ra nr rc (c.reads.map (.int .i64))) := Lib.hid (by have := h.reads; unfold Ints at this; rwa [h.lr] at this)
  have HW : Hid (Sl w 1 wa nw wc (c.writes.map (.int .i64))) := Lib.hid (by have := h.writes; unfold Ints at this; rwa [h.lw] at this)
  have B0 := Lib.hid (below_alloc1 w (CmObj ra nr rc wa nw wc aa na ac c.fuel ca nc cc))
  have C0 : Hid (Bk (w.alloc (CmObj ra nr rc wa nw wc aa na ac c.fuel ca nc cc)) w.heap.size 33 #[.slice ra nr rc, .slice wa nw wc, .slice aa na ac, .int .i64 c.fuel, .slice ca nc cc]) := Lib.hid (Bk.new w _ _)
  have rno : Hid (∀ k, k < nr → (ln : Int) ≤ c.reads[k]?.getD 0 → b = false) := Lib.hid (fun k hk hg => by
    cases b with
    | false => rfl
    | true =>
      have := (hb.1 rfl).1 (c.reads[k]?.getD 0) (by rw [List.getElem?_eq_getElem (by omega)]; exact List.getElem_mem _)
      omega)
  have wno : Hid (∀ k, k < nw → (ln : Int) ≤ c.writes[k]?.getD 0 → b = false) := Lib.hid (fun k hk hg => by
    cases b with
    | false => rfl
    | true =>
      have := (hb.1 rfl).2 (c.writes[k]?.getD 0) (by rw [List.getElem?_eq_getElem (by omega)]; exact List.getElem_mem _)
      omega)
  have yes : Hid ((∀ j, j < nr → c.reads[j]?.getD 0 < (ln : Int)) → (∀ j, j < nw → c.writes[j]?.getD 0 < (ln : Int)) → b = true) := Lib.hid (fun p q => hb.2 ⟨fun x hx => by
      obtain ⟨i, hi, rfl⟩ := List.getElem_of_mem hx
      have := p i (by omega)
      rwa [List.getElem?_eq_getElem hi] at this, fun x hx => by
      obtain ⟨i, hi, rfl⟩ := List.getElem_of_mem hx
      have := q i (by omega)
      rwa [List.getElem?_eq_getElem hi] at this⟩)
  clear h hb hlr hlw
  generalize c.fuel = fuel at *
  generalize c.reads = rs at *
  generalize c.writes = ws at *
  go_enter Try.func29, Try.ntmps29
  go_wp2
  go_loopw [5] (fun ii wr => ∃ k : Nat, k ≤ nr ∧ ii = .int .i64 (k : Int) ∧ Hid (Below w.heap.size w wr) ∧ Hid (Bk wr w.heap.size 33 #[.slice ra nr rc, .slice wa nw wc, .slice aa na ac, .int .i64 fuel, .slice ca nc cc]) ∧ Hid (∀ j, j < k → rs[j]?.getD 0 < (ln : Int))) (fun ii _ => nr - (intOf ii).toNat)
  case atStart => exact ⟨0, Nat.zero_le _, rfl, B0, C0, Lib.hid (fun j hj => absurd hj (by omega))⟩
  case round =>
    clear B0 C0
    obtain ⟨k, hk, rfl, HB, HC, HP⟩ := hrel
    obtain ⟨f0, f1, f2, f3, f4, ff⟩ := HC.out.cmd
    have fl := HC.out.lt
    by_cases hlt : k < nr
    · obtain ⟨g, off, rfl, hg, hv⟩ := (HR.out.below HB.out).int hlt
      have d1 : (k : Int) < (nr : Int) := by omega
      have d2 : (k : Int) < (rc : Int) := by omega
      have hp := HP.out
      have hn := rno.out k hlt
      clear HP
      obtain ⟨v, hvv⟩ : ∃ v, v = rs[k]?.getD 0 := ⟨_, rfl⟩
      rw [← hvv] at hv hn
      have HV := Lib.hid hvv
      have HPP := Lib.hid hp
      clear hvv hp
      by_cases hge : (ln : Int) ≤ v
      · obtain rfl := hn hge
        clear hn
        go_wp2
        go_ret
        exact ⟨rfl, HB.out⟩
      · clear hn
        have hlt2 : v < (ln : Int) := by omega
        go_wp2
        go_roundw
        case rel => exact ⟨k + 1, by omega, by go_num, HB, HC, Lib.hid (fun j hj => by
          rcases Nat.lt_or_ge j k with q | q
          · exact HPP.out j q
          · obtain rfl : j = k := by omega
            rw [← HV.out]
            exact hlt2)⟩
        case measure => simp [intOf]; omega
    · obtain rfl : nr = k := by omega
      have RP := HP
      clear hlt HP rno HR
      go_wp2
      go_loopw [6] (fun ii wr => ∃ k : Nat, k ≤ nw ∧ ii = .int .i64 (k : Int) ∧ Hid (Below w.heap.size w wr) ∧ Hid (Bk wr w.heap.size 33 #[.slice ra nr rc, .slice wa nw wc, .slice aa na ac, .int .i64 fuel, .slice ca nc cc]) ∧ Hid (∀ j, j < k → ws[j]?.getD 0 < (ln : Int))) (fun ii _ => nw - (intOf ii).toNat)
      case atStart => exact ⟨0, Nat.zero_le _, rfl, HB, HC, Lib.hid (fun j hj => absurd hj (by omega))⟩
      case round =>
        clear HB HC f0 f1 f2 f3 f4 ff fl
        obtain ⟨k, hk2, rfl, HB, HC, HP⟩ := hrel
        obtain ⟨f0, f1, f2, f3, f4, ff⟩ := HC.out.cmd
        have fl := HC.out.lt
        by_cases hlt : k < nw
        · obtain ⟨g, off, rfl, hg, hv⟩ := (HW.out.below HB.out).int hlt
          have d1 : (k : Int) < (nw : Int) := by omega
          have d2 : (k : Int) < (wc : Int) := by omega
          have hp := HP.out
          have hn := wno.out k hlt
          clear HP
          obtain ⟨v, hvv⟩ : ∃ v, v = ws[k]?.getD 0 := ⟨_, rfl⟩
          rw [← hvv] at hv hn
          have HV := Lib.hid hvv
          have HPP := Lib.hid hp
          clear hvv hp
          by_cases hge : (ln : Int) ≤ v
          · obtain rfl := hn hge
            clear hn
            go_wp2
            go_ret
            exact ⟨rfl, HB.out⟩
          · clear hn
            have hlt2 : v < (ln : Int) := by omega
            go_wp2
            go_roundw
            case rel => exact ⟨k + 1, by omega, by go_num, HB, HC, Lib.hid (fun j hj => by
              rcases Nat.lt_or_ge j k with q | q
              · exact HPP.out j q
              · obtain rfl : j = k := by omega
                rw [← HV.out]
                exact hlt2)⟩
            case measure => simp [intOf]; omega
        · obtain rfl : k = nw := by omega
          obtain rfl := yes.out RP.out HP.out
          clear hlt
          go_wp2
          go_ret
          exact ⟨rfl, HB.out⟩

end
end Go.Proofs.Ytldljohholgmoaa
