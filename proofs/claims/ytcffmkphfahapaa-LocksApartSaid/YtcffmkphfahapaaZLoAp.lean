/-
  LocksApart, walked: true of any commands, in whatever memory.
-/
import Derived.Test.YtcffmkphfahapaaZLckV
namespace Go.Proofs.Ytcffmkphfahapaa
open Go.RowKit Go.Shelf
attribute [local go_sem] look findAt
attribute [local simp] depsOf isV Region.binds

section
variable (l : List CmL) (A : Option Addr) (n c : Nat)

/-- who is ready has each of its blocks. -/
theorem has_of_ready {u : Who} {n : Nat} {c : Cmd} {s : Int} (hr : readyL (lksW u n) c s = true) {j : Nat} (hj : (j : Int) ∈ blocksN c) : hasS (lkAt (lksW u n) j) s = true := by
  unfold readyL at hr
  rw [List.all_eq_true] at hr
  have := hr _ hj
  rwa [Int.toNat_natCast] at this
/-- no other one has a block that it writes. -/
theorem none_beside {l : List CmL} {n i k j : Nat} {x : CmL} (hx : l[i]? = some x) (hik : i ≠ k) (hm : MayBe x.c) (hf : fitsT x.c 6) (hj : (j : Int) ∈ x.c.writes) (hr : readyL (lksW (whoN l n) 6) x.c ((i : Int) + 1) = true) : hasS (lkAt (lksW (whoN l n) 6) j) ((k : Int) + 1) = false := by
  cases e : hasS (lkAt (lksW (whoN l n) 6) j) ((k : Int) + 1) with
  | false => rfl
  | true =>
    have hj6 : j < 6 := by have := hf.2 _ hj; omega
    have h1 := has_of_ready hr (List.mem_append_right _ hj)
    rw [lksW_at _ hj6] at h1 e
    exact (ready_apart hm.sets (fun y hy he => whoN_one hy hx he) (by omega) hj h1 e).elim

set_option maxHeartbeats 4000000 in
theorem locksApart_no (hz : n ≤ 9223372036854775807) (w : World) (h : Cmds w A c l) (hN : l.length = n) (hr : ¬ RightL l 6) :
    Calls Try.prog 5 #[.slice A n c] w fun e w' => e = .returned (.bool true) ∧ Below w.heap.size w w' := by
  have aw := Lib.hid (fun W => awake15 W)
  have hri := Lib.hid (right_no l A n c w h hN hz hr)
  clear h hN hr
  go_enter Try.func5, Try.ntmps5
  go_wp2_with (first
    | (go_at_call 8; go_must ((with_reducible refine hri.out.mono ?_); rintro e w1 ⟨rfl, hb1⟩; have B1 := Lib.hid hb1; clear hb1))
    | (go_at_call 9; go_must ((with_reducible refine (aw.out _).mono ?_); rintro e w2 ⟨rfl, hb2⟩; have B2 := Lib.hid (bnext B1.out hb2); clear hb2)))
  go_ret
  exact ⟨rfl, B2.out⟩

set_option maxHeartbeats 32000000 in
set_option maxRecDepth 100000 in
theorem locksApart_main (w : World) (h : Cmds w A c l) (hN : l.length = n) (hr : RightL l 6) :
    Calls Try.prog 5 #[.slice A n c] w fun e w' => e = .returned (.bool true) ∧ Below w.heap.size w w' := by
  have aw := Lib.hid (fun W => awake15 W)
  have hri := Lib.hid (right_yes l A n c w h hN hr)
  have hne : Hid (∀ W, Calls Try.prog 10 #[.int .i64 6] W (LkPost (lksW [] 6) 6 W)) := Lib.hid (fun W => new_who 6 W (by decide) (by decide))
  have H := Lib.hid h
  have HN := Lib.hid hN
  have HR := Lib.hid hr
  have hcap := h.cap
  rw [hN] at hcap
  have h30 := hr.2
  rw [hN] at h30
  clear h hN hr
  go_enter Try.func5, Try.ntmps5
  go_wp2_with (first
    | (go_at_call 8; go_must ((with_reducible refine hri.out.mono ?_); rintro e w1 ⟨rfl, hb1⟩; have B1 := Lib.hid hb1; clear hb1))
    | (go_at_call 10; go_must ((with_reducible refine (hne.out _).mono ?_); rintro e w2 ⟨X0, k0, rfl, hO, hb2⟩; have O0 := Lib.hid hO.sl; have B0 := Lib.hid (bnext B1.out hb2); clear hO hb2)))
  go_loopw [3, 4] (fun xs cc wr => ∃ (i k : Nat) (X : Option Addr), i ≤ n ∧ xs = .slice X 6 k ∧ cc = .int .i64 i ∧ Hid (LkSl wr X 6 k (lksW (whoN l i) 6)) ∧ Hid (Below w.heap.size w wr)) (fun _ cc _ => n - (intOf cc).toNat)
  case atStart => exact ⟨0, k0, X0, Nat.zero_le _, rfl, rfl, O0, B0⟩
  case round =>
    obtain ⟨i, k, X, hi, rfl, rfl, HO, HB⟩ := hrel
    by_cases hlt : i < n
    · have d1 : (i : Int) < (n : Int) := by omega
      have d2 : (i : Int) < (c : Int) := by omega
      have dw : IntKind.i64.wrap ((i : Int) + 1) = (i : Int) + 1 := by rw [IntKind.wrap_i64]; omega
      obtain ⟨x, hx⟩ := cml_at (l := l) (i := i) (by rw [HN.out]; exact hlt)
      have hmf := HR.out.at hx
      have hask := Lib.hid (ask_who x.c x.ra x.nr x.rc x.wa x.nw x.wc x.aa x.na x.ac x.c.fuel x.ca x.nc x.cc (whoN l i) X 6 k ((i : Int) + 1) wr HO.out (by decide) (by rw [whoN_length]; omega) hmf.1.sets (CmL.lkR (H.out.below HB.out) HR.out hx))
      rw [← whoN_succ hx] at hask
      obtain ⟨bb, off, rfl, hA⟩ := (H.out.below HB.out).lies hx
      obtain ⟨c0, c1, c2, c3, c4, cl⟩ := hA _ (Below.refl _ _)
      clear hx hA hmf
      go_wp2_with (go_at_call 12; go_must ((with_reducible refine hask.out.mono ?_); rintro e w3 ⟨X3, k3, rfl, hO3, hb3⟩; have O3 := Lib.hid hO3.sl; have B3 := Lib.hid (HB.out.trans (hb3.mono HB.out.size)); clear hO3 hb3 c0 c1 c2 c3 c4 cl))
      go_roundw
      case rel => exact ⟨i + 1, k3, X3, by omega, rfl, by go_num, O3, B3⟩
      case measure => simp [intOf]; omega
    · obtain rfl : n = i := by omega
      clear hlt
      have H4 := Lib.hid (H.out.below HB.out)
      go_wp2
      obtain ⟨w4, hw4⟩ : ∃ W, W = wr := ⟨_, rfl⟩
      rw [← hw4] at HO HB H4 ⊢
      clear hw4
      go_loopw [5] (fun cc wr => ∃ i : Nat, i ≤ n ∧ cc = .int .i64 i ∧ Hid (Below w4.heap.size w4 wr)) (fun cc _ => n - (intOf cc).toNat)
      case atStart => exact ⟨0, Nat.zero_le _, rfl, Lib.hid (Below.refl _ _)⟩
      case round =>
        obtain ⟨i, hi, rfl, HI⟩ := hrel
        by_cases hlt : i < n
        · have d1 : (i : Int) < (n : Int) := by omega
          have d2 : (i : Int) < (c : Int) := by omega
          have dw : IntKind.i64.wrap ((i : Int) + 1) = (i : Int) + 1 := by rw [IntKind.wrap_i64]; omega
          obtain ⟨x, hx⟩ := cml_at (l := l) (i := i) (by rw [HN.out]; exact hlt)
          obtain ⟨bb, off, rfl, hA⟩ := H4.out.lies hx
          have HA := Lib.hid hA
          have HX := Lib.hid hx
          have hr1 := Lib.hid (fun W (hW : Below w4.heap.size w4 W) => ready_who x.c x.ra x.nr x.rc x.wa x.nw x.wc x.aa x.na x.ac x.c.fuel x.ca x.nc x.cc (whoN l n) X 6 k ((i : Int) + 1) W (HO.out.below hW) (by rw [whoN_length]; omega) (CmL.lkR (H4.out.below hW) HR.out hx))
          obtain ⟨bi, hbi⟩ : ∃ b, b = readyL (lksW (whoN l n) 6) x.c ((i : Int) + 1) := ⟨_, rfl⟩
          rw [← hbi] at hr1
          have HBI := Lib.hid hbi
          clear hx hA hbi
          go_wp2
          go_loopw [6] (fun cc wr => ∃ t : Nat, t ≤ i ∧ cc = .int .i64 t ∧ Hid (Below w4.heap.size w4 wr)) (fun cc _ => i - (intOf cc).toNat)
          case atStart => exact ⟨0, Nat.zero_le _, rfl, HI⟩
          case round =>
            obtain ⟨t, ht, rfl, HT⟩ := hrel
            obtain ⟨c0, c1, c2, c3, c4, cl⟩ := HA.out _ HT.out
            by_cases hlt2 : t < i
            · have t1 : (t : Int) < (i : Int) := by omega
              have t2 : (t : Int) < (n : Int) := by omega
              have t3 : (t : Int) < (c : Int) := by omega
              have tw : IntKind.i64.wrap ((t : Int) + 1) = (t : Int) + 1 := by rw [IntKind.wrap_i64]; omega
              obtain ⟨x2, hx2⟩ := cml_at (l := l) (i := t) (by rw [HN.out]; omega)
              obtain ⟨bb2, off2, hAA, hA2⟩ := H4.out.lies hx2
              injection hAA with hAA
              injection hAA with hA3 hA4
              subst hA3
              subst hA4
              have HA2 := Lib.hid hA2
              have hr2 := Lib.hid (fun W (hW : Below w4.heap.size w4 W) => ready_who x2.c x2.ra x2.nr x2.rc x2.wa x2.nw x2.wc x2.aa x2.na x2.ac x2.c.fuel x2.ca x2.nc x2.cc (whoN l n) X 6 k ((t : Int) + 1) W (HO.out.below hW) (by rw [whoN_length]; omega) (CmL.lkR (H4.out.below hW) HR.out hx2))
              obtain ⟨bt, hbt⟩ : ∃ b, b = readyL (lksW (whoN l n) 6) x2.c ((t : Int) + 1) := ⟨_, rfl⟩
              rw [← hbt] at hr2
              clear hx2 hA2 hbt
              cases bi with
              | false =>
                go_wp2_with (go_at_call 15; go_must ((with_reducible refine (hr1.out _ HT.out).mono ?_); rintro e w5 ⟨rfl, hb5⟩; have B5 := Lib.hid (HT.out.trans (hb5.mono HT.out.size)); clear hb5 c0 c1 c2 c3 c4 cl))
                go_roundw
                case rel => exact ⟨t + 1, by omega, by go_num, B5⟩
                case measure => simp [intOf]; omega
              | true =>
                have m1 : True := trivial
                cases bt with
                | false =>
                  go_wp2_with (first
                    | (go_at_call 15; clear m1; go_must ((with_reducible refine (hr1.out _ HT.out).mono ?_); rintro e w5 ⟨rfl, hb5⟩; have B5 := Lib.hid (HT.out.trans (hb5.mono HT.out.size)); clear hb5 c0 c1 c2 c3 c4 cl; obtain ⟨c0, c1, c2, c3, c4, cl⟩ := HA2.out _ B5.out))
                    | (go_at_call 15; go_must ((with_reducible refine (hr2.out _ B5.out).mono ?_); rintro e w6 ⟨rfl, hb6⟩; have B6 := Lib.hid (B5.out.trans (hb6.mono B5.out.size)); clear hb6 c0 c1 c2 c3 c4 cl)))
                  go_roundw
                  case rel => exact ⟨t + 1, by omega, by go_num, B6⟩
                  case measure => simp [intOf]; omega
                | true =>
                  have hk2 := CmL.lkR H4.out HR.out HX.out
                  have hnw : x.nw ≤ x.wc := by have := hk2.writes.2.1; rw [hk2.lw] at this; exact this
                  have h8 := hk2.bw
                  have HK := Lib.hid hk2
                  clear hk2
                  go_wp2_with (first
                    | (go_at_call 15; clear m1; go_must ((with_reducible refine (hr1.out _ HT.out).mono ?_); rintro e w5 ⟨rfl, hb5⟩; have B5 := Lib.hid (HT.out.trans (hb5.mono HT.out.size)); clear hb5 c0 c1 c2 c3 c4 cl; obtain ⟨c0, c1, c2, c3, c4, cl⟩ := HA2.out _ B5.out))
                    | (go_at_call 15; go_must ((with_reducible refine (hr2.out _ B5.out).mono ?_); rintro e w6 ⟨rfl, hb6⟩; have B6 := Lib.hid (B5.out.trans (hb6.mono B5.out.size)); clear hb6 c0 c1 c2 c3 c4 cl)))
                  go_loopw [7] (fun cc wr => ∃ q : Nat, q ≤ x.nw ∧ cc = .int .i64 q ∧ Hid (Below w4.heap.size w4 wr)) (fun cc _ => x.nw - (intOf cc).toNat)
                  case atStart => exact ⟨0, Nat.zero_le _, rfl, B6⟩
                  case round =>
                    obtain ⟨q, hq, rfl, HQ⟩ := hrel
                    obtain ⟨c0, c1, c2, c3, c4, cl⟩ := HA.out _ HQ.out
                    by_cases hlt3 : q < x.nw
                    · have q1 : (q : Int) < (x.nw : Int) := by omega
                      have q2 : (q : Int) < (x.wc : Int) := by omega
                      obtain ⟨b3, o3, hwa, hbl3, y0⟩ := (HK.out.writes.below HQ.out).cellAt (j := q) (by rw [HK.out.lw]; exact hlt3)
                      obtain ⟨z, hz, hzm⟩ := int_at (l := x.c.writes) (i := q) (by rw [HK.out.lw]; exact hlt3)
                      obtain ⟨z1, z2⟩ := HK.out.inw z hzm
                      obtain ⟨j, rfl⟩ := Int.eq_ofNat_of_zero_le z1
                      rw [hz, Option.getD_some] at y0
                      have hj6 : j < 6 := by omega
                      have hS := HO.out.below HQ.out
                      have hcapX := hS.cap
                      obtain ⟨g4, o4, A4, m4, k4, hXX, hgl4, u0, hm4, hw4, -⟩ := hS.at hj6
                      have hl4 : (lkAt (lksW (whoN l n) 6) j).length = m4 := hm4
                      have hle := lksW_len (whoN l n) 6 j
                      rw [whoN_length] at hle
                      have hmf := HR.out.at HX.out
                      have hh1 := Lib.hid (fun W (hW : Below wr.heap.size wr W) => rhas_any (lkAt (lksW (whoN l n) 6) j) A4 m4 k4 ((i : Int) + 1) W (hw4.below hW) hm4 (by omega))
                      have hh2 := Lib.hid (fun W (hW : Below wr.heap.size wr W) => rhas_any (lkAt (lksW (whoN l n) 6) j) A4 m4 k4 ((t : Int) + 1) W (hw4.below hW) hm4 (by omega))
                      rw [has_of_ready HBI.out.symm (List.mem_append_right _ hzm)] at hh1
                      rw [none_beside HX.out (show i ≠ t by omega) hmf.1 hmf.2 hzm HBI.out.symm] at hh2
                      have e1 : (j : Int) < 6 := by omega
                      have e2 : (j : Int) < (k : Int) := by omega
                      have m2 : True := trivial
                      clear hz hzm hS hm4 hw4 hl4 hle hmf z1 z2
                      have hXX' : X = some ⟨g4, o4, none⟩ := hXX
                      clear hXX
                      subst hXX'
                      go_wp2_with (first
                        | (go_at_call 19; clear m2; go_must ((with_reducible refine (hh1.out _ (Below.refl _ _)).mono ?_); rintro e w7 ⟨rfl, hb7⟩; have B7 := Lib.hid hb7; clear hb7))
                        | (go_at_call 19; go_must ((with_reducible refine (hh2.out _ B7.out).mono ?_); rintro e w8 ⟨rfl, hb8⟩; have B8 := Lib.hid (HQ.out.trans ((bnext B7.out hb8).mono HQ.out.size)); clear hb8 c0 c1 c2 c3 c4 cl)))
                      rw [← hwa]
                      clear hwa
                      go_roundw
                      case rel => exact ⟨q + 1, by omega, by go_num, B8⟩
                      case measure => simp [intOf]; omega
                    · obtain rfl : q = x.nw := by omega
                      clear hlt3
                      go_wp2
                      go_roundw
                      case rel => exact ⟨t + 1, by omega, by go_num, HQ⟩
                      case measure => simp [intOf]; omega
            · obtain rfl : i = t := by omega
              clear hlt2 c0 c1 c2 c3 c4 cl
              go_wp2
              go_roundw
              case rel => exact ⟨i + 1, by omega, by go_num, HT⟩
              case measure => simp [intOf]; omega
        · obtain rfl : n = i := by omega
          clear hlt
          go_wp2_with (go_at_call 9; go_must ((with_reducible refine (aw.out _).mono ?_); rintro e w9 ⟨rfl, hb9⟩; have B9 := Lib.hid (HB.out.trans ((bnext HI.out hb9).mono HB.out.size)); clear hb9))
          go_ret
          exact ⟨rfl, B9.out⟩

theorem locksApart_walk (hz : n ≤ 9223372036854775807) (w : World) (h : Cmds w A c l) (hN : l.length = n) :
    Calls Try.prog 5 #[.slice A n c] w fun e w' => e = .returned (.bool true) ∧ Below w.heap.size w w' := by
  by_cases hr : RightL l 6
  · exact locksApart_main l A n c w h hN hr
  · exact locksApart_no l A n c hz w h hN hr

end
end Go.Proofs.Ytcffmkphfahapaa
