/-
  What foremanref14.grant, Ask, Give, Has and Same answer, in whatever memory, of lists of at most 10000 who wait. No conditions but those that stand there.
-/
import Derived.Test.YtpaocjpjlogkgaaGreatZQueC
import Derived.Test.YtpaocjpjlogkgaaGreatQQueE
import Derived.Deep.QuietTactic
import Derived.BigQuiet
namespace Go.Proofs.YtpaocjpjlogkgaaGreat
open Go.RowKit Go.Shelf
set_option maxRecDepth 100000

set_option maxHeartbeats 8000000 in
theorem rgive_any (l : List Wnt) (A : Option Addr) (n c : Nat) (s : Int) (w : World) (h : Wnts w A c l) (hN : l.length = n) (hz : n ≤ 10000) :
    Calls Tryz.prog 119 #[.slice A n c, .int .i64 s] w (WnPost (giveN l s) w) := by
  obtain ⟨i0, hi, hz0, hz1, hz2⟩ := infoWnt
  have H := Lib.hid h
  have HN := Lib.hid hN
  have hnc : n ≤ c := by have := h.2.1; omega
  have ON : Hid (OwnW w.heap.size w none 0 0 (goneW (l.take 0) s)) := Lib.hid ⟨rfl, by simp [goneW, wntsW], .inl ⟨rfl, rfl⟩⟩
  clear h hN
  go_enter Tryz.func119, Tryz.ntmps119
  go_wp2
  go_loopw [5, 6] (fun ou cc wr => ∃ (i m k : Nat) (A' : Option Addr), i ≤ n ∧ m ≤ i ∧ cc = .int .i64 i ∧ ou = .slice A' m k ∧ Hid (OwnW w.heap.size wr A' m k (goneW (l.take i) s)) ∧ Hid (Below w.heap.size w wr)) (fun _ cc _ => n - (intOf cc).toNat)
  case atStart => exact ⟨0, 0, 0, none, Nat.zero_le _, Nat.le_refl _, rfl, rfl, ON, Lib.hid (Below.refl _ _)⟩
  case round =>
    obtain ⟨i, m, k, A', hin, hmi, rfl, rfl, HO, HB⟩ := hrel
    have hzw := HB.out.size
    by_cases hlt : i < n
    · have d1 : (i : Int) < (n : Int) := by omega
      have d2 : (i : Int) < (c : Int) := by omega
      obtain ⟨x, hx⟩ := wnt_at (l := l) (i := i) (by rw [HN.out]; exact hlt)
      obtain ⟨bb, off, rfl, hbl, x0, x1, x2⟩ := Wnts.at (H.out.below HB.out) hx
      have ht : l.take (i + 1) = l.take i ++ [x] := by rw [List.take_add_one, hx]; rfl
      by_cases hs : x.seq = s
      · have e1 : (x.seq == s) = true := by simp [hs]
        have hg : goneW (l.take (i + 1)) s = goneW (l.take i) s := by
          unfold goneW
          rw [ht, List.filter_append]
          simp [hs]
        have HO2 : Hid (OwnW w.heap.size wr A' m k (goneW (l.take (i + 1)) s)) := Lib.hid (by rw [hg]; exact HO.out)
        clear hx ht hg hs
        go_wp2
        go_roundw
        case rel => exact ⟨i + 1, m, k, A', by omega, by omega, by go_num, rfl, HO2, HB⟩
        case measure => simp [intOf]; omega
      · have e1 : (x.seq == s) = false := beq_eq_false_iff_ne.2 hs
        have hg : goneW (l.take (i + 1)) s = goneW (l.take i) s ++ [x] := by
          unfold goneW
          rw [ht, List.filter_append]
          simp [hs]
        have BA := below_alloc1 wr (.cells (wnV x.seq x.excl x.has) 136)
        have O1 := Lib.hid (own_below HO.out.2 BA)
        have C1 := Lib.hid (HB.out.trans (BA.mono hzw))
        have V1 := Lib.hid (Bk.new wr 136 (wnV x.seq x.excl x.has))
        have Z1 := C1.out.size
        have HG := Lib.hid hg
        have HL1 := HO.out.1
        have HL := Lib.hid HL1
        clear hx ht hg hs BA HL1
        go_wp2_with (at_builtin; go_must (refine append_row rfl _ _ _ rfl w.heap.size 136 i0 _ 3 16 Tryz.underlying98 hi hz0 hz1 hz2 rfl (by decide) _ m _ rfl O1.out wr.heap.size (wnV x.seq x.excl x.has) rfl V1.out rfl rfl (by unfold maxLen; omega) (by omega) Z1 ?_; intro g2 k2 w2 hown hgr))
        have C2 := Lib.hid (C1.out.grown hgr Z1 (fun b hb => own_ge O1.out hb))
        have O2 : Hid (OwnW w.heap.size w2 (some ⟨g2, 0, none⟩) (m + 1) k2 (goneW (l.take (i + 1)) s)) := Lib.hid ⟨by rw [HG.out, List.length_append, HL.out]; rfl, by rw [HG.out, wntsW_append, wntsW_sing]; exact hown⟩
        clear hown hgr
        go_roundw
        case rel => exact ⟨i + 1, m + 1, k2, _, by omega, by omega, by go_num, by rfl, O2, C2⟩
        case measure => simp [intOf]; omega
    · obtain rfl : i = n := by omega
      have hO := HO.out
      rw [← HN.out, List.take_length] at hO
      have hgw := Lib.hid (grant_any (goneW l s) A' m k w.heap.size wr hO.sl hO.1 hzw (by omega))
      clear hlt hO
      go_wp2_with (go_at_call 104; go_must ((with_reducible refine hgw.out.mono ?_); rintro e w3 ⟨A3, k3, rfl, hO, hb3⟩; have O3 := Lib.hid hO; have C3 := Lib.hid (HB.out.trans hb3); clear hO hb3))
      go_ret
      refine ⟨_, _, _, rfl, ?_, C3.out⟩
      rw [← give_gone]
      exact O3.out


set_option maxHeartbeats 4000000 in
theorem rsameW_yes (l : List Wnt) (A : Option Addr) (c : Nat) (B : Option Addr) (d n : Nat) (w : World) (h1 : Wnts w A c l) (h2 : Wnts w B d l) (hN : l.length = n) (hz : n ≤ 100000) :
    Calls Tryz.prog 52 #[.slice A n c, .slice B n d] w fun e w' => e = .returned (.bool true) ∧ Below w.heap.size w w' := by
  have H1 := Lib.hid h1
  have H2 := Lib.hid h2
  have HN := Lib.hid hN
  have hnc : n ≤ c := by have := h1.2.1; omega
  have hnd : n ≤ d := by have := h2.2.1; omega
  clear h1 h2 hN
  go_enter Tryz.func52, Tryz.ntmps52
  go_wp2
  go_loopw [5] (fun cc wr => ∃ i k : Nat, i ≤ n ∧ cc = .int .i64 i ∧ wr = w.drewN k) (fun cc _ => n - (intOf cc).toNat)
  case atStart => exact ⟨0, 0, Nat.zero_le _, rfl, rfl⟩
  case round =>
    obtain ⟨i, k, hi, rfl, rfl⟩ := hrel
    by_cases hlt : i < n
    · obtain ⟨x, hx⟩ := wnt_at (l := l) (i := i) (by rw [HN.out]; exact hlt)
      obtain ⟨b, off, rfl, hbl, x0, x1, x2⟩ := Wnts.at H1.out hx
      obtain ⟨b2, off2, rfl, hbl2, y0, y1, y2⟩ := Wnts.at H2.out hx
      have d0 : (i : Int) < (n : Int) := by omega
      have d1 : (i : Int) < (c : Int) := by omega
      have d2 : (i : Int) < (d : Int) := by omega
      clear hx
      go_wp2
      go_quiet (fail)
      go_wp2
      go_roundw
      case rel => exact ⟨i + 1, _, by omega, by go_num, rfl⟩
      case measure => simp [intOf]; omega
    · go_wp2
      go_ret
      exact ⟨rfl, drewN_below _ _⟩

end Go.Proofs.YtpaocjpjlogkgaaGreat
