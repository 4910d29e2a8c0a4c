/-
  What the reference's Flush answers: of a device in memory that is as the calls make it, with at most 100000 loose writes, what sector's answers.
-/
import Derived.Test.YthcfncpkeldapaaRefD
import Derived.StillTailTactics
namespace Go.Proofs.Ythcfncpkeldapaa
open Go.RowKit

set_option maxHeartbeats 1000000 in
theorem rflush_no (A B : Option Addr) (n c m d : Nat) (dn : Bool) (lf : Int) (w : World) (h : dn = true ∨ lf = 0) :
    Calls Try.prog 18 #[.agg #[.slice A n c, .slice B m d, .bool dn, .int .i64 lf]] w
      fun e w' => e = .returned (.tuple #[.agg #[.slice A n c, .slice B m d, .bool true, .int .i64 lf], .int .i64 17]) ∧ Below w.heap.size w w' := by
  have H := Lib.hid h
  clear h
  go_enter Try.func18, Try.ntmps18
  go_wp2_with (first
    | (go_at_call 33; go_must (refine (rdeed_no _ _ _ _ _ _ _ _ _ H.out).mono ?_; rintro e w1 ⟨rfl, hb1⟩; have k0 := ((Bk.new w _ _).alloc _).below hb1; have k1 := (Bk.new _ _ _).below hb1; simp only [World.size_alloc] at k1; obtain ⟨c10, c11, c12, c13, f10⟩ := k0.four; obtain ⟨c14, c15, c16, c17, f11⟩ := k1.four))
    | fail)
  refine bodyPost_ret (v := .tuple #[.agg #[.slice A n c, .slice B m d, .bool true, .int .i64 lf], .int .i64 17]) (by simp [results, Try.results18, go_sem, c14, c15, c16, c17]) rfl ⟨rfl, ?_⟩
  have b5 := put_b1 (x0 := .slice A n c) (x1 := .slice B m d) (x2 := .bool true) (x3 := .int .i64 lf) hb1 (Below.refl _ _) (Below.refl _ _)
  exact (((b5.setCell (p := ⟨w.heap.size + 1, 0, none⟩) (Nat.le_succ _) _).setCell (p := ⟨w.heap.size + 1, 1, none⟩) (Nat.le_succ _) _).setCell (p := ⟨w.heap.size + 1, 2, none⟩) (Nat.le_succ _) _).setCell (p := ⟨w.heap.size + 1, 3, none⟩) (Nat.le_succ _) _

set_option maxRecDepth 100000 in
set_option maxHeartbeats 2000000 in
theorem rflush_yes (A B : Option Addr) (n m c d : Nat) (lf : Int) (sec : List ByteArray) (loose : List (Int × ByteArray)) (w : World) (hn1 : sec.length = n) (hm1 : loose.length = m) (hm : m ≤ 100000) (hn : n ≤ 4096)
    (hlo : ∀ x ∈ loose, 0 ≤ x.1 ∧ x.1 < n) (hl : lf ≠ 0) (hu : lf ≤ 9223372036854775807)
    (hA : Sl w 1 A n c (sec.map Value.string)) (hB : Sl w 2 B m d (wrow loose)) :
    Calls Try.prog 18 #[.agg #[.slice A n c, .slice B m d, .bool false, .int .i64 lf]] w
      fun e w' => ∃ A' c', e = .returned (.tuple #[.agg #[.slice A' n c', .slice none 0 0, .bool false, .int .i64 (leftD lf)], .int .i64 0]) ∧
        (Sl w' 1 A' n c' ((applyW sec loose).map Value.string) ∧ Ty w' 9 A' n) ∧ Below w.heap.size w w' := by
  obtain ⟨i0, hi, hz0, hz1, hz2⟩ := info_parts Try.infoS
  have HL := Lib.hid hl
  have HA := Lib.hid hA
  have HB := Lib.hid hB
  have HLO := Lib.hid hlo
  have HN := Lib.hid hn1
  have HM := Lib.hid hm1
  clear hl hA hB hlo hn1 hm1
  go_enter Try.func18, Try.ntmps18
  go_wp2_with (first
    | (go_at_call 33; go_must (refine (rdeed_yes _ _ _ _ _ _ _ _ HL.out hu).mono ?_; rintro e w1 ⟨rfl, hb1⟩; have k0 := ((Bk.new w _ _).alloc _).below hb1; have k1 := (Bk.new _ _ _).below hb1; simp only [World.size_alloc] at k1; obtain ⟨c10, c11, c12, c13, f10⟩ := k0.four; obtain ⟨c14, c15, c16, c17, f11⟩ := k1.four; have l0 := k0.lt; have l1 := k1.lt))
    | (at_builtin; go_must (have k2 : Bk ((((w1.setCell ⟨w.heap.size, 0, none⟩ (.slice A n c)).setCell ⟨w.heap.size, 1, none⟩ (.slice B m d)).setCell ⟨w.heap.size, 2, none⟩ (.bool false)).setCell ⟨w.heap.size, 3, none⟩ (.int .i64 (leftD lf))) w.heap.size 28 #[.slice A n c, .slice B m d, .bool false, .int .i64 (leftD lf)] := (((k0.set 0 _).set 1 _).set 2 _).set 3 _; have k3 : Bk ((((w1.setCell ⟨w.heap.size, 0, none⟩ (.slice A n c)).setCell ⟨w.heap.size, 1, none⟩ (.slice B m d)).setCell ⟨w.heap.size, 2, none⟩ (.bool false)).setCell ⟨w.heap.size, 3, none⟩ (.int .i64 (leftD lf))) (w.heap.size + 1) 28 #[.slice none 0 0, .slice none 0 0, .bool false, .int .i64 0] := (((k1.far (by simp) _).far (by simp) _).far (by simp) _).far (by simp) _; have hbw : Below w.heap.size w ((((w1.setCell ⟨w.heap.size, 0, none⟩ (.slice A n c)).setCell ⟨w.heap.size, 1, none⟩ (.slice B m d)).setCell ⟨w.heap.size, 2, none⟩ (.bool false)).setCell ⟨w.heap.size, 3, none⟩ (.int .i64 (leftD lf))) := put_b1 hb1 (Below.refl _ _) (Below.refl _ _); have hsz : ((((w1.setCell ⟨w.heap.size, 0, none⟩ (.slice A n c)).setCell ⟨w.heap.size, 1, none⟩ (.slice B m d)).setCell ⟨w.heap.size, 2, none⟩ (.bool false)).setCell ⟨w.heap.size, 3, none⟩ (.int .i64 (leftD lf))).heap.size = w1.heap.size := (by simp); clear c10 c11 c12 c13 c14 c15 c16 c17 f10 f11 k0 k1 hb1; generalize ((((w1.setCell ⟨w.heap.size, 0, none⟩ (.slice A n c)).setCell ⟨w.heap.size, 1, none⟩ (.slice B m d)).setCell ⟨w.heap.size, 2, none⟩ (.bool false)).setCell ⟨w.heap.size, 3, none⟩ (.int .i64 (leftD lf))) = W at *; have ho := World.ownsRow_lit W (e := 9) (size := 1) #[] 0 (Nat.le_refl _) (by decide) rfl; rw [hsz] at ho; have hlw := Nat.le_of_eq hsz; have hA1 := (HA.out.below hbw).alloc (.cells #[] 9); refine append_sl rfl (.tmp 15) (.tmp 17) _ rfl w1.heap.size 9 i0 _ 1 16 Try.underlying25 hi hz0 hz1 hz2 rfl (by decide) _ 0 [] rfl ho A n c (sec.map Value.string) rfl hA1 (str_one _) (by unfold maxLen; omega) (by omega) (by rw [World.size_alloc]; omega) ?_; intro v2 w2 hown0 hg2; obtain ⟨A', c', rfl, hsl⟩ := Sl.own hown0; clear hsl; simp only [Nat.zero_add, List.nil_append] at hown0; have hb2 : Below w1.heap.size W w2 := ((Below.refl _ _).alloc (by omega) _).grown hg2 (by rw [World.size_alloc]; omega) (fun g hg => Nat.le_of_eq (Option.some.inj hg)); rw [← hsz] at hb2; replace k2 := k2.below hb2; replace k3 := k3.below hb2; replace hbw := bnext hbw hb2; clear hsz hlw ho hA1 hg2 hb2))
    | fail)
  obtain ⟨β, hβ, hown⟩ : ∃ β, w.heap.size + 2 ≤ β ∧ w2.ownsRow β 9 1 (.slice A' n c') n (sec.map Value.string) := ⟨_, by omega, hown0⟩
  clear hown0
  go_loopw [6] (fun i wr => ∃ k : Nat, k ≤ m ∧ i = .int .i64 k ∧ wr.ownsRow β 9 1 (.slice A' n c') n ((applyW sec (loose.take k)).map Value.string) ∧
      Bk wr w.heap.size 28 #[.slice A n c, .slice B m d, .bool false, .int .i64 (leftD lf)] ∧ Bk wr (w.heap.size + 1) 28 #[.slice none 0 0, .slice none 0 0, .bool false, .int .i64 0] ∧ Below w.heap.size w wr)
    (fun i _ => m - (intOf i).toNat)
  case atStart => exact ⟨0, Nat.zero_le _, rfl, by simpa [applyW] using hown, k2, k3, hbw⟩
  case round =>
    clear hown k2 k3 hbw
    obtain ⟨k, hk, rfl, hown, k0, k1, hbw⟩ := hrel
    by_cases hlt : k < m
    · have hkl : k < loose.length := by rw [HM.out]; exact hlt
      obtain ⟨hx0, hx1⟩ := HLO.out _ (List.getElem_mem hkl)
      obtain ⟨a, ha⟩ := Int.eq_ofNat_of_zero_le hx0
      obtain ⟨b, off, rfl, hbl, hcell⟩ := HB.out.2.2.2 (by omega)
      have han : a < n := by omega
      obtain ⟨g, rfl, hg⟩ := own_some hown (by omega)
      have hy0 : wr.cell? ⟨b, off + k * 2, none⟩ = some (.int .i64 (a : Int)) := by
        rw [hbw.cell (p := ⟨b, off + k * 2, none⟩) hbl, hcell _ (by omega), wrow_at0 _ _ hkl, ha]
      obtain ⟨dt, hdt⟩ : ∃ dt, (loose[k]).2 = dt := ⟨_, rfl⟩
      have hy1 : wr.cell? ⟨b, off + k * 2 + 1, none⟩ = some (.string dt) := by
        rw [hbw.cell (p := ⟨b, off + k * 2 + 1, none⟩) hbl, Nat.add_assoc, hcell _ (by omega), wrow_at1 _ _ hkl, hdt]
      have hstep := Lib.hid (applyW_step sec loose k hkl)
      have HAA := Lib.hid ha
      have HDT := Lib.hid hdt
      have hcc := hown.cellAt a (by omega)
      rw [List.getElem?_eq_getElem (by simp [applyW_length]; rw [HN.out]; omega)] at hcc
      have hff := hown.frozenAt a
      obtain ⟨c10, c11, c12, c13, f10⟩ := k0.four
      have l2 := k0.lt
      have hst := (hown.stored a (.string dt)).1
      have hs2 := hstep.out
      rw [HAA.out, HDT.out, Int.toNat_natCast] at hs2
      rw [hs2] at hst
      have HST := Lib.hid hst
      clear hx0 hx1 ha hdt hcell hst hs2
      have hia : (0 : Int) ≤ (a : Int) := by omega
      have hib : (a : Int) < (n : Int) := by omega
      have hka : (0 : Int) ≤ (k : Int) := by omega
      have hkb : (k : Int) < (m : Int) := by omega
      go_wp2
      go_still_tail 14, (by kernel_rfl)
      change wpList _ _ _ _ _ wr.drew
      go_wp2
      go_roundw
      case rel => exact ⟨k + 1, by omega, by go_num, own_heap HST.out rfl, (k0.far (by simp; omega) _).heap rfl, (k1.far (by simp; omega) _).heap rfl, below_heap (hbw.setCell (p := ⟨g, a, none⟩) (by simp; omega) (.string dt)) rfl rfl rfl rfl⟩
      case measure => simp [intOf]; omega
    · obtain rfl : k = m := by omega
      obtain ⟨c10, c11, c12, c13, f10⟩ := k0.four
      obtain ⟨c14, c15, c16, c17, f11⟩ := k1.four
      have HBW := Lib.hid hbw
      have HOW := Lib.hid hown
      clear hbw hown hk hlt
      go_wp2
      refine bodyPost_ret (v := .tuple #[.agg #[.slice A' n c', .slice none 0 0, .bool false, .int .i64 (leftD lf)], .int .i64 0]) (by simp [results, Try.results18, go_sem, c14, c15, c16, c17]) rfl ⟨A', c', rfl, ?_, ?_⟩
      · have q := HOW.out
        rw [← HM.out, List.take_length] at q
        have g0 := ownsRow_setCell_below q (a := ⟨w.heap.size, 0, none⟩) (by simp; omega) (.slice A' n c')
        have g1 := ownsRow_setCell_below g0 (a := ⟨w.heap.size, 1, none⟩) (by simp; omega) (.slice none 0 0)
        have g2 := ownsRow_setCell_below g1 (a := ⟨w.heap.size + 1, 0, none⟩) (by simp; omega) (.slice A' n c')
        have g3 := ownsRow_setCell_below g2 (a := ⟨w.heap.size + 1, 1, none⟩) (by simp; omega) (.slice none 0 0)
        have g4 := ownsRow_setCell_below g3 (a := ⟨w.heap.size + 1, 2, none⟩) (by simp; omega) (.bool false)
        have g5 := ownsRow_setCell_below g4 (a := ⟨w.heap.size + 1, 3, none⟩) (by simp; omega) (.int .i64 (leftD lf))
        exact ⟨Sl.own' g5, Ty.own g5⟩
      · have b5 := (HBW.out.setCell (p := ⟨w.heap.size, 0, none⟩) (Nat.le_refl _) (.slice A' n c')).setCell (p := ⟨w.heap.size, 1, none⟩) (Nat.le_refl _) (.slice none 0 0)
        exact (((b5.setCell (p := ⟨w.heap.size + 1, 0, none⟩) (Nat.le_succ _) _).setCell (p := ⟨w.heap.size + 1, 1, none⟩) (Nat.le_succ _) _).setCell (p := ⟨w.heap.size + 1, 2, none⟩) (Nat.le_succ _) _).setCell (p := ⟨w.heap.size + 1, 3, none⟩) (Nat.le_succ _) _

theorem rflush_any (v : Value) (D : Dk) (w : World) (hv : IsDk w v D) (hD : D.ok) (hm : D.loose.length ≤ 100000) :
    Calls Try.prog 18 #[v] w
      fun e w' => ∃ v', e = .returned (.tuple #[v', .int .i64 (flushD D).2]) ∧ IsDk w' v' (flushD D).1 ∧ Below w.heap.size w w' := by
  obtain ⟨A, c, B, d, rfl, hA, hB, tA, tB⟩ := hv
  by_cases h3 : D.down = true ∨ D.left = 0
  · rw [show flushD D = ({ D with down := true }, 17) by rw [flushD, if_pos h3]]
    exact (rflush_no A B _ c _ d D.down D.left w h3).mono fun e w' ⟨he, hb⟩ => ⟨_, he, ⟨A, c, B, d, rfl, hA.below hb, hB.below hb, tA.below hb, tB.below hb⟩, hb⟩
  · rw [show flushD D = ({ D with sec := applyW D.sec D.loose, loose := [], left := leftD D.left }, 0) by rw [flushD, if_neg h3]]
    have hdn : D.down = false := by cases h : D.down <;> simp_all
    rw [hdn]
    refine (rflush_yes A B _ _ c d D.left D.sec D.loose w rfl rfl hm hD.few (fun x hx => ⟨(hD.loose x hx).1, (hD.loose x hx).2.1⟩) (by simp_all) hD.left1 hA hB).mono fun e w' ⟨A', c', he, hs, hb⟩ =>
      ⟨_, he, ⟨A', c', none, 0, by simp [applyW_length], by simpa [applyW_length] using hs.1, Sl.nil _ _, by simpa [applyW_length] using hs.2, Ty.zero⟩, hb⟩

end Go.Proofs.Ythcfncpkeldapaa
