/-
  What played answers: the device behind the deeds, for at most 60 deeds whose lists have at most 1000000 elements.
-/
import Derived.Test.YthcfncpkeldapaaActs
import Derived.StillTailTactics
import Derived.Deep.RegionLaw
import Derived.Deep.DrawnRows
namespace Go.Proofs.Ythcfncpkeldapaa
open Go.RowKit

/-- A device behind one deed. -/
def doAct (D : Dk) (x : ActD) : Dk :=
  if x.kind = 0 then (putD D x.at_ x.data).1
  else if x.kind = 1 then (flushD D).1
  else if x.kind = 2 then armD D x.at_
  else if x.kind = 3 then startD D x.stay x.torn x.bytes
  else D

def playD (D : Dk) (l : List ActD) : Dk := l.foldl doAct D

theorem doAct_ok (D : Dk) (x : ActD) (hD : D.ok) (hx : x.at_ ≤ 9223372036854775807) : (doAct D x).ok := by
  unfold doAct
  split
  · exact putD_ok D _ _ hD
  · split
    · exact flushD_ok D hD
    · split
      · exact armD_ok D _ hD hx
      · split
        · exact startD_ok D _ _ _ hD
        · exact hD

theorem doAct_len (D : Dk) (x : ActD) : (doAct D x).loose.length ≤ D.loose.length + 1 := by
  unfold doAct
  split
  · exact putD_len D _ _
  · split
    · exact Nat.le_trans (flushD_len D) (by omega)
    · split
      · simp [armD]
      · split
        · simp [startD]
        · omega

theorem doAct_sec (D : Dk) (x : ActD) : (doAct D x).sec.length = D.sec.length := by
  unfold doAct
  split
  · rw [putD_sec]
  · split
    · exact flushD_sec D
    · split
      · rfl
      · split
        · simp [startD, startTo_length]
        · rfl

theorem playD_snoc (D : Dk) (l : List ActD) (k : Nat) (h : k < l.length) : playD D (l.take (k + 1)) = doAct (playD D (l.take k)) l[k] := by
  unfold playD
  rw [List.take_succ_eq_append_getElem h, List.foldl_append]
  rfl

theorem playD_ok (D : Dk) (l : List ActD) (hD : D.ok) (hl : ∀ x ∈ l, x.at_ ≤ 9223372036854775807) : (playD D l).ok := by
  unfold playD
  induction l generalizing D with
  | nil => exact hD
  | cons x l ih => exact ih (doAct D x) (doAct_ok D x hD (hl x (by simp))) (fun y hy => hl y (by simp [hy]))

theorem playD_len (D : Dk) (l : List ActD) : (playD D l).loose.length ≤ D.loose.length + l.length := by
  unfold playD
  induction l generalizing D with
  | nil => simp
  | cons x l ih =>
    have := ih (doAct D x)
    have := doAct_len D x
    simp only [List.foldl_cons, List.length_cons]
    omega

theorem playD_sec (D : Dk) (l : List ActD) : (playD D l).sec.length = D.sec.length := by
  unfold playD
  induction l generalizing D with
  | nil => rfl
  | cons x l ih => rw [List.foldl_cons, ih (doAct D x), doAct_sec]

/-- The device's variable, in block g, and what it holds. -/
def DVar (w : World) (g : Nat) (D : Dk) : Prop := ∃ v0 v1 v2 v3, Bk w g 28 #[v0, v1, v2, v3] ∧ IsDk w (.agg #[v0, v1, v2, v3]) D

theorem IsDk.cells {w : World} {v : Value} {D : Dk} (h : IsDk w v D) : ∃ A c B d, v = .agg #[.slice A D.sec.length c, .slice B D.loose.length d, .bool D.down, .int .i64 D.left] := by
  obtain ⟨A, c, B, d, e, _⟩ := h
  exact ⟨A, c, B, d, e⟩

theorem fin4 {w : World} {g : Nat} {x0 x1 x2 x3 : Value} {D : Dk} {A B : Option Addr} {c d : Nat} (v2 : IsDk w (.agg #[.slice A D.sec.length c, .slice B D.loose.length d, .bool D.down, .int .i64 D.left]) D) (k2 : Bk w g 28 #[x0, x1, x2, x3]) :
    ∃ A' c' B' d', Bk ((((w.setCell ⟨g, 0, none⟩ (.slice A D.sec.length c)).setCell ⟨g, 1, none⟩ (.slice B D.loose.length d)).setCell ⟨g, 2, none⟩ (.bool D.down)).setCell ⟨g, 3, none⟩ (.int .i64 D.left)) g 28 #[.slice A' D.sec.length c', .slice B' D.loose.length d', .bool D.down, .int .i64 D.left] ∧
      IsDk ((((w.setCell ⟨g, 0, none⟩ (.slice A D.sec.length c)).setCell ⟨g, 1, none⟩ (.slice B D.loose.length d)).setCell ⟨g, 2, none⟩ (.bool D.down)).setCell ⟨g, 3, none⟩ (.int .i64 D.left)) (.agg #[.slice A' D.sec.length c', .slice B' D.loose.length d', .bool D.down, .int .i64 D.left]) D :=
  ⟨A, c, B, d, k2.store4 _ _ _ _, v2.store4 k2 _ _ _ _⟩

theorem far4 {w : World} {g h : Nat} {t : TypeId} {cs : Array Value} (hk : Bk w h t cs) (hne : h ≠ g) {x0 x1 x2 x3 : Value} :
    Bk ((((w.setCell ⟨g, 0, none⟩ x0).setCell ⟨g, 1, none⟩ x1).setCell ⟨g, 2, none⟩ x2).setCell ⟨g, 3, none⟩ x3) h t cs :=
  (((hk.far (p := ⟨g, 0, none⟩) hne _).far (p := ⟨g, 1, none⟩) hne _).far (p := ⟨g, 2, none⟩) hne _).far (p := ⟨g, 3, none⟩) hne _

attribute [local go_sem ↓] Go.wp_at_zero Go.wp_at_succ

set_option maxRecDepth 100000 in
set_option maxHeartbeats 4000000 in
theorem played_any (n : Nat) (A : Option Addr) (m c : Nat) (l : List ActD) (w : World) (hn : n ≤ 4096) (h : IsActs w A m l) (hm : m ≤ 60) (hst : ∀ x ∈ l, x.stay.length ≤ 1000000) :
    Calls Try.prog 27 #[.int .i64 (n : Int), .slice A m c] w fun e w' => ∃ v, e = .returned v ∧ IsDk w' v (playD (newD n) l) ∧ Below w.heap.size w w' := by
  have H := Lib.hid h
  have HST := Lib.hid hst
  clear h hst
  go_enter Try.func27, Try.ntmps27
  go_wp2_with fail
  refine (new_yes n _ hn).mono ?_
  rintro e w1 ⟨v, rfl, v1, b1⟩
  obtain ⟨A1, c1, B1, d1, rfl⟩ := v1.cells
  have k0 := (Bk.new w _ _).below b1
  have t1 := bnext ((Below.refl w.heap.size w).alloc (Nat.le_refl _) _) b1
  have k1 := Bk.new w1 28 #[.slice A1 (newD n).sec.length c1, .slice B1 (newD n).loose.length d1, .bool (newD n).down, .int .i64 (newD n).left]
  have hbA : Below w1.heap.size w1 (w1.alloc (.cells #[.slice A1 (newD n).sec.length c1, .slice B1 (newD n).loose.length d1, .bool (newD n).down, .int .i64 (newD n).left] 28)) := (Below.refl _ _).alloc (Nat.le_refl _) _
  have hge : w.heap.size + 1 ≤ w1.heap.size := by have := k0.lt; omega
  go_wp2_with fail
  go_loopw [7] (fun i wr => ∃ k : Nat, k ≤ m ∧ i = .int .i64 k ∧ (∃ A' c' B' d', Bk wr w1.heap.size 28 #[.slice A' (playD (newD n) (l.take k)).sec.length c', .slice B' (playD (newD n) (l.take k)).loose.length d', .bool (playD (newD n) (l.take k)).down, .int .i64 (playD (newD n) (l.take k)).left] ∧
      IsDk wr (.agg #[.slice A' (playD (newD n) (l.take k)).sec.length c', .slice B' (playD (newD n) (l.take k)).loose.length d', .bool (playD (newD n) (l.take k)).down, .int .i64 (playD (newD n) (l.take k)).left]) (playD (newD n) (l.take k))) ∧
      Bk wr w.heap.size 28 #[.slice none 0 0, .slice none 0 0, .bool false, .int .i64 0] ∧ Below w.heap.size w wr)
    (fun i _ => m - (intOf i).toNat)
  case atStart => exact ⟨0, Nat.zero_le _, rfl, ⟨A1, c1, B1, d1, k1, v1.below hbA⟩, k0.below hbA, bnext t1 hbA⟩
  case round =>
    clear k0 k1 v1 t1 hbA b1
    obtain ⟨k, hk, rfl, ⟨A', c', B', d', k1, v1⟩, k0, t1⟩ := hrel
    by_cases hlt : k < m
    · have hkl : k < l.length := by rw [H.out.1]; exact hlt
      obtain ⟨b, off, rfl, hbl, hcell⟩ := H.out.2.2 (by omega)
      obtain ⟨S, qc, y0, y1, y2, y3, y4, y5, y6, za, z1, z2⟩ := (hcell k hkl).below t1 hbl
      have hst := HST.out _ (List.getElem_mem hkl)
      have hok := playD_ok (newD n) (l.take k) (newD_ok n hn) (fun x hx => by
        obtain ⟨j, hj, rfl⟩ := List.getElem_of_mem (List.mem_of_mem_take hx)
        obtain ⟨_, _, _, _, _, _, _, _, _, z, _⟩ := hcell j hj
        exact z)
      have hln : (playD (newD n) (l.take k)).loose.length ≤ 60 := by
        have h1 := playD_len (newD n) (l.take k)
        have h2 : (newD n).loose.length = 0 := rfl
        have h3 : (l.take k).length ≤ k := List.length_take_le _ _
        omega
      have hnext := Lib.hid (playD_snoc (newD n) l k hkl)
      obtain ⟨x, hx⟩ : ∃ x, l[k] = x := ⟨_, rfl⟩
      rw [hx] at y0 y1 y2 y3 y4 y5 y6 za z1 z2 hst
      have HX := Lib.hid hx
      obtain ⟨D, hD⟩ : ∃ D, playD (newD n) (l.take k) = D := ⟨_, rfl⟩
      rw [hD] at hok hln k1 v1
      have HD := Lib.hid hD
      have HOK := Lib.hid hok
      have hbS : b < wr.heap.size := Nat.lt_of_lt_of_le hbl t1.size
      obtain ⟨q0, q1, q2, q3, f1⟩ := k1.four
      have l1 := k1.lt
      clear hx hcell hD hok
      obtain ⟨xk, xa, xd, xs, xt, xb⟩ := x
      simp only at y0 y1 y2 y3 y4 y5 y6 za z1 z2 hst
      by_cases h0 : xk = 0
      · have e0 : (xk == 0) = true := by simp [h0]
        have H0 := Lib.hid h0
        clear h0
        go_wp2_with fail
        go_region_law (first | (go_simp; go_at_call 15; refine (put_any _ D _ _ _ (v1.below (below_drew1 wr)) HOK.out (by omega)).mono ?_; rintro e w' ⟨v', rfl, v2, b2⟩; obtain ⟨A2, c2, B2, d2, rfl⟩ := v2.cells; have k2 := (k1.below (below_drew1 wr)).below b2; obtain ⟨p0, p1, p2, p3, g1⟩ := k2.four))
        all_goals
          have e : playD (newD n) (l.take (k + 1)) = (putD D xa xd).1 := by rw [hnext.out, HD.out, HX.out]; simp [doAct, H0.out]
          have E := Lib.hid e
          clear e
          go_wp2
          go_roundw
          case rel => exact ⟨k + 1, by omega, by go_num, by rw [E.out]; exact fin4 v2 k2, far4 ((k0.below (below_drew1 wr)).below b2) (by omega), bset4 (bnext (bnext t1 (below_drew1 wr)) b2) (by omega)⟩
          case measure => simp [intOf]; omega
      · have e0 : (xk == 0) = false := by simp [h0]
        by_cases h1 : xk = 1
        · have e1 : (xk == 1) = true := by simp [h1]
          have e : playD (newD n) (l.take (k + 1)) = (flushD D).1 := by rw [hnext.out, HD.out, HX.out]; simp [doAct, h1]
          have E := Lib.hid e
          clear e h0 h1
          go_wp2_with fail
          refine (flush_any _ D _ v1 HOK.out (by omega)).mono ?_
          rintro e w' ⟨v', rfl, v2, b2⟩
          obtain ⟨A2, c2, B2, d2, rfl⟩ := v2.cells
          have k2 := k1.below b2
          obtain ⟨p0, p1, p2, p3, g1⟩ := k2.four
          go_wp2
          go_roundw
          case rel => exact ⟨k + 1, by omega, by go_num, by rw [E.out]; exact fin4 v2 k2, far4 (k0.below b2) (by omega), bset4 (bnext t1 b2) (by omega)⟩
          case measure => simp [intOf]; omega
        · have e1 : (xk == 1) = false := by simp [h1]
          by_cases h2 : xk = 2
          · have e2 : (xk == 2) = true := by simp [h2]
            have e : playD (newD n) (l.take (k + 1)) = armD D xa := by rw [hnext.out, HD.out, HX.out]; simp [doAct, h2]
            have E := Lib.hid e
            clear e h0 h1 h2
            go_wp2_with fail
            go_still_tail 6, (by kernel_rfl)
            change wpList _ _ _ _ _ wr.drew
            go_wp2_with fail
            refine (arm_dk _ D _ _ (v1.below (below_drew1 wr))).mono ?_
            rintro e w' ⟨v', rfl, v2, b2⟩
            obtain ⟨A2, c2, B2, d2, rfl⟩ := v2.cells
            have k2 := (k1.below (below_drew1 wr)).below b2
            obtain ⟨p0, p1, p2, p3, g1⟩ := k2.four
            go_wp2
            go_roundw
            case rel => exact ⟨k + 1, by omega, by go_num, by rw [E.out]; exact fin4 v2 k2, far4 ((k0.below (below_drew1 wr)).below b2) (by omega), bset4 (bnext (bnext t1 (below_drew1 wr)) b2) (by omega)⟩
            case measure => simp [intOf]; omega
          · have e2 : (xk == 2) = false := by simp [h2]
            by_cases h3 : xk = 3
            · have e3 : (xk == 3) = true := by simp [h3]
              have e : playD (newD n) (l.take (k + 1)) = startD D xs xt xb := by rw [hnext.out, HD.out, HX.out]; simp [doAct, h3]
              have E := Lib.hid e
              have HY := Lib.hid y6
              clear e h0 h1 h2 h3 y6
              go_wp2_with fail
              go_still_tail 6, (by kernel_rfl)
              change wpList _ _ _ _ _ wr.drew
              go_wp2_with fail
              refine (start_any _ _ D xs xt xb _ (v1.below (below_drew1 wr)) HOK.out (by omega) ⟨S, qc, rfl, HY.out.below (below_drew1 wr)⟩ hst).mono ?_
              rintro e w' ⟨v', rfl, v2, b2⟩
              obtain ⟨A2, c2, B2, d2, rfl⟩ := v2.cells
              have k2 := (k1.below (below_drew1 wr)).below b2
              obtain ⟨p0, p1, p2, p3, g1⟩ := k2.four
              go_wp2
              go_roundw
              case rel => exact ⟨k + 1, by omega, by go_num, by rw [E.out]; exact fin4 v2 k2, far4 ((k0.below (below_drew1 wr)).below b2) (by omega), bset4 (bnext (bnext t1 (below_drew1 wr)) b2) (by omega)⟩
              case measure => simp [intOf]; omega
            · have e3 : (xk == 3) = false := by simp [h3]
              have e : playD (newD n) (l.take (k + 1)) = D := by rw [hnext.out, HD.out, HX.out]; simp [doAct, h0, h1, h2, h3]
              have E := Lib.hid e
              clear e h0 h1 h2 h3
              go_wp2
              go_roundw
              case rel => exact ⟨k + 1, by omega, by go_num, by rw [E.out]; exact ⟨A', c', B', d', k1, v1⟩, k0, t1⟩
              case measure => simp [intOf]; omega
    · obtain rfl : k = m := by omega
      have hfin : playD (newD n) (l.take k) = playD (newD n) l := by rw [← H.out.1, List.take_length]
      rw [hfin] at k1 v1
      obtain ⟨D, hD⟩ : ∃ D, playD (newD n) l = D := ⟨_, rfl⟩
      rw [hD] at k1 v1
      obtain ⟨q0, q1, q2, q3, f1⟩ := k1.four
      obtain ⟨q4, q5, q6, q7, f2⟩ := k0.four
      have HD := Lib.hid hD
      clear hD hfin
      go_wp2
      refine bodyPost_ret (v := .agg #[.slice A' D.sec.length c', .slice B' D.loose.length d', .bool D.down, .int .i64 D.left]) (by simp [results, Try.results27, go_sem, q4, q5, q6, q7]) rfl ⟨_, rfl, ?_, bset4 t1 (Nat.le_refl _)⟩
      rw [HD.out]
      exact v1.store4 k0 _ _ _ _

end Go.Proofs.Ythcfncpkeldapaa
