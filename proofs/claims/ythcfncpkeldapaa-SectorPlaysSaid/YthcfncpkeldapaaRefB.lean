/-
  What the reference's Right and Flush answer: of a device in memory that is as the calls make it, with at most 100000 loose writes, what sector's answer.
-/
import Derived.Test.YthcfncpkeldapaaRefA
import Derived.Deep.RegionLaw
import Derived.Deep.DrawnRows
namespace Go.Proofs.Ythcfncpkeldapaa
open Go.RowKit

set_option maxHeartbeats 1000000 in
theorem rright_raw (A B : Option Addr) (n m c d : Nat) (dn : Bool) (lf : Int) (sec : List ByteArray) (loose : List (Int × ByteArray)) (w : World) (hn1 : sec.length = n) (hm1 : loose.length = m) (hm : m ≤ 100000) (hn : n ≤ 4096)
    (hse : ∀ s ∈ sec, s.size = 128) (hlo : ∀ x ∈ loose, 0 ≤ x.1 ∧ x.1 < sec.length ∧ x.2.size = 128) (hA : Sl w 1 A n c (sec.map Value.string)) (hB : Sl w 2 B m d (wrow loose)) :
    Calls Try.prog 26 #[.agg #[.slice A n c, .slice B m d, .bool dn, .int .i64 lf]] w
      fun e w' => e = .returned (.bool true) ∧ Below w.heap.size w w' := by
  have HA := Lib.hid hA
  have HB := Lib.hid hB
  have HLO := Lib.hid hlo
  have HSE := Lib.hid hse
  have HN := Lib.hid hn1
  have HM := Lib.hid hm1
  clear hA hB hlo hse hn1 hm1
  go_enter Try.func26, Try.ntmps26
  go_wp2
  go_loop [3] (fun i => ∃ k : Nat, k ≤ n ∧ i = .int .i64 k) (fun i => n - (intOf i).toNat)
  case atStart => exact ⟨0, Nat.zero_le _, rfl⟩
  case round =>
    obtain ⟨k, hk, rfl⟩ := hrel
    by_cases hlt : k < n
    · obtain ⟨b, off, rfl, hbl, hcell⟩ := HA.out.2.2.2 (by omega)
      obtain ⟨s, hs⟩ : ∃ s, sec[k]? = some s := ⟨_, List.getElem?_eq_getElem (by rw [HN.out]; exact hlt)⟩
      have hs1 : s.size = 128 := HSE.out s (List.mem_of_getElem? hs)
      have hc : w.cell? ⟨b, off + k, none⟩ = some (.string s) := by rw [hcell k (by omega), List.getElem?_map, hs]; rfl
      have hne : ((s.size : Int) != 128) = false := by simp [hs1]
      clear hs hs1 hcell
      go_wp2
      go_round
      case rel => exact ⟨k + 1, by omega, by go_num⟩
      case measure => simp [intOf]; omega
    · go_wp2
      go_loopw [4] (fun i wr => ∃ k : Nat, k ≤ m ∧ i = .int .i64 k ∧ Bk wr w.heap.size 28 #[.slice A n c, .slice B m d, .bool dn, .int .i64 lf] ∧ Below w.heap.size w wr) (fun i _ => m - (intOf i).toNat)
      case atStart => exact ⟨0, Nat.zero_le _, rfl, Bk.new _ _ _, (Below.refl _ _).alloc (Nat.le_refl _) _⟩
      case round =>
        obtain ⟨j, hj, rfl, k0, hbw⟩ := hrel
        by_cases hjm : j < m
        · have hkl : j < loose.length := by rw [HM.out]; exact hjm
          obtain ⟨hx0, hx1, hx2⟩ := HLO.out _ (List.getElem_mem hkl)
          obtain ⟨a, ha⟩ := Int.eq_ofNat_of_zero_le hx0
          obtain ⟨b, off, rfl, hbl, hcell⟩ := HB.out.2.2.2 (by omega)
          have han : a < n := by rw [← HN.out]; omega
          have hy0 : wr.cell? ⟨b, off + j * 2, none⟩ = some (.int .i64 (a : Int)) := by
            rw [hbw.cell (p := ⟨b, off + j * 2, none⟩) hbl, hcell _ (by omega), wrow_at0 _ _ hkl, ha]
          obtain ⟨dt, hdt⟩ : ∃ dt, (loose[j]).2 = dt := ⟨_, rfl⟩
          have hy1 : wr.cell? ⟨b, off + j * 2 + 1, none⟩ = some (.string dt) := by
            rw [hbw.cell (p := ⟨b, off + j * 2 + 1, none⟩) hbl, Nat.add_assoc, hcell _ (by omega), wrow_at1 _ _ hkl, hdt]
          have hne : ((dt.size : Int) != 128) = false := by simp [← hdt, hx2]
          obtain ⟨c10, c11, c12, c13, f10⟩ := k0.four
          have l0 : w.heap.size < wr.heap.size := k0.lt
          clear hx0 hx1 hx2 ha hdt hcell
          have hi0 : (0 : Int) ≤ (j : Int) := by omega
          have hi1 : (j : Int) < (m : Int) := by omega
          have g1 : decide ((a : Int) < 0) = false := by simp
          have g2 : decide ((n : Int) ≤ (a : Int)) = false := by simp; omega
          have g3 : decide (n ≤ a) = false := by simp; omega
          go_wp2
          go_quiet (fail)
          go_wp2
          go_roundw
          case rel => exact ⟨j + 1, by omega, by go_num, k0.heap rfl, below_drewN hbw _⟩
          case measure => simp [intOf]; omega
        · obtain ⟨c10, c11, c12, c13, f10⟩ := k0.four
          have g1 : decide ((n : Int) ≤ 4096) = true := by simp; omega
          go_wp2
          go_ret
          exact ⟨rfl, hbw⟩

theorem rright_any (v : Value) (D : Dk) (w : World) (hv : IsDk w v D) (hD : D.ok) (hm : D.loose.length ≤ 100000) :
    Calls Try.prog 26 #[v] w fun e w' => e = .returned (.bool true) ∧ Below w.heap.size w w' := by
  obtain ⟨A, c, B, d, rfl, hA, hB, tA, tB⟩ := hv
  exact rright_raw A B _ _ c d D.down D.left D.sec D.loose w rfl rfl hm hD.few hD.sec hD.loose hA hB

theorem rarm_dk (v : Value) (D : Dk) (k : Int) (w : World) (hv : IsDk w v D) :
    Calls Try.prog 20 #[v, .int .i64 k] w fun e w' => ∃ v', e = .returned v' ∧ IsDk w' v' (armD D k) ∧ Below w.heap.size w w' := by
  obtain ⟨A, c, B, d, rfl, hA, hB, tA, tB⟩ := hv
  exact (rarm_any A B _ c _ d D.down D.left k w).mono fun e w' ⟨he, hb⟩ => ⟨_, he, ⟨A, c, B, d, rfl, hA.below hb, hB.below hb, tA.below hb, tB.below hb⟩, hb⟩

end Go.Proofs.Ythcfncpkeldapaa
