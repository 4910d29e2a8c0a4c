/-
  What Same answers of two device values that read as the same device (as the calls make it, with at most 100000 loose writes): true.
-/
import Derived.Test.YthcfncpkeldapaaReadsWalk
namespace Go.Proofs.Ythcfncpkeldapaa
open Go.RowKit

theorem neq_write (x : Int) (y : ByteArray) (w : World) : (binOp .neq 48 (.agg #[.int .i64 x, .string y]) (.agg #[.int .i64 x, .string y])).run Try.prog w = .ok (.bool false) w := by
  have u3 := Try.underlying3
  have u9 := Try.underlying9
  have a3 := Try.isAgg3
  have a9 := Try.isAgg9
  have z3 := Try.sizeOf3
  have z9 := Try.sizeOf9
  have hS : Try.prog.underlying 48 = some (.struct (Try.prog.fieldsOf 48)) := by kernel_rfl
  have hp : Try.prog.stoodInHeld 48 = false := by kernel_rfl
  rw [run_neq_struct, show (10000 : Nat) = 9999 + 1 from rfl, run_equalIn_agg w 9999 48 _ _ hS hp]
  simp only [Program.fieldsOf, Try.underlying48]
  go_simp

theorem guard_write (x y : Operand) (xs ys : Array Value) (w : World) : (eqGuard .neq 48 x y (.agg xs) (.agg ys)).run Try.prog w = .ok () w :=
  run_eqGuard_agg w .neq 48 x y xs ys (by kernel_rfl)

set_option maxRecDepth 100000 in
set_option maxHeartbeats 1000000 in
theorem same_raw (A B A' B' : Option Addr) (n m c d c' d' : Nat) (dn : Bool) (lf : Int) (sec : List ByteArray) (loose : List (Int × ByteArray)) (w : World) (hn1 : sec.length = n) (hm1 : loose.length = m) (hm : m ≤ 100000) (hn : n ≤ 4096)
    (hA : Sl w 1 A n c (sec.map Value.string)) (hB : Sl w 2 B m d (wrow loose)) (hA' : Sl w 1 A' n c' (sec.map Value.string)) (hB' : Sl w 2 B' m d' (wrow loose)) :
    Calls Try.prog 14 #[.agg #[.slice A n c, .slice B m d, .bool dn, .int .i64 lf], .agg #[.slice A' n c', .slice B' m d', .bool dn, .int .i64 lf]] w
      fun e w' => e = .returned (.bool true) ∧ Below w.heap.size w w' := by
  have HA := Lib.hid hA
  have HB := Lib.hid hB
  have HA' := Lib.hid hA'
  have HB' := Lib.hid hB'
  have HN := Lib.hid hn1
  have HM := Lib.hid hm1
  clear hA hB hA' hB' hn1 hm1
  have g1 : ((n : Int) != (n : Int)) = false := by simp
  have g2 : ((m : Int) != (m : Int)) = false := by simp
  have g3 : (lf != lf) = false := by simp
  have g4 : (dn != dn) = false := by simp
  go_enter Try.func14, Try.ntmps14
  go_wp2
  have k0 := (Bk.new w 28 #[.slice A n c, .slice B m d, .bool dn, .int .i64 lf]).alloc (.cells #[.slice A' n c', .slice B' m d', .bool dn, .int .i64 lf] 28)
  have k1 : Bk ((w.alloc (.cells #[.slice A n c, .slice B m d, .bool dn, .int .i64 lf] 28)).alloc (.cells #[.slice A' n c', .slice B' m d', .bool dn, .int .i64 lf] 28)) (w.heap.size + 1) 28 #[.slice A' n c', .slice B' m d', .bool dn, .int .i64 lf] := by
    have := Bk.new (w.alloc (.cells #[.slice A n c, .slice B m d, .bool dn, .int .i64 lf] 28)) 28 #[.slice A' n c', .slice B' m d', .bool dn, .int .i64 lf]
    simpa using this
  have t0 : Below w.heap.size w ((w.alloc (.cells #[.slice A n c, .slice B m d, .bool dn, .int .i64 lf] 28)).alloc (.cells #[.slice A' n c', .slice B' m d', .bool dn, .int .i64 lf] 28)) := ((Below.refl _ _).alloc (Nat.le_refl _) _).alloc (by simp) _
  clear g1 g2 g3 g4
  go_loopw [5] (fun i wr => ∃ k : Nat, k ≤ n ∧ i = .int .i64 k ∧ Bk wr w.heap.size 28 #[.slice A n c, .slice B m d, .bool dn, .int .i64 lf] ∧ Bk wr (w.heap.size + 1) 28 #[.slice A' n c', .slice B' m d', .bool dn, .int .i64 lf] ∧ Below w.heap.size w wr)
    (fun i _ => n - (intOf i).toNat)
  case atStart => exact ⟨0, Nat.zero_le _, rfl, k0, k1, t0⟩
  case round =>
    clear k0 k1 t0
    obtain ⟨k, hk, rfl, k0, k1, t0⟩ := hrel
    obtain ⟨q0, q1, q2, q3, f0⟩ := k0.four
    obtain ⟨p0, p1, p2, p3, f1⟩ := k1.four
    by_cases hlt : k < n
    · obtain ⟨b, off, rfl, hbl, hcell⟩ := HA.out.2.2.2 (by omega)
      obtain ⟨b', off', rfl, hbl', hcell'⟩ := HA'.out.2.2.2 (by omega)
      obtain ⟨s, hs⟩ : ∃ s, sec[k]? = some s := ⟨_, List.getElem?_eq_getElem (by rw [HN.out]; exact hlt)⟩
      have y0 : wr.cell? ⟨b, off + k, none⟩ = some (.string s) := by rw [t0.cell (p := ⟨b, off + k, none⟩) hbl, hcell k (by omega), List.getElem?_map, hs]; rfl
      have y1 : wr.cell? ⟨b', off' + k, none⟩ = some (.string s) := by rw [t0.cell (p := ⟨b', off' + k, none⟩) hbl', hcell' k (by omega), List.getElem?_map, hs]; rfl
      clear hs hcell hcell'
      have hi0 : (0 : Int) ≤ (k : Int) := by omega
      have hi1 : (k : Int) < (n : Int) := by omega
      go_wp2
      go_quiet (fail)
      go_wp2
      go_roundw
      case rel => exact ⟨k + 1, by omega, by go_num, k0.heap rfl, k1.heap rfl, below_drewN t0 _⟩
      case measure => simp [intOf]; omega
    · go_wp2
      clear q0 q1 q2 q3 f0 p0 p1 p2 p3 f1
      go_loopw [6] (fun i wr => ∃ k : Nat, k ≤ m ∧ i = .int .i64 k ∧ Bk wr w.heap.size 28 #[.slice A n c, .slice B m d, .bool dn, .int .i64 lf] ∧ Bk wr (w.heap.size + 1) 28 #[.slice A' n c', .slice B' m d', .bool dn, .int .i64 lf] ∧ Below w.heap.size w wr)
        (fun i _ => m - (intOf i).toNat)
      case atStart => exact ⟨0, Nat.zero_le _, rfl, k0, k1, t0⟩
      case round =>
        clear k0 k1 t0
        obtain ⟨j, hj, rfl, k0, k1, t0⟩ := hrel
        obtain ⟨q0, q1, q2, q3, f0⟩ := k0.four
        obtain ⟨p0, p1, p2, p3, f1⟩ := k1.four
        by_cases hjm : j < m
        · have hkl : j < loose.length := by rw [HM.out]; exact hjm
          obtain ⟨b, off, rfl, hbl, hcell⟩ := HB.out.2.2.2 (by omega)
          obtain ⟨b', off', rfl, hbl', hcell'⟩ := HB'.out.2.2.2 (by omega)
          obtain ⟨x, hx⟩ : ∃ x, loose[j] = x := ⟨_, rfl⟩
          have y0 : wr.cell? ⟨b, off + j * 2, none⟩ = some (.int .i64 x.1) := by rw [t0.cell (p := ⟨b, off + j * 2, none⟩) hbl, hcell _ (by omega), wrow_at0 _ _ hkl, hx]
          have y1 : wr.cell? ⟨b, off + j * 2 + 1, none⟩ = some (.string x.2) := by rw [t0.cell (p := ⟨b, off + j * 2 + 1, none⟩) hbl, Nat.add_assoc, hcell _ (by omega), wrow_at1 _ _ hkl, hx]
          have y2 : wr.cell? ⟨b', off' + j * 2, none⟩ = some (.int .i64 x.1) := by rw [t0.cell (p := ⟨b', off' + j * 2, none⟩) hbl', hcell' _ (by omega), wrow_at0 _ _ hkl, hx]
          have y3 : wr.cell? ⟨b', off' + j * 2 + 1, none⟩ = some (.string x.2) := by rw [t0.cell (p := ⟨b', off' + j * 2 + 1, none⟩) hbl', Nat.add_assoc, hcell' _ (by omega), wrow_at1 _ _ hkl, hx]
          have hne := neq_write x.1 x.2
          have hgd := guard_write
          clear hx hcell hcell'
          have hi0 : (0 : Int) ≤ (j : Int) := by omega
          have hi1 : (j : Int) < (m : Int) := by omega
          go_wp2
          go_quiet (fail)
          go_wp2
          go_roundw
          case rel => exact ⟨j + 1, by omega, by go_num, k0.heap rfl, k1.heap rfl, below_drewN t0 _⟩
          case measure => simp [intOf]; omega
        · go_wp2
          go_ret
          exact ⟨rfl, t0⟩

theorem same_any (v u : Value) (D : Dk) (w : World) (hv : IsDk w v D) (hu : IsDk w u D) (hD : D.ok) (hm : D.loose.length ≤ 100000) :
    Calls Try.prog 14 #[v, u] w fun e w' => e = .returned (.bool true) ∧ Below w.heap.size w w' := by
  obtain ⟨A, c, B, d, rfl, hA, hB, _⟩ := hv
  obtain ⟨A', c', B', d', rfl, hA', hB', _⟩ := hu
  exact same_raw A B A' B' _ _ c d c' d' D.down D.left D.sec D.loose w rfl rfl hm hD.few hA hB hA' hB'

end Go.Proofs.Ythcfncpkeldapaa
