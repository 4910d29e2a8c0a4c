/-
  What sector.Read answers, for every device in memory that is as the calls make it, with at most 100000 loose writes.
-/
import Derived.Test.YthcfncpkeldapaaSecE
namespace Go.Proofs.Ythcfncpkeldapaa
open Go.RowKit

/-- The last of the first k writes to a sector. -/
def findTo (l : List (Int × ByteArray)) (at_ : Int) : Nat → Option ByteArray
  | 0 => none
  | k + 1 => match l[k]? with
    | none => findTo l at_ k
    | some x => if x.1 = at_ then some x.2 else findTo l at_ k

/-- Read, as the document has it. -/
def readAt (D : Dk) (at_ : Int) : ByteArray := (findTo D.loose at_ D.loose.length).getD (D.sec.getD at_.toNat ByteArray.empty)

def readD (D : Dk) (at_ : Int) : ByteArray × Int :=
  if D.down = true then (ByteArray.empty, 17)
  else if at_ < 0 ∨ (D.sec.length : Int) ≤ at_ then (ByteArray.empty, 2)
  else (readAt D at_, 0)

theorem read_down (A B : Option Addr) (n c m d : Nat) (lf at_ : Int) (w : World) :
    Calls Try.prog 23 #[.agg #[.slice A n c, .slice B m d, .bool true, .int .i64 lf], .int .i64 at_] w
      fun e w' => e = .returned (.tuple #[.string ByteArray.empty, .int .i64 17]) ∧ Below w.heap.size w w' := by
  go_enter Try.func23, Try.ntmps23
  go_wp2
  go_ret2
  exact ⟨rfl, (Below.refl _ _).alloc (Nat.le_refl _) _⟩

theorem read_range (A B : Option Addr) (n c m d : Nat) (lf at_ : Int) (w : World) (h : at_ < 0 ∨ (n : Int) ≤ at_) :
    Calls Try.prog 23 #[.agg #[.slice A n c, .slice B m d, .bool false, .int .i64 lf], .int .i64 at_] w
      fun e w' => e = .returned (.tuple #[.string ByteArray.empty, .int .i64 2]) ∧ Below w.heap.size w w' := by
  have H := Lib.hid h
  clear h
  go_enter Try.func23, Try.ntmps23
  go_wp2_with (go_at_call 30; go_must (refine (has_no _ _ _ _ _ _ _ _ _ _ H.out).mono ?_; rintro e w1 ⟨rfl, hb1⟩))
  go_ret2
  exact ⟨rfl, bnext ((Below.refl _ _).alloc (Nat.le_refl _) _) hb1⟩

set_option maxHeartbeats 1000000 in
theorem read_yes (A B : Option Addr) (n m c d : Nat) (lf : Int) (at_ : Nat) (sec : List ByteArray) (loose : List (Int × ByteArray)) (w : World) (hn1 : sec.length = n) (hm1 : loose.length = m) (hm : m ≤ 100000) (hn : n ≤ 4096)
    (hat : at_ < n) (hA : Sl w 1 A n c (sec.map Value.string)) (hB : Sl w 2 B m d (wrow loose)) :
    Calls Try.prog 23 #[.agg #[.slice A n c, .slice B m d, .bool false, .int .i64 lf], .int .i64 (at_ : Int)] w
      fun e w' => e = .returned (.tuple #[.string ((findTo loose at_ m).getD (sec.getD at_ ByteArray.empty)), .int .i64 0]) ∧ Below w.heap.size w w' := by
  obtain ⟨res, hres⟩ : ∃ res, (findTo loose at_ m).getD (sec.getD at_ ByteArray.empty) = res := ⟨_, rfl⟩
  rw [hres]
  have HRES := Lib.hid hres
  have HB := Lib.hid hB
  have HN := Lib.hid hn1
  have HM := Lib.hid hm1
  obtain ⟨ba, oa, rfl, hba, hca⟩ := hA.2.2.2 (by omega)
  obtain ⟨sv, hsv⟩ : ∃ sv, sec[at_]? = some sv := ⟨_, List.getElem?_eq_getElem (by omega)⟩
  have hsa : w.cell? ⟨ba, oa + at_, none⟩ = some (.string sv) := by
    rw [hca _ (by omega), List.getElem?_map, hsv]; rfl
  have HSA := Lib.hid hsa
  have HSV := Lib.hid hsv
  clear hA hB hn1 hm1 hres hca hsa hsv
  go_enter Try.func23, Try.ntmps23
  go_wp2_with (go_at_call 30; go_must (refine (has_yes _ _ _ _ _ _ _ _ _ _ (by omega) (by omega)).mono ?_; rintro e w1 ⟨rfl, hb1⟩; have k0 := (Bk.new w _ _).below hb1; obtain ⟨c10, c11, c12, c13, f10⟩ := k0.four))
  have hbw : Below w.heap.size w w1 := bnext ((Below.refl _ _).alloc (Nat.le_refl _) _) hb1
  clear hb1
  go_loop [6] (fun i => ∃ (j : Nat) (v : Int), j ≤ m ∧ v + 1 = j ∧ i = .int .i64 v ∧ (findTo loose at_ j).getD (sec.getD at_ ByteArray.empty) = res) (fun i => (intOf i + 1).toNat)
  case atStart => exact ⟨m, _, Nat.le_refl _, by omega, rfl, HRES.out⟩
  case round =>
    obtain ⟨j, v, hj, hv, rfl, hfind⟩ := hrel
    have HF := Lib.hid hfind
    clear hfind
    cases j with
    | zero =>
      obtain rfl : v = -1 := by omega
      have hsa : w1.cell? ⟨ba, oa + at_, none⟩ = some (.string sv) := by rw [hbw.cell (p := ⟨ba, oa + at_, none⟩) hba]; exact HSA.out
      have hbw' := Lib.hid hbw
      clear hbw
      go_wp2
      go_ret2
      refine ⟨?_, hbw'.out⟩
      have e : sv = res := by rw [← HF.out, findTo, List.getD_eq_getElem?_getD, HSV.out]; rfl
      rw [← e]
      rfl
    | succ t =>
      obtain rfl : v = (t : Int) := by omega
      have htl : t < loose.length := by rw [HM.out]; omega
      obtain ⟨b, off, rfl, hbl, hcell⟩ := HB.out.2.2.2 (by omega)
      obtain ⟨x, hx⟩ : ∃ x, loose[t]? = some x := ⟨_, List.getElem?_eq_getElem htl⟩
      have hxe : loose[t] = x := by rw [List.getElem?_eq_getElem htl] at hx; injection hx
      have hy0 : w1.cell? ⟨b, off + t * 2, none⟩ = some (.int .i64 x.1) := by
        rw [hbw.cell (p := ⟨b, off + t * 2, none⟩) hbl, hcell _ (by omega), wrow_at0 _ _ htl, hxe]
      have hy1 : w1.cell? ⟨b, off + t * 2 + 1, none⟩ = some (.string x.2) := by
        rw [hbw.cell (p := ⟨b, off + t * 2 + 1, none⟩) hbl, Nat.add_assoc, hcell _ (by omega), wrow_at1 _ _ htl, hxe]
      have hbw' := Lib.hid hbw
      have HX := Lib.hid hx
      clear hbw hx hxe hcell
      obtain ⟨xa, xd⟩ := x
      simp only at hy0 hy1
      by_cases heq : xa = (at_ : Int)
      · have hq : (xa == (at_ : Int)) = true := by simp [heq]
        have HE := Lib.hid heq
        clear heq
        go_wp2
        go_ret2
        refine ⟨?_, hbw'.out⟩
        have e : xd = res := by rw [← HF.out, findTo, HX.out]; simp [HE.out]
        rw [← e]
        rfl
      · have hq : (xa == (at_ : Int)) = false := by simp [heq]
        have HE := Lib.hid heq
        clear heq
        go_wp2
        go_round
        case rel => exact ⟨t, _, by omega, by omega, rfl, by rw [← HF.out, findTo, HX.out]; simp [HE.out]⟩
        case measure => simp [intOf]

theorem read_any (v : Value) (D : Dk) (at_ : Int) (w : World) (hv : IsDk w v D) (hD : D.ok) (hm : D.loose.length ≤ 100000) :
    Calls Try.prog 23 #[v, .int .i64 at_] w
      fun e w' => e = .returned (.tuple #[.string (readD D at_).1, .int .i64 (readD D at_).2]) ∧ Below w.heap.size w w' := by
  obtain ⟨A, c, B, d, rfl, hA, hB, tA, tB⟩ := hv
  cases hdn : D.down with
  | true =>
    rw [show readD D at_ = (ByteArray.empty, 17) by rw [readD, if_pos hdn]]
    exact read_down A B _ c _ d D.left at_ w
  | false =>
    by_cases h2 : at_ < 0 ∨ (D.sec.length : Int) ≤ at_
    · rw [show readD D at_ = (ByteArray.empty, 2) by rw [readD, if_neg (by simp [hdn]), if_pos h2]]
      exact read_range A B _ c _ d D.left at_ w h2
    · rw [show readD D at_ = (readAt D at_, 0) by rw [readD, if_neg (by simp [hdn]), if_neg h2]]
      obtain ⟨a, rfl⟩ := Int.eq_ofNat_of_zero_le (show 0 ≤ at_ by omega)
      exact read_yes A B _ _ c d D.left a D.sec D.loose w rfl rfl hm hD.few (by omega) hA hB

set_option maxHeartbeats 1000000 in
theorem right_raw (A B : Option Addr) (n m c d : Nat) (dn : Bool) (lf : Int) (sec : List ByteArray) (loose : List (Int × ByteArray)) (w : World) (hn1 : sec.length = n) (hm1 : loose.length = m) (hm : m ≤ 100000) (hn : n ≤ 4096)
    (hse : ∀ s ∈ sec, s.size = 128) (hlo : ∀ x ∈ loose, 0 ≤ x.1 ∧ x.1 < sec.length ∧ x.2.size = 128) (hA : Sl w 1 A n c (sec.map Value.string)) (hB : Sl w 2 B m d (wrow loose)) :
    Calls Try.prog 25 #[.agg #[.slice A n c, .slice B m d, .bool dn, .int .i64 lf]] w
      fun e w' => e = .returned (.bool true) ∧ Below w.heap.size w w' := by
  have HA := Lib.hid hA
  have HB := Lib.hid hB
  have HLO := Lib.hid hlo
  have HSE := Lib.hid hse
  have HN := Lib.hid hn1
  have HM := Lib.hid hm1
  clear hA hB hlo hse hn1 hm1
  have hq : decide ((4096 : Int) < (n : Int)) = false := by simp; omega
  go_enter Try.func25, Try.ntmps25
  go_wp2
  go_loop [14] (fun i => ∃ k : Nat, k ≤ n ∧ i = .int .i64 k) (fun i => n - (intOf i).toNat)
  case atStart => exact ⟨0, Nat.zero_le _, rfl⟩
  case round =>
    obtain ⟨k, hk, rfl⟩ := hrel
    by_cases hlt : k < n
    · obtain ⟨b, off, rfl, hbl, hcell⟩ := HA.out.2.2.2 (by omega)
      obtain ⟨s, hs⟩ : ∃ s, sec[k]? = some s := ⟨_, List.getElem?_eq_getElem (by rw [HN.out]; exact hlt)⟩
      have hs1 : s.size = 128 := HSE.out s (List.mem_of_getElem? hs)
      have hc : w.cell? ⟨b, off + k, none⟩ = some (.string s) := by rw [hcell k (by omega), List.getElem?_map, hs]; rfl
      have hne : ((s.size : Int) != 128) = false := by simp [hs1]
      clear hs hs1 hcell
      go_wp2
      go_round
      case rel => exact ⟨k + 1, by omega, by go_num⟩
      case measure => simp [intOf]; omega
    · go_wp2
      go_loopw [25] (fun i wr => ∃ k : Nat, k ≤ m ∧ i = .int .i64 k ∧ Bk wr w.heap.size 28 #[.slice A n c, .slice B m d, .bool dn, .int .i64 lf] ∧ Below w.heap.size w wr) (fun i _ => m - (intOf i).toNat)
      case atStart => exact ⟨0, Nat.zero_le _, rfl, Bk.new _ _ _, (Below.refl _ _).alloc (Nat.le_refl _) _⟩
      case round =>
        obtain ⟨j, hj, rfl, k0, hbw⟩ := hrel
        by_cases hjm : j < m
        · have hkl : j < loose.length := by rw [HM.out]; exact hjm
          obtain ⟨hx0, hx1, hx2⟩ := HLO.out _ (List.getElem_mem hkl)
          obtain ⟨a, ha⟩ := Int.eq_ofNat_of_zero_le hx0
          obtain ⟨b, off, rfl, hbl, hcell⟩ := HB.out.2.2.2 (by omega)
          have han : a < n := by rw [← HN.out]; omega
          have hy0 : wr.cell? ⟨b, off + j * 2, none⟩ = some (.int .i64 (a : Int)) := by
            rw [hbw.cell (p := ⟨b, off + j * 2, none⟩) hbl, hcell _ (by omega), wrow_at0 _ _ hkl, ha]
          obtain ⟨dt, hdt⟩ : ∃ dt, (loose[j]).2 = dt := ⟨_, rfl⟩
          have hy1 : wr.cell? ⟨b, off + j * 2 + 1, none⟩ = some (.string dt) := by
            rw [hbw.cell (p := ⟨b, off + j * 2 + 1, none⟩) hbl, Nat.add_assoc, hcell _ (by omega), wrow_at1 _ _ hkl, hdt]
          have hne : ((dt.size : Int) != 128) = false := by simp [← hdt, hx2]
          have hbS := hbw.size
          have hb1 : b < wr.heap.size := by omega
          obtain ⟨c10, c11, c12, c13, f10⟩ := k0.four
          have l0 : w.heap.size < wr.heap.size := k0.lt
          clear hx0 hx1 hx2 ha hdt hcell
          go_wp2_with (go_at_call 30; go_must (refine (has_yes _ _ _ _ _ _ _ _ _ _ (by omega) (by omega)).mono ?_; rintro e w3 ⟨rfl, hb3⟩))
          go_roundw
          case rel => exact ⟨j + 1, by omega, by go_num, (k0.alloc _).below hb3, bnext (hbw.alloc hbS _) hb3⟩
          case measure => simp [intOf]; omega
        · go_wp2
          go_ret
          exact ⟨rfl, hbw⟩

theorem right_any (v : Value) (D : Dk) (w : World) (hv : IsDk w v D) (hD : D.ok) (hm : D.loose.length ≤ 100000) :
    Calls Try.prog 25 #[v] w fun e w' => e = .returned (.bool true) ∧ Below w.heap.size w w' := by
  obtain ⟨A, c, B, d, rfl, hA, hB, tA, tB⟩ := hv
  exact right_raw A B _ _ c d D.down D.left D.sec D.loose w rfl rfl hm hD.few hD.sec hD.loose hA hB

def armD (D : Dk) (k : Int) : Dk := { D with left := if k < -1 then -1 else k }

theorem arm_dk (v : Value) (D : Dk) (k : Int) (w : World) (hv : IsDk w v D) :
    Calls Try.prog 19 #[v, .int .i64 k] w fun e w' => ∃ v', e = .returned v' ∧ IsDk w' v' (armD D k) ∧ Below w.heap.size w w' := by
  obtain ⟨A, c, B, d, rfl, hA, hB, tA, tB⟩ := hv
  exact (arm_any A B _ c _ d D.down D.left k w).mono fun e w' ⟨he, hb⟩ => ⟨_, he, ⟨A, c, B, d, rfl, hA.below hb, hB.below hb, tA.below hb, tB.below hb⟩, hb⟩

theorem armD_ok (D : Dk) (k : Int) (hD : D.ok) (hk : k ≤ 9223372036854775807) : (armD D k).ok :=
  ⟨hD.few, hD.sec, hD.loose, by simp only [armD]; split <;> omega, by simp only [armD]; split <;> omega⟩

end Go.Proofs.Ythcfncpkeldapaa
