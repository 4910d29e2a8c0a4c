/-
  What the reference's deed, Arm, Read and Right answer: of a device in memory that is as the calls make it, with at most 100000 loose writes, what sector's answer.
-/
import Derived.Test.YthcfncpkeldapaaSecG
namespace Go.Proofs.Ythcfncpkeldapaa
open Go.RowKit

set_option maxHeartbeats 400000 in
theorem rdeed_no (A B : Option Addr) (n c m d : Nat) (dn : Bool) (lf : Int) (w : World) (h : dn = true ∨ lf = 0) :
    Calls Try.prog 33 #[.agg #[.slice A n c, .slice B m d, .bool dn, .int .i64 lf]] w
      fun e w' => e = .returned (.tuple #[.agg #[.slice A n c, .slice B m d, .bool true, .int .i64 lf], .bool false]) ∧ Below w.heap.size w w' := by
  by_cases h0 : lf = 0
  · subst h0
    clear h
    go_enter Try.func33, Try.ntmps33
    go_wp2
    exact bodyPost_ret (v := .tuple #[.agg #[.slice A n c, .slice B m d, .bool true, .int .i64 0], .bool false]) (by simp [results, Try.results33, go_sem]) rfl ⟨rfl, ((Below.refl _ _).alloc (Nat.le_refl _) _).alloc (by simp) _⟩
  · have hd : dn = true := by rcases h with h | h <;> simp_all
    subst hd
    have hb : (lf == 0) = false := by simp [h0]
    clear h h0
    go_enter Try.func33, Try.ntmps33
    go_wp2
    exact bodyPost_ret (v := .tuple #[.agg #[.slice A n c, .slice B m d, .bool true, .int .i64 lf], .bool false]) (by simp [results, Try.results33, go_sem]) rfl ⟨rfl, ((Below.refl _ _).alloc (Nat.le_refl _) _).alloc (by simp) _⟩


set_option maxHeartbeats 400000 in
theorem rdeed_yes (A B : Option Addr) (n c m d : Nat) (lf : Int) (w : World) (h : lf ≠ 0) (hu : lf ≤ 9223372036854775807) :
    Calls Try.prog 33 #[.agg #[.slice A n c, .slice B m d, .bool false, .int .i64 lf]] w
      fun e w' => e = .returned (.tuple #[.agg #[.slice A n c, .slice B m d, .bool false, .int .i64 (leftD lf)], .bool true]) ∧ Below w.heap.size w w' := by
  have hb : (lf == 0) = false := by simp [h]
  clear h
  by_cases hp : 0 < lf
  · rw [leftD, if_pos hp]
    go_enter Try.func33, Try.ntmps33
    go_wp2
    exact bodyPost_ret (v := .tuple #[.agg #[.slice A n c, .slice B m d, .bool false, .int .i64 (lf - 1)], .bool true]) (by simp [results, Try.results33, go_sem]) rfl ⟨rfl, ((Below.refl _ _).alloc (Nat.le_refl _) _).alloc (by simp) _⟩
  · rw [leftD, if_neg hp]
    go_enter Try.func33, Try.ntmps33
    go_wp2
    exact bodyPost_ret (v := .tuple #[.agg #[.slice A n c, .slice B m d, .bool false, .int .i64 lf], .bool true]) (by simp [results, Try.results33, go_sem]) rfl ⟨rfl, ((Below.refl _ _).alloc (Nat.le_refl _) _).alloc (by simp) _⟩


set_option maxHeartbeats 400000 in
theorem rarm_any (A B : Option Addr) (n c m d : Nat) (dn : Bool) (lf k : Int) (w : World) :
    Calls Try.prog 20 #[.agg #[.slice A n c, .slice B m d, .bool dn, .int .i64 lf], .int .i64 k] w
      fun e w' => e = .returned (.agg #[.slice A n c, .slice B m d, .bool dn, .int .i64 (if k < -1 then -1 else k)]) ∧ Below w.heap.size w w' := by
  by_cases hk : k < -1
  · rw [if_pos hk]
    go_enter Try.func20, Try.ntmps20
    go_wp2
    exact bodyPost_ret (v := .agg #[.slice A n c, .slice B m d, .bool dn, .int .i64 (-1)]) (by simp [results, Try.results20, go_sem]; omega) rfl ⟨rfl, ((Below.refl _ _).alloc (Nat.le_refl _) _).alloc (by simp) _⟩
  · rw [if_neg hk]
    go_enter Try.func20, Try.ntmps20
    go_wp2
    exact bodyPost_ret (v := .agg #[.slice A n c, .slice B m d, .bool dn, .int .i64 k]) (by simp [results, Try.results20, go_sem]; omega) rfl ⟨rfl, ((Below.refl _ _).alloc (Nat.le_refl _) _).alloc (by simp) _⟩


theorem rread_down (A B : Option Addr) (n c m d : Nat) (lf at_ : Int) (w : World) :
    Calls Try.prog 24 #[.agg #[.slice A n c, .slice B m d, .bool true, .int .i64 lf], .int .i64 at_] w
      fun e w' => e = .returned (.tuple #[.string ByteArray.empty, .int .i64 17]) ∧ Below w.heap.size w w' := by
  go_enter Try.func24, Try.ntmps24
  go_wp2
  go_ret2
  exact ⟨rfl, (Below.refl _ _).alloc (Nat.le_refl _) _⟩


theorem rread_range (A B : Option Addr) (n c m d : Nat) (lf at_ : Int) (w : World) (h : at_ < 0 ∨ (n : Int) ≤ at_) :
    Calls Try.prog 24 #[.agg #[.slice A n c, .slice B m d, .bool false, .int .i64 lf], .int .i64 at_] w
      fun e w' => e = .returned (.tuple #[.string ByteArray.empty, .int .i64 2]) ∧ Below w.heap.size w w' := by
  by_cases h0 : at_ < 0
  · clear h
    go_enter Try.func24, Try.ntmps24
    go_wp2
    go_ret2
    exact ⟨rfl, (Below.refl _ _).alloc (Nat.le_refl _) _⟩
  · have h1 : (n : Int) ≤ at_ := by omega
    clear h
    go_enter Try.func24, Try.ntmps24
    go_wp2
    go_ret2
    exact ⟨rfl, (Below.refl _ _).alloc (Nat.le_refl _) _⟩

set_option maxHeartbeats 1000000 in
theorem rread_yes (A B : Option Addr) (n m c d : Nat) (lf : Int) (at_ : Nat) (sec : List ByteArray) (loose : List (Int × ByteArray)) (w : World) (hn1 : sec.length = n) (hm1 : loose.length = m) (hm : m ≤ 100000) (hn : n ≤ 4096)
    (hat : at_ < n) (hA : Sl w 1 A n c (sec.map Value.string)) (hB : Sl w 2 B m d (wrow loose)) :
    Calls Try.prog 24 #[.agg #[.slice A n c, .slice B m d, .bool false, .int .i64 lf], .int .i64 (at_ : Int)] w
      fun e w' => e = .returned (.tuple #[.string ((findTo loose at_ m).getD (sec.getD at_ ByteArray.empty)), .int .i64 0]) ∧ Below w.heap.size w w' := by
  obtain ⟨res, hres⟩ : ∃ res, (findTo loose at_ m).getD (sec.getD at_ ByteArray.empty) = res := ⟨_, rfl⟩
  rw [hres]
  have HRES := Lib.hid hres
  have HB := Lib.hid hB
  have HN := Lib.hid hn1
  have HM := Lib.hid hm1
  obtain ⟨ba, oa, rfl, hba, hca⟩ := hA.2.2.2 (by omega)
  obtain ⟨sv, hsv⟩ : ∃ sv, sec[at_]? = some sv := ⟨_, List.getElem?_eq_getElem (by omega)⟩
  have hsa : w.cell? ⟨ba, oa + at_, none⟩ = some (.string sv) := by
    rw [hca _ (by omega), List.getElem?_map, hsv]; rfl
  have HSA := Lib.hid hsa
  have HSV := Lib.hid hsv
  clear hA hB hn1 hm1 hres hca hsa hsv
  go_enter Try.func24, Try.ntmps24
  go_wp2
  have k0 := Bk.new w 28 #[.slice (some ⟨ba, oa, none⟩) n c, .slice B m d, .bool false, .int .i64 lf]
  have hbw : Below w.heap.size w (w.alloc (.cells #[.slice (some ⟨ba, oa, none⟩) n c, .slice B m d, .bool false, .int .i64 lf] 28)) := (Below.refl _ _).alloc (Nat.le_refl _) _
  generalize (w.alloc (.cells #[.slice (some ⟨ba, oa, none⟩) n c, .slice B m d, .bool false, .int .i64 lf] 28)) = w1 at *
  obtain ⟨c10, c11, c12, c13, f10⟩ := k0.four
  go_loop [6] (fun i => ∃ (j : Nat) (v : Int), j ≤ m ∧ v + 1 = j ∧ i = .int .i64 v ∧ (findTo loose at_ j).getD (sec.getD at_ ByteArray.empty) = res) (fun i => (intOf i + 1).toNat)
  case atStart => exact ⟨m, _, Nat.le_refl _, by omega, rfl, HRES.out⟩
  case round =>
    obtain ⟨j, v, hj, hv, rfl, hfind⟩ := hrel
    have HF := Lib.hid hfind
    clear hfind
    cases j with
    | zero =>
      obtain rfl : v = -1 := by omega
      have hsa : w1.cell? ⟨ba, oa + at_, none⟩ = some (.string sv) := by rw [hbw.cell (p := ⟨ba, oa + at_, none⟩) hba]; exact HSA.out
      have hbw' := Lib.hid hbw
      clear hbw
      go_wp2
      go_ret2
      refine ⟨?_, hbw'.out⟩
      have e : sv = res := by rw [← HF.out, findTo, List.getD_eq_getElem?_getD, HSV.out]; rfl
      rw [← e]
      rfl
    | succ t =>
      obtain rfl : v = (t : Int) := by omega
      have htl : t < loose.length := by rw [HM.out]; omega
      obtain ⟨b, off, rfl, hbl, hcell⟩ := HB.out.2.2.2 (by omega)
      obtain ⟨x, hx⟩ : ∃ x, loose[t]? = some x := ⟨_, List.getElem?_eq_getElem htl⟩
      have hxe : loose[t] = x := by rw [List.getElem?_eq_getElem htl] at hx; injection hx
      have hy0 : w1.cell? ⟨b, off + t * 2, none⟩ = some (.int .i64 x.1) := by
        rw [hbw.cell (p := ⟨b, off + t * 2, none⟩) hbl, hcell _ (by omega), wrow_at0 _ _ htl, hxe]
      have hy1 : w1.cell? ⟨b, off + t * 2 + 1, none⟩ = some (.string x.2) := by
        rw [hbw.cell (p := ⟨b, off + t * 2 + 1, none⟩) hbl, Nat.add_assoc, hcell _ (by omega), wrow_at1 _ _ htl, hxe]
      have hbw' := Lib.hid hbw
      have HX := Lib.hid hx
      clear hbw hx hxe hcell
      obtain ⟨xa, xd⟩ := x
      simp only at hy0 hy1
      by_cases heq : xa = (at_ : Int)
      · have hq : (xa == (at_ : Int)) = true := by simp [heq]
        have HE := Lib.hid heq
        clear heq
        go_wp2
        go_ret2
        refine ⟨?_, hbw'.out⟩
        have e : xd = res := by rw [← HF.out, findTo, HX.out]; simp [HE.out]
        rw [← e]
        rfl
      · have hq : (xa == (at_ : Int)) = false := by simp [heq]
        have HE := Lib.hid heq
        clear heq
        go_wp2
        go_round
        case rel => exact ⟨t, _, by omega, by omega, rfl, by rw [← HF.out, findTo, HX.out]; simp [HE.out]⟩
        case measure => simp [intOf]


theorem rread_any (v : Value) (D : Dk) (at_ : Int) (w : World) (hv : IsDk w v D) (hD : D.ok) (hm : D.loose.length ≤ 100000) :
    Calls Try.prog 24 #[v, .int .i64 at_] w
      fun e w' => e = .returned (.tuple #[.string (readD D at_).1, .int .i64 (readD D at_).2]) ∧ Below w.heap.size w w' := by
  obtain ⟨A, c, B, d, rfl, hA, hB, tA, tB⟩ := hv
  cases hdn : D.down with
  | true =>
    rw [show readD D at_ = (ByteArray.empty, 17) by rw [readD, if_pos hdn]]
    exact rread_down A B _ c _ d D.left at_ w
  | false =>
    by_cases h2 : at_ < 0 ∨ (D.sec.length : Int) ≤ at_
    · rw [show readD D at_ = (ByteArray.empty, 2) by rw [readD, if_neg (by simp [hdn]), if_pos h2]]
      exact rread_range A B _ c _ d D.left at_ w h2
    · rw [show readD D at_ = (readAt D at_, 0) by rw [readD, if_neg (by simp [hdn]), if_neg h2]]
      obtain ⟨a, rfl⟩ := Int.eq_ofNat_of_zero_le (show 0 ≤ at_ by omega)
      exact rread_yes A B _ _ c d D.left a D.sec D.loose w rfl rfl hm hD.few (by omega) hA hB


end Go.Proofs.Ythcfncpkeldapaa