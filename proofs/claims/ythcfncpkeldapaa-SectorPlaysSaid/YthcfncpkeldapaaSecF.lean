/-
  What sector.Start answers, for every device in memory that is as the calls make it, with at most 100000 loose writes, and every cut whose list has at most 1000000 elements.
-/
import Derived.Test.YthcfncpkeldapaaSecE
import Derived.Deep.RegionHeld3
import Derived.Deep.RegionLaw
import Derived.Deep.DrawnRows
namespace Go.Proofs.Ythcfncpkeldapaa
open Go.RowKit

theorem stays_any (C : Option Addr) (n c : Nat) (stay : List Bool) (t b : Int) (i : Nat) (w : World) (hC : Sl w 1 C n c (stay.map Value.bool)) (hn : n ≤ 1000000) (hi : i ≤ 1000000) :
    Calls Try.prog 36 #[.agg #[.slice C n c, .int .i64 t, .int .i64 b], .int .i64 i] w
      fun e w' => e = .returned (.bool (stay.getD (i % stay.length) false)) ∧ Below w.heap.size w w' := by
  have hl : stay.length = n := by have := hC.1; simpa using this
  rcases Nat.eq_zero_or_pos n with h0 | h0
  · subst h0
    obtain rfl : stay = [] := List.eq_nil_of_length_eq_zero hl
    exact stays_none C c t b i w
  · obtain ⟨g, off, rfl, hg, hc⟩ := hC.2.2.2 h0
    have hm : i % n < n := Nat.mod_lt _ h0
    refine stays_some g off n c t b i _ w hg h0 hn hi ?_
    rw [hc _ (by omega), hl, List.getElem?_map, List.getElem?_eq_getElem (by omega), List.getD_eq_getElem?_getD, List.getElem?_eq_getElem (by omega)]
    rfl

/-- A sector list behind the first k loose writes, when the power went. -/
def startTo (sec : List ByteArray) (l : List (Int × ByteArray)) (stay : List Bool) (torn bytes : Int) : Nat → List ByteArray
  | 0 => sec
  | k + 1 => match l[k]? with
    | none => startTo sec l stay torn bytes k
    | some x =>
      if (k : Int) = torn then (startTo sec l stay torn bytes k).set x.1.toNat (tornB ((startTo sec l stay torn bytes k).getD x.1.toNat ByteArray.empty) x.2 bytes)
      else if stay.getD (k % stay.length) false = true then (startTo sec l stay torn bytes k).set x.1.toNat x.2
      else startTo sec l stay torn bytes k

theorem startTo_length (sec : List ByteArray) (l : List (Int × ByteArray)) (stay : List Bool) (torn bytes : Int) (k : Nat) : (startTo sec l stay torn bytes k).length = sec.length := by
  induction k with
  | zero => rfl
  | succ k ih =>
    rw [startTo]
    split
    · exact ih
    · split
      · simpa using ih
      · split
        · simpa using ih
        · exact ih

theorem tornB_size (old data : ByteArray) (n : Int) (ho : old.size = 128) (hd : data.size = 128) : (tornB old data n).size = 128 := by
  have := cutN_le n
  rw [tornB, ByteArray.size_append, ByteArray.size_extract, ByteArray.size_extract]
  omega

theorem startTo_ok (sec : List ByteArray) (l : List (Int × ByteArray)) (stay : List Bool) (torn bytes : Int) (k : Nat) (hs : ∀ s ∈ sec, s.size = 128) (hl : ∀ x ∈ l, 0 ≤ x.1 ∧ x.1 < sec.length ∧ x.2.size = 128) :
    ∀ s ∈ startTo sec l stay torn bytes k, s.size = 128 := by
  induction k with
  | zero => exact hs
  | succ k ih =>
    intro s h
    rw [startTo] at h
    split at h
    · exact ih s h
    · rename_i x hx
      have hx' := hl x (List.mem_of_getElem? hx)
      split at h
      · rcases List.mem_or_eq_of_mem_set h with h | rfl
        · exact ih s h
        · refine tornB_size _ _ _ (ih _ ?_) hx'.2.2
          rw [List.getD_eq_getElem?_getD, List.getElem?_eq_getElem (by rw [startTo_length]; omega)]
          exact List.getElem_mem _
      · split at h
        · rcases List.mem_or_eq_of_mem_set h with h | rfl
          · exact ih s h
          · exact hx'.2.2
        · exact ih s h

theorem startTo_torn (sec : List ByteArray) (l : List (Int × ByteArray)) (stay : List Bool) (torn bytes : Int) (k : Nat) (hk : k < l.length) (h : (k : Int) = torn) (old : ByteArray) (a : Nat) (ha : (l[k]).1 = a)
    (ho : (startTo sec l stay torn bytes k)[a]? = some old) :
    ((startTo sec l stay torn bytes k).map Value.string).set a (.string (tornB old (l[k]).2 bytes)) = (startTo sec l stay torn bytes (k + 1)).map Value.string := by
  rw [startTo, List.getElem?_eq_getElem hk]
  simp only [if_pos h]
  rw [List.map_set, ha, Int.toNat_natCast, List.getD_eq_getElem?_getD, ho]
  rfl

theorem startTo_stay (sec : List ByteArray) (l : List (Int × ByteArray)) (stay : List Bool) (torn bytes : Int) (k : Nat) (hk : k < l.length) (h : ¬ (k : Int) = torn) (hs : stay.getD (k % stay.length) false = true) (a : Nat) (ha : (l[k]).1 = a) :
    ((startTo sec l stay torn bytes k).map Value.string).set a (.string (l[k]).2) = (startTo sec l stay torn bytes (k + 1)).map Value.string := by
  rw [startTo, List.getElem?_eq_getElem hk]
  simp only [if_neg h, if_pos hs]
  rw [List.map_set, ha, Int.toNat_natCast]

theorem startTo_lost (sec : List ByteArray) (l : List (Int × ByteArray)) (stay : List Bool) (torn bytes : Int) (k : Nat) (hk : k < l.length) (h : ¬ (k : Int) = torn) (hs : stay.getD (k % stay.length) false = false) :
    startTo sec l stay torn bytes (k + 1) = startTo sec l stay torn bytes k := by
  rw [startTo, List.getElem?_eq_getElem hk]
  simp only [if_neg h, hs]
  rfl

theorem Bk.three {w : World} {g : Nat} {t : TypeId} {a b c : Value} (h : Bk w g t #[a, b, c]) :
    w.cell? ⟨g, 0, none⟩ = some a ∧ w.cell? ⟨g, 1, none⟩ = some b ∧ w.cell? ⟨g, 2, none⟩ = some c ∧ ∀ o, w.frozen? ⟨g, o, none⟩ = false :=
  ⟨h.cell 0, h.cell 1, h.cell 2, fun o => h.frozen o⟩

attribute [local go_sem ↓] Go.wp_at_zero Go.wp_at_succ

set_option maxHeartbeats 2000000 in
theorem start_raw (A B C : Option Addr) (n m q c d qc : Nat) (dn : Bool) (lf torn bytes : Int) (sec : List ByteArray) (loose : List (Int × ByteArray)) (stay : List Bool) (w : World) (hn1 : sec.length = n) (hm1 : loose.length = m) (hm : m ≤ 100000) (hn : n ≤ 4096) (hq : q ≤ 1000000)
    (hse : ∀ s ∈ sec, s.size = 128) (hlo : ∀ x ∈ loose, 0 ≤ x.1 ∧ x.1 < sec.length ∧ x.2.size = 128)
    (hA : Sl w 1 A n c (sec.map Value.string)) (hB : Sl w 2 B m d (wrow loose)) (hC : Sl w 1 C q qc (stay.map Value.bool)) :
    Calls Try.prog 21 #[.agg #[.slice A n c, .slice B m d, .bool dn, .int .i64 lf], .agg #[.slice C q qc, .int .i64 torn, .int .i64 bytes]] w
      fun e w' => ∃ A' c', e = .returned (.agg #[.slice A' n c', .slice none 0 0, .bool false, .int .i64 (-1)]) ∧
        (Sl w' 1 A' n c' ((startTo sec loose stay torn bytes loose.length).map Value.string) ∧ Ty w' 9 A' n) ∧ Below w.heap.size w w' := by
  have HA := Lib.hid hA
  have HB := Lib.hid hB
  have HC := Lib.hid hC
  have HLO := Lib.hid hlo
  have HSE := Lib.hid hse
  have HN := Lib.hid hn1
  have HM := Lib.hid hm1
  clear hA hB hC hlo hse hn1 hm1
  go_enter Try.func21, Try.ntmps21
  go_wp2_with (first
    | (go_at_call 34; go_must (refine (clone_any _ _ _ _ _ (((HA.out.alloc _).alloc _).alloc _) hn (str_one _)).mono ?_; rintro e w1 ⟨A', c', rfl, hown0, hb1⟩; have k0 := (((Bk.new w _ _).alloc _).alloc _).below hb1; have k1 := ((Bk.new _ _ _).alloc _).below hb1; have k2 := (Bk.new _ _ _).below hb1; simp only [World.size_alloc] at k1 k2 hown0; obtain ⟨c10, c11, c12, c13, f10⟩ := k0.four))
    | fail)
  have hbw : Below w.heap.size w w1 := bnext ((((Below.refl _ _).alloc (Nat.le_refl _) _).alloc (by simp) _).alloc (by simp; omega) _) hb1
  clear hb1 c10 c11 c12 c13 f10
  go_loopw [14] (fun i wr => ∃ k : Nat, k ≤ m ∧ i = .int .i64 k ∧ wr.ownsRow (w.heap.size + 1 + 1 + 1) 9 1 (.slice A' n c') n ((startTo sec loose stay torn bytes k).map Value.string) ∧
      Bk wr w.heap.size 28 #[.slice A n c, .slice B m d, .bool dn, .int .i64 lf] ∧ Bk wr (w.heap.size + 1) 35 #[.slice C q qc, .int .i64 torn, .int .i64 bytes] ∧
      Bk wr (w.heap.size + 1 + 1) 28 #[.slice none 0 0, .slice none 0 0, .bool false, .int .i64 0] ∧ Below w.heap.size w wr)
    (fun i _ => m - (intOf i).toNat)
  case atStart => exact ⟨0, Nat.zero_le _, rfl, by simpa [startTo] using hown0, k0, k1, k2, hbw⟩
  case round =>
    clear hown0 k0 k1 k2 hbw
    obtain ⟨k, hk, rfl, hown, k0, k1, k2, hbw⟩ := hrel
    by_cases hlt : k < m
    · have hkl : k < loose.length := by rw [HM.out]; exact hlt
      obtain ⟨hx0, hx1, hx2⟩ := HLO.out _ (List.getElem_mem hkl)
      obtain ⟨a, ha⟩ := Int.eq_ofNat_of_zero_le hx0
      obtain ⟨b, off, rfl, hbl, hcell⟩ := HB.out.2.2.2 (by omega)
      have han : a < n := by rw [← HN.out]; omega
      obtain ⟨g, rfl, hg⟩ := own_some hown (by omega)
      have hy0 : wr.cell? ⟨b, off + k * 2, none⟩ = some (.int .i64 (a : Int)) := by
        rw [hbw.cell (p := ⟨b, off + k * 2, none⟩) hbl, hcell _ (by omega), wrow_at0 _ _ hkl, ha]
      obtain ⟨dt, hdt⟩ : ∃ dt, (loose[k]).2 = dt := ⟨_, rfl⟩
      have hy1 : wr.cell? ⟨b, off + k * 2 + 1, none⟩ = some (.string dt) := by
        rw [hbw.cell (p := ⟨b, off + k * 2 + 1, none⟩) hbl, Nat.add_assoc, hcell _ (by omega), wrow_at1 _ _ hkl, hdt]
      have HAA := Lib.hid ha
      have HDT := Lib.hid hdt
      have HX2 := Lib.hid hx2
      have hbS := hbw.size
      have hb1 : b < wr.heap.size := by omega
      have hal : a < (startTo sec loose stay torn bytes k).length := by rw [startTo_length, HN.out]; exact han
      obtain ⟨old, hold⟩ : ∃ old, (startTo sec loose stay torn bytes k)[a]? = some old := ⟨_, List.getElem?_eq_getElem hal⟩
      have HOLD := Lib.hid hold
      have hos : old.size = 128 := startTo_ok sec loose stay torn bytes k HSE.out HLO.out old (List.mem_of_getElem? hold)
      have HOS := Lib.hid hos
      have holdc : ((startTo sec loose stay torn bytes k).map Value.string)[a]? = some (.string old) := by rw [List.getElem?_map, hold]; rfl
      have HOC := Lib.hid holdc
      obtain ⟨c10, c11, c12, c13, f10⟩ := k0.four
      obtain ⟨e10, e11, e12, ef10⟩ := k1.three
      have l0 : w.heap.size < wr.heap.size := k0.lt
      have l1 : w.heap.size + 1 < wr.heap.size := k1.lt
      clear hx0 hx1 hx2 ha hdt hcell hal hold hos holdc
      by_cases ht : (k : Int) = torn
      · have htb : ((k : Int) == torn) = true := by simp [ht]
        have HT := Lib.hid ht
        clear ht
        go_wp2_with (go_at_call 30; go_must (refine (has_yes _ _ _ _ _ _ _ _ _ _ (by omega) (by omega)).mono ?_; rintro e w3 ⟨rfl, hb3⟩; have k3 := (k0.alloc _).below hb3; have k4 := (k1.alloc _).below hb3; have k5 := (k2.alloc _).below hb3; have k6 := (Bk.new wr 48 #[.int .i64 (a : Int), .string dt]).below hb3; have hy2 : w3.cell? ⟨wr.heap.size, 0, none⟩ = some (.int .i64 (a : Int)) := k6.cell 0; have hy3 : w3.cell? ⟨wr.heap.size, 1, none⟩ = some (.string dt) := k6.cell 1; have hown3 := own_below (hown.alloc _) hb3; have hcc := (hown3.cellAt a (by omega)).trans HOC.out; have hff := hown3.frozenAt a; obtain ⟨d10, d11, d12, df10⟩ := k4.three; have l3 := k6.lt; clear c10 c11 c12 c13 f10 e10 e11 e12 ef10 hy0 hy1))
        have hia : (0 : Int) ≤ (a : Int) := by omega
        have hib : (a : Int) < (n : Int) := by omega
        have hst := (hown3.stored a (.string (tornB old dt bytes))).1
        rw [← HDT.out, startTo_torn sec loose stay torn bytes k hkl HT.out old a HAA.out HOLD.out, HDT.out] at hst
        have K3 := k3.far (p := ⟨g, a, none⟩) (by simp; omega) (.string (tornB old dt bytes))
        have K4 := k4.far (p := ⟨g, a, none⟩) (by simp; omega) (.string (tornB old dt bytes))
        have K5 := k5.far (p := ⟨g, a, none⟩) (by simp; omega) (.string (tornB old dt bytes))
        have KB := (bnext (hbw.alloc hbS _) hb3).setCell (p := ⟨g, a, none⟩) (by simp; omega) (.string (tornB old dt bytes))
        have FIN := Lib.hid (And.intro hst (And.intro K3 (And.intro K4 (And.intro K5 KB))))
        clear hst K3 K4 K5 KB hown hown3 k0 k1 k2 k3 k4 k5 k6 hb3 hbw
        go_region_law (first | (go_simp; go_at_call 35; refine (torn_any old dt bytes _ HOS.out (HDT.out ▸ HX2.out)).mono ?_; rintro e w' ⟨rfl, kk, rfl⟩))
        all_goals
          go_wp2
          go_roundw
          case rel => exact ⟨k + 1, by omega, by go_num, own_heap FIN.out.1 rfl, FIN.out.2.1.heap rfl, FIN.out.2.2.1.heap rfl, FIN.out.2.2.2.1.heap rfl, below_heap FIN.out.2.2.2.2 rfl rfl rfl rfl⟩
          case measure => simp [intOf]; omega
      · have htb : ((k : Int) == torn) = false := by simp [ht]
        have HT := Lib.hid ht
        clear ht
        obtain ⟨sb, hsb⟩ : ∃ sb, stay.getD (k % stay.length) false = sb := ⟨_, rfl⟩
        have HSB := Lib.hid hsb
        clear hsb
        cases sb
        · go_wp2_with (first
            | (go_at_call 30; go_must (refine (has_yes _ _ _ _ _ _ _ _ _ _ (by omega) (by omega)).mono ?_; rintro e w3 ⟨rfl, hb3⟩; have k3 := (k0.alloc _).below hb3; have k4 := (k1.alloc _).below hb3; have k5 := (k2.alloc _).below hb3; have hown3 := own_below (hown.alloc _) hb3; obtain ⟨d10, d11, d12, df10⟩ := k4.three; clear c10 c11 c12 c13 f10 e10 e11 e12 ef10 hy0 hy1))
            | (go_at_call 36; go_must (refine (stays_any _ _ _ stay _ _ _ _ (HC.out.below (bnext (hbw.alloc hbS _) hb3)) hq (by omega)).mono ?_; rintro e w4 ⟨rfl, hb4⟩; rw [HSB.out]))
            | fail)
          go_roundw
          case rel => exact ⟨k + 1, by omega, by go_num, by rw [startTo_lost sec loose stay torn bytes k hkl HT.out HSB.out]; exact own_below hown3 hb4, k3.below hb4, k4.below hb4, k5.below hb4, bnext (bnext (hbw.alloc hbS _) hb3) hb4⟩
          case measure => simp [intOf]; omega
        · go_wp2_with (first
            | (go_at_call 30; go_must (refine (has_yes _ _ _ _ _ _ _ _ _ _ (by omega) (by omega)).mono ?_; rintro e w3 ⟨rfl, hb3⟩; have k3 := (k0.alloc _).below hb3; have k4 := (k1.alloc _).below hb3; have k5 := (k2.alloc _).below hb3; have k6 := (Bk.new wr 48 #[.int .i64 (a : Int), .string dt]).below hb3; have hown3 := own_below (hown.alloc _) hb3; obtain ⟨d10, d11, d12, df10⟩ := k4.three; clear c10 c11 c12 c13 f10 e10 e11 e12 ef10 hy0 hy1))
            | (go_at_call 36; go_must (refine (stays_any _ _ _ stay _ _ _ _ (HC.out.below (bnext (hbw.alloc hbS _) hb3)) hq (by omega)).mono ?_; rintro e w4 ⟨rfl, hb4⟩; rw [HSB.out]; have k7 := k6.below hb4; have hy2 : w4.cell? ⟨wr.heap.size, 0, none⟩ = some (.int .i64 (a : Int)) := k7.cell 0; have hy3 : w4.cell? ⟨wr.heap.size, 1, none⟩ = some (.string dt) := k7.cell 1; have hown4 := own_below hown3 hb4; have hcc := (hown4.cellAt a (by omega)).trans HOC.out; have hff := hown4.frozenAt a))
            | fail)
          have hst := (hown4.stored a (.string dt)).1
          rw [← HDT.out, startTo_stay sec loose stay torn bytes k hkl HT.out HSB.out a HAA.out, HDT.out] at hst
          go_roundw
          case rel => exact ⟨k + 1, by omega, by go_num, hst, (k3.below hb4).far (by simp; omega) _, (k4.below hb4).far (by simp; omega) _, (k5.below hb4).far (by simp; omega) _, (bnext (bnext (hbw.alloc hbS _) hb3) hb4).setCell (by simp; omega) _⟩
          case measure => simp [intOf]; omega
    · obtain rfl : k = m := by omega
      obtain ⟨c14, c15, c16, c17, f11⟩ := k2.four
      have HBW := Lib.hid hbw
      have HOW := Lib.hid hown
      clear hbw hown hk hlt
      go_wp2
      refine bodyPost_ret (v := .agg #[.slice A' n c', .slice none 0 0, .bool false, .int .i64 (-1)]) (by simp [results, Try.results21, go_sem, c14, c15, c16, c17]) rfl ⟨A', c', rfl, ?_, ?_⟩
      · have q := HOW.out
        rw [← HM.out] at q
        have g2 := ownsRow_setCell_below q (a := ⟨w.heap.size + 1 + 1, 0, none⟩) (by simp) (.slice A' n c')
        have g3 := ownsRow_setCell_below g2 (a := ⟨w.heap.size + 1 + 1, 1, none⟩) (by simp) (.slice none 0 0)
        have g4 := ownsRow_setCell_below g3 (a := ⟨w.heap.size + 1 + 1, 2, none⟩) (by simp) (.bool false)
        have g5 := ownsRow_setCell_below g4 (a := ⟨w.heap.size + 1 + 1, 3, none⟩) (by simp) (.int .i64 (-1))
        exact ⟨Sl.own' g5, Ty.own g5⟩
      · exact (((HBW.out.setCell (p := ⟨w.heap.size + 1 + 1, 0, none⟩) (by simp; omega) _).setCell (p := ⟨w.heap.size + 1 + 1, 1, none⟩) (by simp; omega) _).setCell (p := ⟨w.heap.size + 1 + 1, 2, none⟩) (by simp; omega) _).setCell (p := ⟨w.heap.size + 1 + 1, 3, none⟩) (by simp; omega) _

/-- Start, as the document has it. -/
def startD (D : Dk) (stay : List Bool) (torn bytes : Int) : Dk := ⟨startTo D.sec D.loose stay torn bytes D.loose.length, [], false, -1⟩

/-- The value v reads as such a cut. -/
def IsCut (w : World) (v : Value) (stay : List Bool) (torn bytes : Int) : Prop :=
  ∃ C c, v = .agg #[.slice C stay.length c, .int .i64 torn, .int .i64 bytes] ∧ Sl w 1 C stay.length c (stay.map Value.bool)

theorem start_any (v u : Value) (D : Dk) (stay : List Bool) (torn bytes : Int) (w : World) (hv : IsDk w v D) (hD : D.ok) (hm : D.loose.length ≤ 100000) (hu : IsCut w u stay torn bytes) (hs : stay.length ≤ 1000000) :
    Calls Try.prog 21 #[v, u] w
      fun e w' => ∃ v', e = .returned v' ∧ IsDk w' v' (startD D stay torn bytes) ∧ Below w.heap.size w w' := by
  obtain ⟨A, c, B, d, rfl, hA, hB, tA, tB⟩ := hv
  obtain ⟨C, cc, rfl, hC⟩ := hu
  refine (start_raw A B C _ _ _ c d cc D.down D.left torn bytes D.sec D.loose stay w rfl rfl hm hD.few hs hD.sec hD.loose hA hB hC).mono fun e w' ⟨A', c', he, hsl, hb⟩ =>
    ⟨_, he, ⟨A', c', none, 0, by simp [startD, startTo_length], by simpa [startD, startTo_length] using hsl.1, Sl.nil _ _, by simpa [startD, startTo_length] using hsl.2, Ty.zero⟩, hb⟩

theorem startD_ok (D : Dk) (stay : List Bool) (torn bytes : Int) (hD : D.ok) : (startD D stay torn bytes).ok :=
  ⟨by simpa [startD, startTo_length] using hD.few, startTo_ok _ _ _ _ _ _ hD.sec hD.loose, by simp [startD], by simp [startD], by simp [startD]⟩

end Go.Proofs.Ythcfncpkeldapaa
