/-
  What the reference's Start answers: of a device in memory that is as the calls make it, with at most 100000 loose writes, and a cut whose list has at most 1000000 elements, what sector's answers.
-/
import Derived.Test.YthcfncpkeldapaaRefE
import Derived.Test.YthcfncpkeldapaaSecF
namespace Go.Proofs.Ythcfncpkeldapaa
open Go.RowKit

theorem cutN_max (n : Int) : (max 0 (min n 128) : Int) = ((cutN n : Nat) : Int) := by
  unfold cutN
  split
  · omega
  · split <;> omega

theorem below_drewN' {B : Nat} {a w : World} (h : Below B a w) (k : Nat) : Below B a (w.drewN k) := below_drewN h k

set_option maxRecDepth 100000 in
set_option maxHeartbeats 4000000 in
theorem rstart_raw (A B C : Option Addr) (n m q c d qc : Nat) (dn : Bool) (lf torn bytes : Int) (sec : List ByteArray) (loose : List (Int × ByteArray)) (stay : List Bool) (w : World) (hn1 : sec.length = n) (hm1 : loose.length = m) (hm : m ≤ 100000) (hn : n ≤ 4096) (hq : q ≤ 1000000)
    (hse : ∀ s ∈ sec, s.size = 128) (hlo : ∀ x ∈ loose, 0 ≤ x.1 ∧ x.1 < sec.length ∧ x.2.size = 128)
    (hA : Sl w 1 A n c (sec.map Value.string)) (hB : Sl w 2 B m d (wrow loose)) (hC : Sl w 1 C q qc (stay.map Value.bool)) :
    Calls Try.prog 22 #[.agg #[.slice A n c, .slice B m d, .bool dn, .int .i64 lf], .agg #[.slice C q qc, .int .i64 torn, .int .i64 bytes]] w
      fun e w' => ∃ A' c', e = .returned (.agg #[.slice A' n c', .slice none 0 0, .bool false, .int .i64 (-1)]) ∧
        (Sl w' 1 A' n c' ((startTo sec loose stay torn bytes loose.length).map Value.string) ∧ Ty w' 9 A' n) ∧ Below w.heap.size w w' := by
  obtain ⟨i0, hi, hz0, hz1, hz2⟩ := info_parts Try.infoS
  have hql : stay.length = q := by have := hC.1; simpa using this
  have HA := Lib.hid hA
  have HB := Lib.hid hB
  have HC := Lib.hid hC
  have HLO := Lib.hid hlo
  have HSE := Lib.hid hse
  have HN := Lib.hid hn1
  have HM := Lib.hid hm1
  have HQL := Lib.hid hql
  clear hA hB hC hlo hse hn1 hm1 hql
  go_enter Try.func22, Try.ntmps22
  go_wp2_with (first
    | (at_builtin; go_must (have k0 := ((Bk.new w 28 #[.slice A n c, .slice B m d, .bool dn, .int .i64 lf]).alloc (.cells #[.slice C q qc, .int .i64 torn, .int .i64 bytes] 35)).alloc (.cells #[.slice none 0 0, .slice none 0 0, .bool false, .int .i64 0] 28); have k1 := (Bk.new (w.alloc (.cells #[.slice A n c, .slice B m d, .bool dn, .int .i64 lf] 28)) 35 #[.slice C q qc, .int .i64 torn, .int .i64 bytes]).alloc (.cells #[.slice none 0 0, .slice none 0 0, .bool false, .int .i64 0] 28); have k2 := Bk.new ((w.alloc (.cells #[.slice A n c, .slice B m d, .bool dn, .int .i64 lf] 28)).alloc (.cells #[.slice C q qc, .int .i64 torn, .int .i64 bytes] 35)) 28 #[.slice none 0 0, .slice none 0 0, .bool false, .int .i64 0]; have hbw : Below w.heap.size w (((w.alloc (.cells #[.slice A n c, .slice B m d, .bool dn, .int .i64 lf] 28)).alloc (.cells #[.slice C q qc, .int .i64 torn, .int .i64 bytes] 35)).alloc (.cells #[.slice none 0 0, .slice none 0 0, .bool false, .int .i64 0] 28)) := (((Below.refl _ _).alloc (Nat.le_refl _) _).alloc (by simp) _).alloc (by simp; omega) _; have hsz : (((w.alloc (.cells #[.slice A n c, .slice B m d, .bool dn, .int .i64 lf] 28)).alloc (.cells #[.slice C q qc, .int .i64 torn, .int .i64 bytes] 35)).alloc (.cells #[.slice none 0 0, .slice none 0 0, .bool false, .int .i64 0] 28)).heap.size = w.heap.size + 1 + 1 + 1 := (by simp); simp only [World.size_alloc] at k1 k2; generalize (((w.alloc (.cells #[.slice A n c, .slice B m d, .bool dn, .int .i64 lf] 28)).alloc (.cells #[.slice C q qc, .int .i64 torn, .int .i64 bytes] 35)).alloc (.cells #[.slice none 0 0, .slice none 0 0, .bool false, .int .i64 0] 28)) = W at *; have ho := World.ownsRow_lit W (e := 9) (size := 1) #[] 0 (Nat.le_refl _) (by decide) rfl; rw [hsz] at ho; have hlw := Nat.le_of_eq hsz; have hA1 := (HA.out.below hbw).alloc (.cells #[] 9); refine append_sl rfl (.tmp 10) (.tmp 12) _ rfl (w.heap.size + 1 + 1 + 1) 9 i0 _ 1 16 Try.underlying25 hi hz0 hz1 hz2 rfl (by decide) _ 0 [] rfl ho A n c (sec.map Value.string) rfl hA1 (str_one _) (by unfold maxLen; omega) (by omega) (by rw [World.size_alloc]; omega) ?_; intro v2 w2 hown0 hg2; obtain ⟨A', c', rfl, hsl⟩ := Sl.own hown0; clear hsl; simp only [Nat.zero_add, List.nil_append] at hown0; have hb2 : Below (w.heap.size + 1 + 1 + 1) W w2 := ((Below.refl _ _).alloc (by omega) _).grown hg2 (by rw [World.size_alloc]; omega) (fun g hg => Nat.le_of_eq (Option.some.inj hg)); rw [← hsz] at hb2; replace k0 := k0.below hb2; replace k1 := k1.below hb2; replace k2 := k2.below hb2; replace hbw := bnext hbw hb2; clear hsz hlw ho hA1 hg2 hb2))
    | fail)
  go_loopw [6] (fun i wr => ∃ k : Nat, k ≤ m ∧ i = .int .i64 k ∧ wr.ownsRow (w.heap.size + 1 + 1 + 1) 9 1 (.slice A' n c') n ((startTo sec loose stay torn bytes k).map Value.string) ∧
      Bk wr w.heap.size 28 #[.slice A n c, .slice B m d, .bool dn, .int .i64 lf] ∧ Bk wr (w.heap.size + 1) 35 #[.slice C q qc, .int .i64 torn, .int .i64 bytes] ∧
      Bk wr (w.heap.size + 1 + 1) 28 #[.slice none 0 0, .slice none 0 0, .bool false, .int .i64 0] ∧ Below w.heap.size w wr)
    (fun i _ => m - (intOf i).toNat)
  case atStart => exact ⟨0, Nat.zero_le _, rfl, by simpa [startTo] using hown0, k0, k1, k2, hbw⟩
  case round =>
    clear hown0 k0 k1 k2 hbw
    obtain ⟨k, hk, rfl, hown, k0, k1, k2, hbw⟩ := hrel
    by_cases hlt : k < m
    · have hkl : k < loose.length := by rw [HM.out]; exact hlt
      obtain ⟨hx0, hx1, hx2⟩ := HLO.out _ (List.getElem_mem hkl)
      obtain ⟨a, ha⟩ := Int.eq_ofNat_of_zero_le hx0
      obtain ⟨b, off, rfl, hbl, hcell⟩ := HB.out.2.2.2 (by omega)
      have han : a < n := by rw [← HN.out]; omega
      obtain ⟨g, rfl, hg⟩ := own_some hown (by omega)
      have hy0 : wr.cell? ⟨b, off + k * 2, none⟩ = some (.int .i64 (a : Int)) := by
        rw [hbw.cell (p := ⟨b, off + k * 2, none⟩) hbl, hcell _ (by omega), wrow_at0 _ _ hkl, ha]
      obtain ⟨dt, hdt⟩ : ∃ dt, (loose[k]).2 = dt := ⟨_, rfl⟩
      have hy1 : wr.cell? ⟨b, off + k * 2 + 1, none⟩ = some (.string dt) := by
        rw [hbw.cell (p := ⟨b, off + k * 2 + 1, none⟩) hbl, Nat.add_assoc, hcell _ (by omega), wrow_at1 _ _ hkl, hdt]
      have HAA := Lib.hid ha
      have HDT := Lib.hid hdt
      have HX2 := Lib.hid hx2
      have hbS := hbw.size
      have hb1 : b < wr.heap.size := by omega
      have hal : a < (startTo sec loose stay torn bytes k).length := by rw [startTo_length, HN.out]; exact han
      obtain ⟨old, hold⟩ : ∃ old, (startTo sec loose stay torn bytes k)[a]? = some old := ⟨_, List.getElem?_eq_getElem hal⟩
      have HOLD := Lib.hid hold
      have hos : old.size = 128 := startTo_ok sec loose stay torn bytes k HSE.out HLO.out old (List.mem_of_getElem? hold)
      have HOS := Lib.hid hos
      have holdc : ((startTo sec loose stay torn bytes k).map Value.string)[a]? = some (.string old) := by rw [List.getElem?_map, hold]; rfl
      have hcc := (hown.cellAt a (by omega)).trans holdc
      have hff := hown.frozenAt a
      obtain ⟨c10, c11, c12, c13, f10⟩ := k0.four
      obtain ⟨e10, e11, e12, ef10⟩ := k1.three
      have l0 : w.heap.size < wr.heap.size := k0.lt
      have l1 : w.heap.size + 1 < wr.heap.size := k1.lt
      have lg : g < wr.heap.size := by
        rcases Nat.lt_or_ge g wr.heap.size with h | h
        · exact h
        · simp [World.cell?, Array.getElem?_eq_none h] at hcc
      have hd1 : dt.size ≤ 128 := by rw [← hdt, hx2]; exact Nat.le_refl _
      have hd2 : 128 ≤ dt.size := by rw [← hdt, hx2]; exact Nat.le_refl _
      have ho1 : old.size ≤ 128 := by omega
      have ho2 : 128 ≤ old.size := by omega
      have hk0 : (0 : Int) ≤ (k : Int) := by omega
      have hk1 : (k : Int) < (m : Int) := by omega
      have hia : (0 : Int) ≤ (a : Int) := by omega
      have hib : (a : Int) < (n : Int) := by omega
      clear hx0 hx1 hx2 ha hdt hcell hal hold hos holdc
      obtain ⟨sb, hsb⟩ : ∃ sb, stay.getD (k % stay.length) false = sb := ⟨_, rfl⟩
      have HSB := Lib.hid hsb
      clear hsb
      have hownA := hown.alloc (.cells #[.int .i64 (a : Int), .string dt] 48)
      have k0A := k0.alloc (.cells #[.int .i64 (a : Int), .string dt] 48)
      have k1A := k1.alloc (.cells #[.int .i64 (a : Int), .string dt] 48)
      have k2A := k2.alloc (.cells #[.int .i64 (a : Int), .string dt] 48)
      have hbA := hbw.alloc hbS (.cells #[.int .i64 (a : Int), .string dt] 48)
      have OWN := Lib.hid hownA
      clear hownA hown
      rcases Nat.eq_zero_or_pos q with hq0 | hq0
      · subst hq0
        have hsf : sb = false := by rw [← HSB.out, List.eq_nil_of_length_eq_zero HQL.out]; rfl
        subst hsf
        by_cases ht : (k : Int) = torn
        · have htb : ((k : Int) == torn) = true := by simp [ht]
          have HT := Lib.hid ht
          clear ht
          have hmx := cutN_max bytes
          have hN := cutN_le bytes
          obtain ⟨N, hNe⟩ : ∃ N, cutN bytes = N := ⟨_, rfl⟩
          rw [hNe] at hmx hN
          have HNE := Lib.hid hNe
          clear hNe
          have hN0 : (0 : Int) ≤ (N : Int) := by omega
          have hN1 : (N : Int) ≤ (dt.size : Int) := by omega
          have hN2 : (N : Int) ≤ (old.size : Int) := by omega
          have HE : Hid (dt.extract 0 N ++ old.extract N old.size = tornB old dt bytes) := by unfold Hid; rw [tornB, HNE.out, HOS.out]
          have holdc : ((startTo sec loose stay torn bytes k).map Value.string)[a]? = some (.string old) := by rw [List.getElem?_map, HOLD.out]; rfl
          have HOC := Lib.hid holdc
          clear holdc
          go_wp2
          go_quiet (fail)
          go_wp2
          have kN : Bk ((wr.alloc (.cells #[.int .i64 (a : Int), .string dt] 48)).drewN nq) wr.heap.size 48 #[.int .i64 (a : Int), .string dt] := (Bk.new wr _ _).heap rfl
          have k0N : Bk ((wr.alloc (.cells #[.int .i64 (a : Int), .string dt] 48)).drewN nq) _ _ _ := k0A.heap rfl
          have k1N : Bk ((wr.alloc (.cells #[.int .i64 (a : Int), .string dt] 48)).drewN nq) _ _ _ := k1A.heap rfl
          have k2N : Bk ((wr.alloc (.cells #[.int .i64 (a : Int), .string dt] 48)).drewN nq) _ _ _ := k2A.heap rfl
          have ownN : ((wr.alloc (.cells #[.int .i64 (a : Int), .string dt] 48)).drewN nq).ownsRow _ _ _ _ _ _ := own_heap OWN.out rfl
          have hbN : Below w.heap.size w ((wr.alloc (.cells #[.int .i64 (a : Int), .string dt] 48)).drewN nq) := below_drewN hbA nq
          clear k0A k1A k2A OWN hbA k0 k1 k2 c10 c11 c12 c13 f10 e10 e11 e12 ef10 hy0 hy1 hcc hff
          generalize ((wr.alloc (.cells #[.int .i64 (a : Int), .string dt] 48)).drewN nq) = W1 at *
          have y2 : W1.cell? ⟨wr.heap.size, 0, none⟩ = some (.int .i64 (a : Int)) := kN.cell 0
          have y3 : W1.cell? ⟨wr.heap.size, 1, none⟩ = some (.string dt) := kN.cell 1
          have hcc := (ownN.cellAt a (by omega)).trans HOC.out
          have hff := ownN.frozenAt a
          have hst := (ownN.stored a (.string (tornB old dt bytes))).1
          rw [← HDT.out, startTo_torn sec loose stay torn bytes k hkl HT.out old a HAA.out HOLD.out, HDT.out] at hst
          have HST := Lib.hid hst
          clear hst ownN kN
          have hcat : ¬ (9223372036854775807 < min N dt.size + (old.size - N)) := by omega
          go_still_tail 16, (by kernel_rfl)
          change wpList _ _ _ _ _ W1.drew
          go_wp2
          rw [HE.out]
          go_roundw
          case rel => exact ⟨k + 1, by omega, by go_num, own_heap HST.out rfl, (k0N.far (p := ⟨g, a, none⟩) (by simp; omega) (.string (tornB old dt bytes))).heap rfl, (k1N.far (p := ⟨g, a, none⟩) (by simp; omega) (.string (tornB old dt bytes))).heap rfl, (k2N.far (p := ⟨g, a, none⟩) (by simp; omega) (.string (tornB old dt bytes))).heap rfl, below_heap (hbN.setCell (p := ⟨g, a, none⟩) (by simp; omega) (.string (tornB old dt bytes))) rfl rfl rfl rfl⟩
          case measure => simp [intOf]; omega
        · have htb : ((k : Int) == torn) = false := by simp [ht]
          have HT := Lib.hid ht
          clear ht
          go_wp2
          go_quiet (fail)
          go_wp2
          go_roundw
          case rel => exact ⟨k + 1, by omega, by go_num, by rw [startTo_lost sec loose stay torn bytes k hkl HT.out HSB.out]; exact own_heap OWN.out rfl, k0A.heap rfl, k1A.heap rfl, k2A.heap rfl, below_heap hbA rfl rfl rfl rfl⟩
          case measure => simp [intOf]; omega
      · obtain ⟨gS, offS, rfl, hgS, hcS⟩ := HC.out.2.2.2 hq0
        obtain ⟨r, hr⟩ : ∃ r, k % q = r := ⟨_, rfl⟩
        have hrn : r < q := hr ▸ Nat.mod_lt _ hq0
        have hmod : IntKind.i64.wrap ((k : Int).tmod (q : Int)) = (r : Int) := by
          rw [IntWalk.i64_in _ (by rw [Int.tmod_eq_emod_of_nonneg (by omega)]; omega)]
          rw [Int.tmod_eq_emod_of_nonneg (by omega), ← hr]; simp
        have hmod2 : (k : Int) % (q : Int) = (r : Int) := by rw [← hr]; simp
        have hcb : wr.cell? ⟨gS, offS + r, none⟩ = some (.bool sb) := by
          rw [hbw.cell (p := ⟨gS, offS + r, none⟩) hgS, hcS r (by omega), List.getElem?_map, List.getElem?_eq_getElem (by rw [HQL.out]; exact hrn)]
          have := HSB.out
          rw [HQL.out, hr, List.getD_eq_getElem?_getD, List.getElem?_eq_getElem (by rw [HQL.out]; exact hrn)] at this
          simpa using this
        have hgS' : gS < wr.heap.size := by omega
        have hdc : decide (0 < q) = true := by simp [hq0]
        have hr0 : (0 : Int) ≤ (r : Int) := by omega
        have hr1 : (r : Int) < (q : Int) := by omega
        clear hr hcS
        by_cases ht : (k : Int) = torn
        · have htb : ((k : Int) == torn) = true := by simp [ht]
          have HT := Lib.hid ht
          clear ht
          have hmx := cutN_max bytes
          have hN := cutN_le bytes
          obtain ⟨N, hNe⟩ : ∃ N, cutN bytes = N := ⟨_, rfl⟩
          rw [hNe] at hmx hN
          have HNE := Lib.hid hNe
          clear hNe
          have hN0 : (0 : Int) ≤ (N : Int) := by omega
          have hN1 : (N : Int) ≤ (dt.size : Int) := by omega
          have hN2 : (N : Int) ≤ (old.size : Int) := by omega
          have HE : Hid (dt.extract 0 N ++ old.extract N old.size = tornB old dt bytes) := by unfold Hid; rw [tornB, HNE.out, HOS.out]
          have holdc : ((startTo sec loose stay torn bytes k).map Value.string)[a]? = some (.string old) := by rw [List.getElem?_map, HOLD.out]; rfl
          have HOC := Lib.hid holdc
          clear holdc
          go_wp2
          go_quiet (fail)
          go_wp2
          have kN : Bk ((wr.alloc (.cells #[.int .i64 (a : Int), .string dt] 48)).drewN nq) wr.heap.size 48 #[.int .i64 (a : Int), .string dt] := (Bk.new wr _ _).heap rfl
          have k0N : Bk ((wr.alloc (.cells #[.int .i64 (a : Int), .string dt] 48)).drewN nq) _ _ _ := k0A.heap rfl
          have k1N : Bk ((wr.alloc (.cells #[.int .i64 (a : Int), .string dt] 48)).drewN nq) _ _ _ := k1A.heap rfl
          have k2N : Bk ((wr.alloc (.cells #[.int .i64 (a : Int), .string dt] 48)).drewN nq) _ _ _ := k2A.heap rfl
          have ownN : ((wr.alloc (.cells #[.int .i64 (a : Int), .string dt] 48)).drewN nq).ownsRow _ _ _ _ _ _ := own_heap OWN.out rfl
          have hbN : Below w.heap.size w ((wr.alloc (.cells #[.int .i64 (a : Int), .string dt] 48)).drewN nq) := below_drewN hbA nq
          clear k0A k1A k2A OWN hbA k0 k1 k2 c10 c11 c12 c13 f10 e10 e11 e12 ef10 hy0 hy1 hcc hff
          generalize ((wr.alloc (.cells #[.int .i64 (a : Int), .string dt] 48)).drewN nq) = W1 at *
          have y2 : W1.cell? ⟨wr.heap.size, 0, none⟩ = some (.int .i64 (a : Int)) := kN.cell 0
          have y3 : W1.cell? ⟨wr.heap.size, 1, none⟩ = some (.string dt) := kN.cell 1
          have hcc := (ownN.cellAt a (by omega)).trans HOC.out
          have hff := ownN.frozenAt a
          have hst := (ownN.stored a (.string (tornB old dt bytes))).1
          rw [← HDT.out, startTo_torn sec loose stay torn bytes k hkl HT.out old a HAA.out HOLD.out, HDT.out] at hst
          have HST := Lib.hid hst
          clear hst ownN kN
          have hcat : ¬ (9223372036854775807 < min N dt.size + (old.size - N)) := by omega
          go_still_tail 16, (by kernel_rfl)
          change wpList _ _ _ _ _ W1.drew
          go_wp2
          rw [HE.out]
          go_roundw
          case rel => exact ⟨k + 1, by omega, by go_num, own_heap HST.out rfl, (k0N.far (p := ⟨g, a, none⟩) (by simp; omega) (.string (tornB old dt bytes))).heap rfl, (k1N.far (p := ⟨g, a, none⟩) (by simp; omega) (.string (tornB old dt bytes))).heap rfl, (k2N.far (p := ⟨g, a, none⟩) (by simp; omega) (.string (tornB old dt bytes))).heap rfl, below_heap (hbN.setCell (p := ⟨g, a, none⟩) (by simp; omega) (.string (tornB old dt bytes))) rfl rfl rfl rfl⟩
          case measure => simp [intOf]; omega
        · have htb : ((k : Int) == torn) = false := by simp [ht]
          have HT := Lib.hid ht
          clear ht
          cases sb with
          | false =>
            go_wp2
            go_quiet (fail)
            go_wp2
            go_roundw
            case rel => exact ⟨k + 1, by omega, by go_num, by rw [startTo_lost sec loose stay torn bytes k hkl HT.out HSB.out]; exact own_heap OWN.out rfl, k0A.heap rfl, k1A.heap rfl, k2A.heap rfl, below_heap hbA rfl rfl rfl rfl⟩
            case measure => simp [intOf]; omega
          | true =>
            have hst := (OWN.out.stored a (.string dt)).1
            rw [← HDT.out, startTo_stay sec loose stay torn bytes k hkl HT.out HSB.out a HAA.out, HDT.out] at hst
            have HST := Lib.hid hst
            clear hst
            go_wp2
            go_quiet (fail)
            go_wp2
            go_roundw
            case rel => exact ⟨k + 1, by omega, by go_num, own_heap HST.out rfl, (k0A.far (p := ⟨g, a, none⟩) (by simp; omega) (.string dt)).heap rfl, (k1A.far (p := ⟨g, a, none⟩) (by simp; omega) (.string dt)).heap rfl, (k2A.far (p := ⟨g, a, none⟩) (by simp; omega) (.string dt)).heap rfl, below_heap (hbA.setCell (p := ⟨g, a, none⟩) (by simp; omega) (.string dt)) rfl rfl rfl rfl⟩
            case measure => simp [intOf]; omega
    · obtain rfl : k = m := by omega
      obtain ⟨c10, c11, c12, c13, f10⟩ := k0.four
      obtain ⟨c14, c15, c16, c17, f11⟩ := k2.four
      have HBW := Lib.hid hbw
      have HOW := Lib.hid hown
      clear hbw hown hk hlt
      go_wp2
      refine bodyPost_ret (v := .agg #[.slice A' n c', .slice none 0 0, .bool false, .int .i64 (-1)]) (by simp [results, Try.results22, go_sem, c14, c15, c16, c17]) rfl ⟨A', c', rfl, ?_, ?_⟩
      · have q := HOW.out
        rw [← HM.out] at q
        have g2 := ownsRow_setCell_below q (a := ⟨w.heap.size + 1 + 1, 0, none⟩) (by simp) (.slice A' n c')
        have g3 := ownsRow_setCell_below g2 (a := ⟨w.heap.size + 1 + 1, 1, none⟩) (by simp) (.slice none 0 0)
        have g4 := ownsRow_setCell_below g3 (a := ⟨w.heap.size + 1 + 1, 2, none⟩) (by simp) (.bool false)
        have g5 := ownsRow_setCell_below g4 (a := ⟨w.heap.size + 1 + 1, 3, none⟩) (by simp) (.int .i64 (-1))
        exact ⟨Sl.own' g5, Ty.own g5⟩
      · exact (((HBW.out.setCell (p := ⟨w.heap.size + 1 + 1, 0, none⟩) (by simp; omega) _).setCell (p := ⟨w.heap.size + 1 + 1, 1, none⟩) (by simp; omega) _).setCell (p := ⟨w.heap.size + 1 + 1, 2, none⟩) (by simp; omega) _).setCell (p := ⟨w.heap.size + 1 + 1, 3, none⟩) (by simp; omega) _

theorem rstart_any (v u : Value) (D : Dk) (stay : List Bool) (torn bytes : Int) (w : World) (hv : IsDk w v D) (hD : D.ok) (hm : D.loose.length ≤ 100000) (hu : IsCut w u stay torn bytes) (hs : stay.length ≤ 1000000) :
    Calls Try.prog 22 #[v, u] w
      fun e w' => ∃ v', e = .returned v' ∧ IsDk w' v' (startD D stay torn bytes) ∧ Below w.heap.size w w' := by
  obtain ⟨A, c, B, d, rfl, hA, hB, tA, tB⟩ := hv
  obtain ⟨C, cc, rfl, hC⟩ := hu
  refine (rstart_raw A B C _ _ _ c d cc D.down D.left torn bytes D.sec D.loose stay w rfl rfl hm hD.few hs hD.sec hD.loose hA hB hC).mono fun e w' ⟨A', c', he, hsl, hb⟩ =>
    ⟨_, he, ⟨A', c', none, 0, by simp [startD, startTo_length], by simpa [startD, startTo_length] using hsl.1, Sl.nil _ _, by simpa [startD, startTo_length] using hsl.2, Ty.zero⟩, hb⟩

end Go.Proofs.Ythcfncpkeldapaa
