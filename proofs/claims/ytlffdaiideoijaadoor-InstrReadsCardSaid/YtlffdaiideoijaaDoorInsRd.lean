/-
  InstrReads, walked: true for every string and every number, in whatever memory that has the kinds' table.
-/
import Derived.Test.YtlffdaiideoijaaDoorInsH
import Derived.Test.YtlffdaiideoijaaDoorInsD
import Derived.Test.YtlffdaiideoijaaDoorKept
namespace Go.Proofs.YtlffdaiideoijaaDoor
open Go.RowKit

theorem Inss.apart {w : World} {B : Nat} {v : Value} {l : List Ins} (h : w.ownsRow B 26 3 v l.length (inssW l)) : ∃ A c, v = .slice A l.length c ∧ Inss w A c l := Inss.own h

set_option maxRecDepth 100000 in
set_option maxHeartbeats 8000000 in
theorem instrReads_main (s : ByteArray) (n : Int) (w : World) (hT : HasKinds w) (hs1 : s.size ≤ 1000) (hn1 : n ≤ 100) :
    Calls Tryd.prog 4 #[.string s, .int .i64 n] w fun e w' => e = .returned (.bool true) ∧ Below w.heap.size w w' := by
  have haw : Hid (∀ W, HasKinds W → Calls Tryd.prog 7 #[] W fun e w' => e = .returned (.bool true) ∧ Below W.heap.size W w') := Lib.hid (fun W h1 => awake6 W h1)
  have d1 : ¬ (1000 : Int) < (s.size : Int) := by omega
  have d2 : ¬ (100 : Int) < n := by omega
  have hs : s.size ≤ 4611686018427387904 := by omega
  have hkl := hT.lt
  obtain ⟨W0, hW0⟩ : ∃ W0, W0 = (w.alloc (.cells #[.string s, .int .i64 0, .bool false] 31)).alloc (.cells #[.string s, .int .i64 0, .bool false] 33) := ⟨_, rfl⟩
  have hsz0 : W0.heap.size = w.heap.size + 2 := by rw [hW0, World.size_alloc, World.size_alloc]
  have hB0 : Below w.heap.size w W0 := by rw [hW0]; exact ((Below.refl _ _).alloc (Nat.le_refl _) _).alloc (by rw [World.size_alloc]; omega) _
  have hka : Bk W0 w.heap.size 31 (frV s ⟨0, false⟩) := by rw [hW0]; exact (Bk.newF w _ _).alloc _
  have hkb : Bk W0 (w.heap.size + 1) 33 (frV s ⟨0, false⟩) := by
    rw [hW0]
    have := Bk.newF (w.alloc (.cells #[.string s, .int .i64 0, .bool false] 31)) 33 s
    rwa [World.size_alloc] at this
  have hT0 := hT.belowS hB0
  have hra := Lib.hid (read_any s n ⟨0, false⟩ w.heap.size W0 hka hs hT0 (by omega) (by omega))
  have hrb := Lib.hid (fun W hk => rread_any s n ⟨0, false⟩ (w.heap.size + 1) W hk hs (by omega))
  have hkb' := Lib.hid hkb
  have hB0' := Lib.hid hB0
  have hW0' := Lib.hid hW0
  have hT' := Lib.hid hT
  clear hka hkb hT0 hB0 hW0 hT hs hkl
  have hlen0 : ∀ l, (rdI s n.toNat ⟨0, false⟩ []).1 = some l → l.length ≤ 1099511627776 := fun l hl => by
    cases hR : rdI s n.toNat ⟨0, false⟩ [] with
    | mk o r =>
      rw [hR] at hl
      simp only at hl
      subst hl
      obtain ⟨l', h1, h2, -⟩ := rd_fine n.toNat 0 [] l r hR
      rw [h1, List.nil_append, h2]
      omega
  generalize rdI s n.toNat ⟨0, false⟩ [] = R at *
  obtain ⟨o, ra, rb⟩ := R
  have hlen : ∀ l, o = some l → l.length ≤ 1099511627776 := hlen0
  clear hlen0
  cases o with
  | none =>
    go_enter Tryd.func4, Tryd.ntmps4
    go_wp2_with (first
      | (go_at_call 12; rw [← hW0'.out]; go_must ((with_reducible refine hra.out.mono ?_); rintro e w1 ⟨hk1, hb1, rfl⟩; have K1 := Lib.hid hk1; have B1 := Lib.hid (hb1.below hB0'.out (Nat.le_refl _) (by omega)); have L1 := Lib.hid (hb1.bk hkb'.out (by omega)); clear hk1))
      | (go_at_call 13; go_must ((with_reducible refine (hrb.out w1 L1.out).mono ?_); rintro e w2 ⟨hk2, hb2, rfl⟩; have K2 := Lib.hid hk2; have B2 := Lib.hid (hb2.below B1.out (Nat.le_succ _) B1.out.size); have K3 := Lib.hid (hb2.bk K1.out (by omega)); clear hk2)))
    have hTW := Lib.hid (hT'.out.belowS B2.out)
    obtain ⟨-, u1, u2, -⟩ := K3.out.frs
    obtain ⟨-, v1, v2, -⟩ := K2.out.frs
    have r1 := KW.cell u1 K3.out.lt
    have r2 := KW.cell u2 K3.out.lt
    have r3 := KW.cell v1 K2.out.lt
    have r4 := KW.cell v2 K2.out.lt
    simp only at r1 r2 r3 r4
    clear u1 u2 v1 v2
    have hne : Nonempty (KW w2) := ⟨⟨w2, Below.refl _ _⟩⟩
    try simp only [List.append_eq, List.cons_append, List.nil_append]
    cases rb
    all_goals
      refine wp_region_kept w2 (Below.refl _ _) (by kernel_rfl) (by kernel_rfl) ?_
      repeat (go_big_quiet_step ((first
        | (go_at_call 7; with_reducible exact kept_of _ (haw.out _ (hTW.out.belowS (Subtype.property _))))
        | (go_at_call 14; with_reducible exact kept_of _ (same_none _)))))
      refine wpQuiet_nil ?_
      rintro _ ⟨wx, rfl⟩
      go_wp2
      go_ret
      exact ⟨rfl, bnext B2.out wx.2⟩
  | some l =>
    have hlN := hlen l rfl
    go_enter Tryd.func4, Tryd.ntmps4
    go_wp2_with (first
      | (go_at_call 12; rw [← hW0'.out]; go_must ((with_reducible refine hra.out.mono ?_); rintro e w1 ⟨hk1, hb1, va, rfl, hO1⟩; have K1 := Lib.hid hk1; have O1 := Lib.hid hO1; have B1 := Lib.hid (hb1.below hB0'.out (Nat.le_refl _) (by omega)); have L1 := Lib.hid (hb1.bk hkb'.out (by omega)); clear hk1 hO1))
      | (go_at_call 13; go_must ((with_reducible refine (hrb.out w1 L1.out).mono ?_); rintro e w2 ⟨hk2, hb2, vb, rfl, hO2⟩; have K2 := Lib.hid hk2; have B2 := Lib.hid (hb2.below B1.out (Nat.le_succ _) B1.out.size); have K3 := Lib.hid (hb2.bk K1.out (by omega)); obtain ⟨A1, c1, rfl, hI1⟩ := Inss.own (own_but O1.out hb2 (by omega)); obtain ⟨A2, c2, rfl, hI2⟩ := Inss.own hO2; have I1 := Lib.hid hI1; have I2 := Lib.hid hI2; clear hk2 hO2 hI1 hI2)))
    have hTW := Lib.hid (hT'.out.belowS B2.out)
    obtain ⟨-, u1, u2, -⟩ := K3.out.frs
    obtain ⟨-, v1, v2, -⟩ := K2.out.frs
    have r1 := KW.cell u1 K3.out.lt
    have r2 := KW.cell u2 K3.out.lt
    have r3 := KW.cell v1 K2.out.lt
    have r4 := KW.cell v2 K2.out.lt
    simp only at r1 r2 r3 r4
    clear O1
    clear u1 u2 v1 v2
    have hne : Nonempty (KW w2) := ⟨⟨w2, Below.refl _ _⟩⟩
    try simp only [List.append_eq, List.cons_append, List.nil_append]
    cases rb
    all_goals
      refine wp_region_kept w2 (Below.refl _ _) (by kernel_rfl) (by kernel_rfl) ?_
      repeat (go_big_quiet_step ((first
        | (go_at_call 7; with_reducible exact kept_of _ (haw.out _ (hTW.out.belowS (Subtype.property _))))
        | (go_at_call 14; with_reducible exact kept_of _ (sameI l A1 c1 A2 c2 _ (I1.out.below (Subtype.property _)) (I2.out.below (Subtype.property _)) hlN)))))
      refine wpQuiet_nil ?_
      rintro _ ⟨wx, rfl⟩
      go_wp2
      go_ret
      exact ⟨rfl, bnext B2.out wx.2⟩

theorem instrReads_walk (s : ByteArray) (n : Int) (w : World) (hT : HasKinds w) :
    Calls Tryd.prog 4 #[.string s, .int .i64 n] w fun e w' => e = .returned (.bool true) ∧ Below w.heap.size w w' := by
  have haw : Hid (∀ W, HasKinds W → Calls Tryd.prog 7 #[] W fun e w' => e = .returned (.bool true) ∧ Below W.heap.size W w') := Lib.hid (fun W h1 => awake6 W h1)
  by_cases h1 : s.size ≤ 1000
  · by_cases h2 : n ≤ 100
    · exact instrReads_main s n w hT h1 h2
    · have d1 : ¬ (1000 : Int) < (s.size : Int) := by omega
      have d2 : (100 : Int) < n := by omega
      have hT' := Lib.hid hT
      clear hT
      go_enter Tryd.func4, Tryd.ntmps4
      go_wp2_with (go_at_call 7; go_must ((with_reducible refine (haw.out w hT'.out).mono ?_); rintro e w1 ⟨rfl, hb1⟩))
      go_ret
      exact ⟨rfl, hb1⟩
  · have d1 : (1000 : Int) < (s.size : Int) := by omega
    have hT' := Lib.hid hT
    clear hT
    go_enter Tryd.func4, Tryd.ntmps4
    go_wp2_with (go_at_call 7; go_must ((with_reducible refine (haw.out w hT'.out).mono ?_); rintro e w1 ⟨rfl, hb1⟩))
    go_ret
    exact ⟨rfl, hb1⟩

end Go.Proofs.YtlffdaiideoijaaDoor
