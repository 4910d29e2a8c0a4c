/-
  InstrBack, walked: true for every list of instructions and every string, in whatever memory that has the kinds' table.
-/
import Derived.Test.YtlffdaiideoijaaDoorInsSz
import Derived.Test.YtlffdaiideoijaaDoorKept
namespace Go.Proofs.YtlffdaiideoijaaDoor
open Go.RowKit

theorem stands_fit {s : ByteArray} {l : List Nat} (h : StandsL s 0 l) : l.length ≤ s.size := by
  rcases Nat.lt_or_ge s.size l.length with hlt | hge
  · have := h s.size hlt
    rw [Nat.zero_add, List.getElem?_eq_none (by rw [bL_length]; exact Nat.le_refl _), List.getElem?_eq_getElem hlt] at this
    cases this
  · exact hge

theorem stands_take {s : ByteArray} {l : List Nat} (h : StandsL s 0 l) : s.extract 0 l.length = strL l := by
  have hf := stands_fit h
  have h1 : (bL s).take l.length = l := by
    apply List.ext_getElem?
    intro j
    rw [List.getElem?_take]
    by_cases hj : j < l.length
    · rw [if_pos hj]
      have := h j hj
      rwa [Nat.zero_add] at this
    · rw [if_neg hj, List.getElem?_eq_none (by omega)]
  have h2 : strL ((bL s).take l.length) = s.extract 0 l.length := by
    apply ByteArray.ext
    apply Array.ext'
    simp only [strL, bL, List.map_take, List.map_map, ByteArray.data_extract, Array.toList_extract]
    have hid : s.data.toList.map (UInt8.ofNat ∘ fun x : UInt8 => x.toNat) = s.data.toList := by
      conv => rhs; rw [← List.map_id s.data.toList]
      apply List.map_congr_left
      intro x _
      simp
    rw [hid]
    simp
  rw [← h2, h1]

set_option maxRecDepth 100000 in
set_option maxHeartbeats 16000000 in
theorem instrBack_main (l : List Ins) (A : Option Addr) (c : Nat) (s : ByteArray) (w : World) (h : Inss w A c l) (hR : ∀ x ∈ l, inI x) (hT : HasKinds w) (h100 : l.length ≤ 100) (h500 : s.size ≤ 500) :
    Calls Tryd.prog 5 #[.slice A l.length c, .string s] w fun e w' => e = .returned (.bool true) ∧ Below w.heap.size w w' := by
  have haw : Hid (∀ W, HasKinds W → Calls Tryd.prog 7 #[] W fun e w' => e = .returned (.bool true) ∧ Below W.heap.size W w') := Lib.hid (fun W h1 => awake6 W h1)
  have d1 : ¬ (100 : Int) < (l.length : Int) := by omega
  have d2 : ¬ (500 : Int) < (s.size : Int) := by omega
  have hs : s.size ≤ 4611686018427387904 := by omega
  have hkl := hT.lt
  have hT' := Lib.hid hT
  have h' := Lib.hid h
  have hR' := Lib.hid hR
  have hcap := h.2.1
  obtain ⟨N, hN⟩ : ∃ N, N = l.length := ⟨_, rfl⟩
  have hN' := Lib.hid hN
  rw [← hN] at d1 hcap h100 ⊢
  clear h hR hT hN
  go_enter Tryd.func5, Tryd.ntmps5
  go_wp2
  go_loopw [5] (fun cc wr => ∃ n : Nat, n ≤ 6 ∧ cc = .int .i64 n ∧ Below w.heap.size w wr) (fun cc _ => 6 - (intOf cc).toNat)
  case atStart => exact ⟨0, Nat.zero_le _, rfl, Below.refl _ _⟩
  case round =>
    obtain ⟨n, hn, rfl, hb⟩ := hrel
    by_cases hlt : n < 6
    · have d3 : (n : Int) < 6 := by omega
      have hszr := hb.size
      have hbW : Below wr.heap.size wr (wr.alloc (.cells #[.string s, .int .i64 0, .bool false] 31)) := (Below.refl _ _).alloc (Nat.le_refl _) _
      have hrd := Lib.hid (read_any s n ⟨0, false⟩ wr.heap.size _ (Bk.newF wr 31 s) hs ((hT'.out.belowS hb).belowS hbW) (by omega) (by omega))
      have hfine : Hid (∀ m r, rdI s n ⟨0, false⟩ [] = (some m, r) → m.length = n ∧ (∀ x ∈ m, rightN x ∧ inI x) ∧ StandsL s 0 (printN m) ∧ r = ⟨((printN m).length : Nat), false⟩) := Lib.hid (fun m r hm => by
        obtain ⟨l', e, h2, h3, h4, h5⟩ := rd_fine n 0 [] m r hm
        rw [List.nil_append] at e
        subst e
        rw [Nat.zero_add] at h5
        exact ⟨h2, h3, h4, h5⟩)
      rw [Int.toNat_natCast] at hrd
      generalize rdI s n ⟨0, false⟩ [] = R at *
      obtain ⟨o, r⟩ := R
      cases o with
      | none =>
        clear hfine hbW
        go_wp2_with (go_at_call 12; go_must ((with_reducible refine hrd.out.mono ?_); rintro e w1 ⟨hk1, hb1, rfl⟩; have B1 := Lib.hid (bnext hb (new_reader hb1)); clear hk1 hb1))
        have hne : Nonempty (KW w1) := ⟨⟨w1, Below.refl _ _⟩⟩
        try simp only [List.append_eq, List.cons_append, List.nil_append]
        refine wp_region_kept w1 (Below.refl _ _) (by kernel_rfl) (by kernel_rfl) ?_
        repeat (go_big_quiet_step (fail))
        refine wpQuiet_nil ?_
        rintro _ ⟨wx, rfl⟩
        go_wp2
        go_roundw
        case rel => exact ⟨n + 1, by omega, by go_num, bnext B1.out wx.2⟩
        case measure => simp [intOf]; omega
      | some m =>
        obtain ⟨q1, q2, q3, rfl⟩ := hfine.out m r rfl
        have hpr := Lib.hid (fun A c W hW hK => print_any m (fun x hx => (q2 x hx).1) A c W hW (by omega) hK)
        have hm100 : m.length ≤ 100 := by omega
        have hle := printN_le m
        have hfit : (printN m).length ≤ s.size := stands_fit q3
        have hsl : s.extract 0 (printN m).length = strL (printN m) := stands_take q3
        have hP : (strL (printN m)).size = (printN m).length := strL_size _
        clear hfine hbW q2 q3
        subst q1
        generalize strL (printN m) = P at *
        generalize (printN m).length = k at *
        go_wp2_with (go_at_call 12; go_must ((with_reducible refine hrd.out.mono ?_); rintro e w1 ⟨hk1, hb1, v1, rfl, hO1⟩; obtain ⟨A1, c1, rfl, hI1⟩ := Inss.own hO1; have I1 := Lib.hid hI1; have K1 := Lib.hid hk1; have B1 := Lib.hid (bnext hb (new_reader hb1)); clear hk1 hb1 hI1 hO1))
        have hne : Nonempty (KW w1) := ⟨⟨w1, Below.refl _ _⟩⟩
        obtain ⟨-, u1, u2, -⟩ := K1.out.frs
        have r1 := KW.cell u1 K1.out.lt
        simp only at r1
        clear u1 u2
        have hTW := Lib.hid (hT'.out.belowS B1.out)
        try simp only [List.append_eq, List.cons_append, List.nil_append]
        refine wp_region_kept w1 (Below.refl _ _) (by kernel_rfl) (by kernel_rfl) ?_
        repeat (go_big_quiet_step ((first | (go_at_call 10; with_reducible exact kept_of _ (hpr.out A1 c1 _ (I1.out.below (Subtype.property _)) (hTW.out.belowS (Subtype.property _)))))))
        refine wpQuiet_nil ?_
        rintro _ ⟨wx, rfl⟩
        go_wp2
        go_roundw
        case rel => exact ⟨m.length + 1, by omega, by go_num, bnext B1.out wx.2⟩
        case measure => simp [intOf]; omega
    · obtain rfl : n = 6 := by omega
      have d3 : ¬ (6 : Int) < 6 := by omega
      obtain ⟨wo, rfl⟩ : ∃ wo : World, wo = wr := ⟨_, rfl⟩
      clear hn hlt
      go_wp2
      go_loopw [9] (fun cc wi => ∃ i : Nat, i ≤ N ∧ cc = .int .i64 i ∧ Below w.heap.size w wi ∧ Hid (∀ j, j < i → rightN (insAt l j))) (fun cc _ => N - (intOf cc).toNat)
      case atStart => exact ⟨0, Nat.zero_le _, rfl, hb, Lib.hid (fun j h => by omega)⟩
      case round =>
        clear hb
        obtain ⟨i, hi, rfl, hb, HR⟩ := hrel
        by_cases hlt : i < N
        · have d4 : (i : Int) < (N : Int) := by omega
          have d5 : (i : Int) < (c : Int) := by omega
          obtain ⟨b, off, rfl, hbl, x0, x1, x2⟩ := (h'.out.below hb).cellAt (j := i) (by rw [← hN'.out]; exact hlt)
          cases hr : decide (rightN (insAt l i)) with
          | true =>
            have hri := Lib.hid (right_any (insAt l i) true hr wr (hT'.out.belowS hb))
            have HR2 : Hid (∀ j, j < i + 1 → rightN (insAt l j)) := Lib.hid (fun j hj => by
              rcases Nat.lt_or_eq_of_le (Nat.le_of_lt_succ hj) with q | q
              · exact HR.out j q
              · subst q; simpa using hr)
            generalize insAt l i = x at *
            clear hr
            go_wp2_with (go_at_call 8; go_must ((with_reducible refine hri.out.mono ?_); rintro e w1 ⟨rfl, hb1⟩))
            go_roundw
            case rel => exact ⟨i + 1, by omega, by go_num, bnext hb hb1, HR2⟩
            case measure => simp [intOf]; omega
          | false =>
            have hri := Lib.hid (right_any (insAt l i) false hr wr (hT'.out.belowS hb))
            generalize insAt l i = x at *
            clear hr
            go_wp2_with (first
              | (go_at_call 8; go_must ((with_reducible refine hri.out.mono ?_); rintro e w1 ⟨rfl, hb1⟩; have B1 := Lib.hid (bnext hb hb1)))
              | (go_at_call 7; go_must ((with_reducible refine (haw.out w1 (hT'.out.belowS B1.out)).mono ?_); rintro e w3 ⟨rfl, hb3⟩)))
            go_ret
            exact ⟨rfl, bnext B1.out hb3⟩
        · obtain rfl : i = N := by omega
          have d4 : ¬ (i : Int) < (i : Int) := by omega
          have hright : ∀ x ∈ l, rightN x := insAt_all (fun j hj => HR.out j (by rw [hN'.out]; exact hj))
          have hpr := Lib.hid (fun W hW hK => print_any l hright A c W hW (by rw [← hN'.out]; omega) hK)
          have hrb : rdI (strL (printN l)) (i : Int).toNat ⟨0, false⟩ [] = (some l, ⟨((printN l).length : Nat), false⟩) := by
            rw [Int.toNat_natCast, hN'.out]
            have := rd_back (s := strL (printN l)) l 0 [] (fun x hx => ⟨hright x hx, hR'.out x hx⟩) (fun k hk => by rw [bL_strL _ (printN_lt hright), Nat.zero_add])
            rw [List.nil_append, Nat.zero_add] at this
            exact this
          have hPs : (strL (printN l)).size ≤ 4611686018427387904 := by
            have := printN_le l
            rw [strL_size]
            have := hN'.out
            omega
          have hry := Lib.hid (fun g W hk hW hg => read_yes (strL (printN l)) i ⟨0, false⟩ _ l hrb g W hk hPs hW hg (by omega))
          have hsm := Lib.hid (fun B d W h1 h2 => sameI l A c B d W h1 h2 (by rw [← hN'.out]; omega))
          rw [← hN'.out] at hpr hsm
          have hry2 : Hid (∀ g W, Bk W g 31 (frV (strL (printN l)) ⟨0, false⟩) → HasKinds W → 0 ≠ g → Calls Tryd.prog 12 #[.pointer (some ⟨g, 0, none⟩), .int .i64 (i : Nat)] W fun e w' => ∃ A c, e = .returned (.tuple #[.slice A i c, .bool true]) ∧ Inss w' A c l ∧ But g W w') := Lib.hid (fun g W hk hW hg => (hry.out g W hk hW hg).mono (fun e w' ⟨A2, c2, he, hi, _, hb2⟩ => ⟨A2, c2, by rw [he, hN'.out], hi, hb2⟩))
          have hszb := hb.size
          generalize strL (printN l) = P at *
          clear hright hrb hPs hry
          go_wp2_with (first
            | (go_at_call 10; go_must ((with_reducible refine (hpr.out wr (h'.out.below hb) (hT'.out.belowS hb)).mono ?_); rintro e w2 ⟨rfl, hb2⟩; have B2 := Lib.hid (bnext hb hb2); have hsz2 := hb2.size))
            | (go_at_call 12; go_must ((with_reducible refine (hry2.out w2.heap.size _ (Bk.newF w2 _ _) (hT'.out.belowS (bnext B2.out ((Below.refl _ _).alloc (Nat.le_refl _) _))) (by omega)).mono ?_); rintro e w3 ⟨A3, c3, rfl, hi3, hb3⟩; have B3 := Lib.hid (bnext B2.out (new_reader hb3)); have I3 := Lib.hid hi3; clear hi3 hb3))
            | (go_at_call 7; go_must ((with_reducible refine (haw.out w3 (hT'.out.belowS B3.out)).mono ?_); rintro e w4 ⟨rfl, hb4⟩; have B4 := Lib.hid (bnext B3.out hb4); have I4 := Lib.hid (I3.out.below hb4)))
            | (go_at_call 14; go_must ((with_reducible refine (hsm.out A3 c3 w4 (h'.out.below B4.out) I4.out).mono ?_); rintro e w5 ⟨rfl, hb5⟩)))
          go_ret
          exact ⟨rfl, bnext B4.out hb5⟩

theorem instrBack_walk (l : List Ins) (A : Option Addr) (c : Nat) (s : ByteArray) (w : World) (h : Inss w A c l) (hz : l.length ≤ 9223372036854775807) (hR : ∀ x ∈ l, inI x) (hT : HasKinds w) :
    Calls Tryd.prog 5 #[.slice A l.length c, .string s] w fun e w' => e = .returned (.bool true) ∧ Below w.heap.size w w' := by
  have haw : Hid (∀ W, HasKinds W → Calls Tryd.prog 7 #[] W fun e w' => e = .returned (.bool true) ∧ Below W.heap.size W w') := Lib.hid (fun W h1 => awake6 W h1)
  by_cases h1 : l.length ≤ 100
  · by_cases h2 : s.size ≤ 500
    · exact instrBack_main l A c s w h hR hT h1 h2
    · have d1 : ¬ (100 : Int) < (l.length : Int) := by omega
      have d2 : (500 : Int) < (s.size : Int) := by omega
      have hT' := Lib.hid hT
      clear hT h hR
      generalize l.length = N at *
      go_enter Tryd.func5, Tryd.ntmps5
      go_wp2_with (go_at_call 7; go_must ((with_reducible refine (haw.out w hT'.out).mono ?_); rintro e w1 ⟨rfl, hb1⟩))
      go_ret
      exact ⟨rfl, hb1⟩
  · have d1 : (100 : Int) < (l.length : Int) := by omega
    have hT' := Lib.hid hT
    clear hT h hR
    generalize l.length = N at *
    go_enter Tryd.func5, Tryd.ntmps5
    go_wp2_with (go_at_call 7; go_must ((with_reducible refine (haw.out w hT'.out).mono ?_); rintro e w1 ⟨rfl, hb1⟩))
    go_ret
    exact ⟨rfl, hb1⟩

end Go.Proofs.YtlffdaiideoijaaDoor
