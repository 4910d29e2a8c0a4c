/-
  What slices.Clone (of strings) and sector.Flush answer, for every device in memory that is as the calls make it, with at most 100000 loose writes.
-/
import Derived.Test.YthcfncpkeldapaaSecD
namespace Go.Proofs.Ythcfncpkeldapaa
open Go.RowKit

set_option maxHeartbeats 400000 in
theorem clone_any (A : Option Addr) (n c : Nat) (xs : List Value) (w : World) (hA : Sl w 1 A n c xs) (hn : n ≤ 4096) (h1 : ∀ u ∈ xs, u.oneCell' = true) :
    Calls Try.prog 34 #[.slice A n c] w
      fun e w' => ∃ A' c', e = .returned (.slice A' n c') ∧ w'.ownsRow w.heap.size 9 1 (.slice A' n c') n xs ∧ Below w.heap.size w w' := by
  obtain ⟨i0, hi, hz0, hz1, hz2⟩ := info_parts Try.infoS
  have HA := Lib.hid hA
  have H1 := Lib.hid h1
  clear hA h1
  cases A with
  | none =>
    obtain ⟨rfl, rfl⟩ := HA.out.2.2.1 rfl
    have hq := Lib.run_eql_slice_nil (P := Try.prog) w 25 9 none 0 0 0 0 Try.underlying25
    go_enter Try.func34, Try.ntmps34
    go_wp2
    go_ret
    refine ⟨none, 0, rfl, ?_, Below.refl _ _⟩
    have := HA.out.1
    exact ⟨this, .inl ⟨rfl, rfl⟩⟩
  | some a =>
    have hq := Lib.run_eql_slice_nil (P := Try.prog) w 25 9 (some a) n c 0 0 Try.underlying25
    go_enter Try.func34, Try.ntmps34
    go_wp2_with (at_builtin; go_must (refine wpList_append_own _ rfl (.tmp 5) (.tmp 6) _ rfl w.heap.size 9 i0 _ 1 16 Try.underlying25 hi hz0 hz1 hz2 rfl (by decide) _ 0 [] rfl (World.ownsRow_lit w #[] 0 (Nat.le_refl _) (by decide) rfl) a n c xs rfl HA.out.1 ((HA.out.alloc _).olds a rfl) H1.out (by unfold maxLen; omega) (by omega) (by simp) ?_; intro v' w1 hown hg hnil))
    obtain ⟨A', c', rfl, hsl⟩ := Sl.own hown
    simp only [Nat.zero_add, List.nil_append] at hown
    go_wp2
    go_ret
    exact ⟨A', c', by simp, hown, ((Below.refl _ _).alloc (Nat.le_refl _) _).grown hg (by simp) (fun k hk => by
      have hk' : (Value.slice (some ⟨w.heap.size, 0, none⟩) 0 0).ownBlock = some k := hk
      simp [Value.ownBlock] at hk'
      omega)⟩

/-- Writes that are done, in order. -/
def applyW (s : List ByteArray) (l : List (Int × ByteArray)) : List ByteArray := l.foldl (fun s x => s.set x.1.toNat x.2) s

theorem applyW_length (l : List (Int × ByteArray)) : ∀ s, (applyW s l).length = s.length := by
  induction l with
  | nil => intro s; rfl
  | cons x l ih => intro s; simpa [applyW] using ih (s.set x.1.toNat x.2)

theorem applyW_step (s : List ByteArray) (l : List (Int × ByteArray)) (i : Nat) (h : i < l.length) :
    ((applyW s (l.take i)).map Value.string).set (l[i]).1.toNat (.string (l[i]).2) = (applyW s (l.take (i + 1))).map Value.string := by
  have e : applyW s (l.take (i + 1)) = (applyW s (l.take i)).set (l[i]).1.toNat (l[i]).2 := by
    rw [List.take_succ_eq_append_getElem h]
    unfold applyW
    rw [List.foldl_append]
    rfl
  rw [e, List.map_set]

theorem str_one (l : List ByteArray) : ∀ u ∈ l.map Value.string, u.oneCell' = true := by
  intro u hu
  obtain ⟨x, _, rfl⟩ := List.mem_map.1 hu
  rfl

theorem own_some {w : World} {base : Nat} {e : TypeId} {size n : Nat} {A : Option Addr} {c : Nat} {xs : List Value} (h : w.ownsRow base e size (.slice A n c) n xs) (hn : 0 < n) :
    ∃ g, A = some ⟨g, 0, none⟩ ∧ base ≤ g := by
  rcases h.2 with ⟨h', h0⟩ | ⟨g, cap, cur, h', hb, _⟩
  · omega
  · injection h' with h1
    exact ⟨g, h1, hb⟩

set_option maxHeartbeats 2000000 in
theorem flush_yes (A B : Option Addr) (n m c d : Nat) (lf : Int) (sec : List ByteArray) (loose : List (Int × ByteArray)) (w : World) (hn1 : sec.length = n) (hm1 : loose.length = m) (hm : m ≤ 100000) (hn : n ≤ 4096)
    (hlo : ∀ x ∈ loose, 0 ≤ x.1 ∧ x.1 < n) (hl : lf ≠ 0) (hu : lf ≤ 9223372036854775807)
    (hA : Sl w 1 A n c (sec.map Value.string)) (hB : Sl w 2 B m d (wrow loose)) :
    Calls Try.prog 17 #[.agg #[.slice A n c, .slice B m d, .bool false, .int .i64 lf]] w
      fun e w' => ∃ A' c', e = .returned (.tuple #[.agg #[.slice A' n c', .slice none 0 0, .bool false, .int .i64 (leftD lf)], .int .i64 0]) ∧
        (Sl w' 1 A' n c' ((applyW sec loose).map Value.string) ∧ Ty w' 9 A' n) ∧ Below w.heap.size w w' := by
  have HL := Lib.hid hl
  have HA := Lib.hid hA
  have HB := Lib.hid hB
  have HLO := Lib.hid hlo
  have HN := Lib.hid hn1
  have HM := Lib.hid hm1
  clear hl hA hB hlo hn1 hm1
  go_enter Try.func17, Try.ntmps17
  go_wp2_with (first
    | (go_at_call 31; go_must (refine (deed_yes _ _ _ _ _ _ _ _ HL.out hu).mono ?_; rintro e w1 ⟨rfl, hb1⟩; have k0 := ((Bk.new w _ _).alloc _).below hb1; have k1 := (Bk.new _ _ _).below hb1; simp only [World.size_alloc] at k1; obtain ⟨c10, c11, c12, c13, f10⟩ := k0.four; obtain ⟨c14, c15, c16, c17, f11⟩ := k1.four))
    | (go_at_call 34; go_must (refine (clone_any _ _ _ _ _ (HA.out.below (put_b1 hb1 (Below.refl _ _) (Below.refl _ _))) hn (str_one _)).mono ?_; rintro e w2 ⟨A', c', rfl, hown0, hb2⟩; have k2 := ((((k0.set 0 _).set 1 _).set 2 _).set 3 _).below hb2; have k3 := ((((k1.far (by simp) _).far (by simp) _).far (by simp) _).far (by simp) _).below hb2; have hbw := put_b1 hb1 (Below.refl _ _) hb2; obtain ⟨c20, c21, c22, c23, f20⟩ := k2.four; obtain ⟨c24, c25, c26, c27, f21⟩ := k3.four; clear c10 c11 c12 c13 c14 c15 c16 c17 f10 f11))
    | fail)
  obtain ⟨β, hβ, hown⟩ : ∃ β, w.heap.size + 2 ≤ β ∧ w2.ownsRow β 9 1 (.slice A' n c') n (sec.map Value.string) := ⟨_, by have := k1.lt; simp; omega, hown0⟩
  clear hown0 k0 k1 hb1 hb2 c20 c21 c22 c23 c24 c25 c26 c27 f20 f21
  go_loopw [23] (fun i wr => ∃ k : Nat, k ≤ m ∧ i = .int .i64 k ∧ wr.ownsRow β 9 1 (.slice A' n c') n ((applyW sec (loose.take k)).map Value.string) ∧
      Bk wr w.heap.size 28 #[.slice A n c, .slice B m d, .bool false, .int .i64 (leftD lf)] ∧ Bk wr (w.heap.size + 1) 28 #[.slice none 0 0, .slice none 0 0, .bool false, .int .i64 0] ∧ Below w.heap.size w wr)
    (fun i _ => m - (intOf i).toNat)
  case atStart => exact ⟨0, Nat.zero_le _, rfl, by simpa [applyW] using hown, k2, k3, hbw⟩
  case round =>
    clear hown k2 k3 hbw
    obtain ⟨k, hk, rfl, hown, k0, k1, hbw⟩ := hrel
    by_cases hlt : k < m
    · have hkl : k < loose.length := by rw [HM.out]; exact hlt
      obtain ⟨hx0, hx1⟩ := HLO.out _ (List.getElem_mem hkl)
      obtain ⟨a, ha⟩ := Int.eq_ofNat_of_zero_le hx0
      obtain ⟨b, off, rfl, hbl, hcell⟩ := HB.out.2.2.2 (by omega)
      have han : a < n := by omega
      obtain ⟨g, rfl, hg⟩ := own_some hown (by omega)
      have hy0 : wr.cell? ⟨b, off + k * 2, none⟩ = some (.int .i64 (a : Int)) := by
        rw [hbw.cell (p := ⟨b, off + k * 2, none⟩) hbl, hcell _ (by omega), wrow_at0 _ _ hkl, ha]
      obtain ⟨dt, hdt⟩ : ∃ dt, (loose[k]).2 = dt := ⟨_, rfl⟩
      have hy1 : wr.cell? ⟨b, off + k * 2 + 1, none⟩ = some (.string dt) := by
        rw [hbw.cell (p := ⟨b, off + k * 2 + 1, none⟩) hbl, Nat.add_assoc, hcell _ (by omega), wrow_at1 _ _ hkl, hdt]
      have hstep := Lib.hid (applyW_step sec loose k hkl)
      have HAA := Lib.hid ha
      have HDT := Lib.hid hdt
      have hbS := hbw.size
      have hb1 : b < wr.heap.size := by omega
      obtain ⟨c10, c11, c12, c13, f10⟩ := k0.four
      have l0 : w.heap.size < wr.heap.size := k0.lt
      clear hx0 hx1 ha hdt hcell
      go_wp2_with (go_at_call 30; go_must (refine (has_yes _ _ _ _ _ _ _ _ _ _ (by omega) (by omega)).mono ?_; rintro e w3 ⟨rfl, hb3⟩; have k2 := (k0.alloc _).below hb3; have k3 := (k1.alloc _).below hb3; have k4 := (Bk.new wr 48 #[.int .i64 (a : Int), .string dt]).below hb3; have hy2 : w3.cell? ⟨wr.heap.size, 0, none⟩ = some (.int .i64 (a : Int)) := k4.cell 0; have hy3 : w3.cell? ⟨wr.heap.size, 1, none⟩ = some (.string dt) := k4.cell 1; have hown3 := own_below (hown.alloc _) hb3; have hcc := hown3.cellAt a (by omega); rw [List.getElem?_eq_getElem (by simp [applyW_length]; rw [HN.out]; omega)] at hcc; have hff := hown3.frozenAt a))
      have hst := (hown3.stored a (.string dt)).1
      have hs2 := hstep.out
      rw [HAA.out, HDT.out, Int.toNat_natCast] at hs2
      rw [hs2] at hst
      go_roundw
      case rel => exact ⟨k + 1, by omega, by go_num, hst, k2.far (by simp; omega) _, k3.far (by simp; omega) _, (bnext (hbw.alloc hbS _) hb3).setCell (by simp; omega) _⟩
      case measure => simp [intOf]; omega
    · obtain rfl : k = m := by omega
      obtain ⟨c10, c11, c12, c13, f10⟩ := k0.four
      obtain ⟨c14, c15, c16, c17, f11⟩ := k1.four
      have HBW := Lib.hid hbw
      have HOW := Lib.hid hown
      clear hbw hown hk hlt
      go_wp2
      refine bodyPost_ret (v := .tuple #[.agg #[.slice A' n c', .slice none 0 0, .bool false, .int .i64 (leftD lf)], .int .i64 0]) (by simp [results, Try.results17, go_sem, c14, c15, c16, c17]) rfl ⟨A', c', rfl, ?_, ?_⟩
      · have q := HOW.out
        rw [← HM.out, List.take_length] at q
        have g0 := ownsRow_setCell_below q (a := ⟨w.heap.size, 0, none⟩) (by simp; omega) (.slice A' n c')
        have g1 := ownsRow_setCell_below g0 (a := ⟨w.heap.size, 1, none⟩) (by simp; omega) (.slice none 0 0)
        have g2 := ownsRow_setCell_below g1 (a := ⟨w.heap.size + 1, 0, none⟩) (by simp; omega) (.slice A' n c')
        have g3 := ownsRow_setCell_below g2 (a := ⟨w.heap.size + 1, 1, none⟩) (by simp; omega) (.slice none 0 0)
        have g4 := ownsRow_setCell_below g3 (a := ⟨w.heap.size + 1, 2, none⟩) (by simp; omega) (.bool false)
        have g5 := ownsRow_setCell_below g4 (a := ⟨w.heap.size + 1, 3, none⟩) (by simp; omega) (.int .i64 (leftD lf))
        exact ⟨Sl.own' g5, Ty.own g5⟩
      · have b5 := (HBW.out.setCell (p := ⟨w.heap.size, 0, none⟩) (Nat.le_refl _) (.slice A' n c')).setCell (p := ⟨w.heap.size, 1, none⟩) (Nat.le_refl _) (.slice none 0 0)
        exact (((b5.setCell (p := ⟨w.heap.size + 1, 0, none⟩) (Nat.le_succ _) _).setCell (p := ⟨w.heap.size + 1, 1, none⟩) (Nat.le_succ _) _).setCell (p := ⟨w.heap.size + 1, 2, none⟩) (Nat.le_succ _) _).setCell (p := ⟨w.heap.size + 1, 3, none⟩) (Nat.le_succ _) _

set_option maxHeartbeats 1000000 in
theorem flush_no (A B : Option Addr) (n c m d : Nat) (dn : Bool) (lf : Int) (w : World) (h : dn = true ∨ lf = 0) :
    Calls Try.prog 17 #[.agg #[.slice A n c, .slice B m d, .bool dn, .int .i64 lf]] w
      fun e w' => e = .returned (.tuple #[.agg #[.slice A n c, .slice B m d, .bool true, .int .i64 lf], .int .i64 17]) ∧ Below w.heap.size w w' := by
  have H := Lib.hid h
  clear h
  go_enter Try.func17, Try.ntmps17
  go_wp2_with (first
    | (go_at_call 31; go_must (refine (deed_no _ _ _ _ _ _ _ _ _ H.out).mono ?_; rintro e w1 ⟨rfl, hb1⟩; have k0 := ((Bk.new w _ _).alloc _).below hb1; have k1 := (Bk.new _ _ _).below hb1; simp only [World.size_alloc] at k1; obtain ⟨c10, c11, c12, c13, f10⟩ := k0.four; obtain ⟨c14, c15, c16, c17, f11⟩ := k1.four))
    | fail)
  refine bodyPost_ret (v := .tuple #[.agg #[.slice A n c, .slice B m d, .bool true, .int .i64 lf], .int .i64 17]) (by simp [results, Try.results17, go_sem, c14, c15, c16, c17]) rfl ⟨rfl, ?_⟩
  have b5 := put_b1 (x0 := .slice A n c) (x1 := .slice B m d) (x2 := .bool true) (x3 := .int .i64 lf) hb1 (Below.refl _ _) (Below.refl _ _)
  exact (((b5.setCell (p := ⟨w.heap.size + 1, 0, none⟩) (Nat.le_succ _) _).setCell (p := ⟨w.heap.size + 1, 1, none⟩) (Nat.le_succ _) _).setCell (p := ⟨w.heap.size + 1, 2, none⟩) (Nat.le_succ _) _).setCell (p := ⟨w.heap.size + 1, 3, none⟩) (Nat.le_succ _) _

/-- Flush, as the document has it. -/
def flushD (D : Dk) : Dk × Int :=
  if D.down = true ∨ D.left = 0 then ({ D with down := true }, 17)
  else ({ D with sec := applyW D.sec D.loose, loose := [], left := leftD D.left }, 0)

theorem Sl.nil (w : World) (size : Nat) : Sl w size none 0 0 [] := ⟨by simp, Nat.le_refl _, fun _ => ⟨rfl, rfl⟩, fun h => absurd h (by omega)⟩

theorem flush_any (v : Value) (D : Dk) (w : World) (hv : IsDk w v D) (hD : D.ok) (hm : D.loose.length ≤ 100000) :
    Calls Try.prog 17 #[v] w
      fun e w' => ∃ v', e = .returned (.tuple #[v', .int .i64 (flushD D).2]) ∧ IsDk w' v' (flushD D).1 ∧ Below w.heap.size w w' := by
  obtain ⟨A, c, B, d, rfl, hA, hB, tA, tB⟩ := hv
  by_cases h3 : D.down = true ∨ D.left = 0
  · rw [show flushD D = ({ D with down := true }, 17) by rw [flushD, if_pos h3]]
    exact (flush_no A B _ c _ d D.down D.left w h3).mono fun e w' ⟨he, hb⟩ => ⟨_, he, ⟨A, c, B, d, rfl, hA.below hb, hB.below hb, tA.below hb, tB.below hb⟩, hb⟩
  · rw [show flushD D = ({ D with sec := applyW D.sec D.loose, loose := [], left := leftD D.left }, 0) by rw [flushD, if_neg h3]]
    have hdn : D.down = false := by cases h : D.down <;> simp_all
    rw [hdn]
    refine (flush_yes A B _ _ c d D.left D.sec D.loose w rfl rfl hm hD.few (fun x hx => ⟨(hD.loose x hx).1, (hD.loose x hx).2.1⟩) (by simp_all) hD.left1 hA hB).mono fun e w' ⟨A', c', he, hs, hb⟩ =>
      ⟨_, he, ⟨A', c', none, 0, by simp [applyW_length], by simpa [applyW_length] using hs.1, Sl.nil _ _, by simpa [applyW_length] using hs.2, Ty.zero⟩, hb⟩

theorem applyW_ok (P : ByteArray → Prop) (l : List (Int × ByteArray)) : ∀ s, (∀ x ∈ s, P x) → (∀ x ∈ l, P x.2) → ∀ x ∈ applyW s l, P x := by
  induction l with
  | nil => intro s hs _; exact hs
  | cons y l ih =>
    intro s hs hl
    refine ih (s.set y.1.toNat y.2) (fun x hx => ?_) (fun x hx => hl x (by simp [hx]))
    rcases List.mem_or_eq_of_mem_set hx with hx | rfl
    · exact hs x hx
    · exact hl y (by simp)

theorem flushD_ok (D : Dk) (hD : D.ok) : (flushD D).1.ok := by
  unfold flushD
  split
  · exact ⟨hD.few, hD.sec, hD.loose, hD.left0, hD.left1⟩
  · refine ⟨by simpa [applyW_length] using hD.few, ?_, by simp, ?_, ?_⟩
    · exact applyW_ok (fun s => s.size = 128) _ _ hD.sec (fun x hx => (hD.loose x hx).2.2)
    · have := hD.left0; show -1 ≤ leftD D.left; unfold leftD; split <;> omega
    · have := hD.left1; show leftD D.left ≤ _; unfold leftD; split <;> omega

theorem flushD_len (D : Dk) : (flushD D).1.loose.length ≤ D.loose.length := by
  unfold flushD
  split <;> simp

theorem flushD_sec (D : Dk) : (flushD D).1.sec.length = D.sec.length := by
  unfold flushD
  split
  · rfl
  · exact applyW_length _ _

end Go.Proofs.Ythcfncpkeldapaa
