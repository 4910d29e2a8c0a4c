/-
  What sector.Put answers, for every device in memory that is as the calls make it, with at most 100000 loose writes.
-/
import Derived.Test.YthcfncpkeldapaaSecC
namespace Go.Proofs.Ythcfncpkeldapaa
open Go.RowKit

theorem Try.infoW : (Try.prog.info? 48).map (fun i => (i.zero, i.size, i.bytes)) = some (some (.agg #[.int .i64 0, .string ⟨#[]⟩]), 2, 24) := by kernel_rfl

theorem put_b1 {w w1 w2 w3 : World} {o1 o2 : Obj} {x0 x1 x2 x3 : Value} (h1 : Below ((w.alloc o1).alloc o2).heap.size ((w.alloc o1).alloc o2) w1) (h2 : Below w1.heap.size w1 w2)
    (h3 : Below ((((w2.setCell ⟨w.heap.size, 0, none⟩ x0).setCell ⟨w.heap.size, 1, none⟩ x1).setCell ⟨w.heap.size, 2, none⟩ x2).setCell ⟨w.heap.size, 3, none⟩ x3).heap.size
      ((((w2.setCell ⟨w.heap.size, 0, none⟩ x0).setCell ⟨w.heap.size, 1, none⟩ x1).setCell ⟨w.heap.size, 2, none⟩ x2).setCell ⟨w.heap.size, 3, none⟩ x3) w3) : Below w.heap.size w w3 := by
  have a : Below w.heap.size w ((w.alloc o1).alloc o2) := ((Below.refl _ _).alloc (Nat.le_refl _) _).alloc (by simp) _
  have b := bnext a (bnext h1 h2)
  have c := (((b.setCell (p := ⟨w.heap.size, 0, none⟩) (Nat.le_refl _) x0).setCell (p := ⟨w.heap.size, 1, none⟩) (Nat.le_refl _) x1).setCell (p := ⟨w.heap.size, 2, none⟩) (Nat.le_refl _) x2).setCell (p := ⟨w.heap.size, 3, none⟩) (Nat.le_refl _) x3
  exact bnext c h3

theorem put_c1 (w : World) (x y : Value) (t : TypeId) : ∀ j u, [x, y][j]? = some u → (w.alloc (.cells #[x, y] t)).cell? ((⟨w.heap.size, 0, none⟩ : Addr).add j) = some u := by
  intro j u hu
  rw [Addr.add_lit, (Bk.new w t #[x, y]).cell]
  simpa using hu

set_option maxHeartbeats 1000000 in
theorem put_yes (A B : Option Addr) (n c m d : Nat) (lf at_ : Int) (data : ByteArray) (xs : List Value) (w : World) (hm : m ≤ 100000) (hs : data.size ≤ 128)
    (h0 : 0 ≤ at_) (h1 : at_ < (n : Int)) (hl : lf ≠ 0) (hu : lf ≤ 9223372036854775807) (hB : Sl w 2 B m d xs) :
    Calls Try.prog 15 #[.agg #[.slice A n c, .slice B m d, .bool false, .int .i64 lf], .int .i64 at_, .string data] w
      fun e w' => ∃ B' d', e = .returned (.tuple #[.agg #[.slice A n c, .slice B' (m + 1) d', .bool false, .int .i64 (leftD lf)], .int .i64 0]) ∧
        (Sl w' 2 B' (m + 1) d' (xs ++ [.int .i64 at_, .string (padB data)]) ∧ Ty w' 48 B' (m + 1)) ∧ Below w.heap.size w w' := by
  obtain ⟨i0, hi, hz0, hz1, hz2⟩ := info_parts Try.infoW
  have HL := Lib.hid hl
  have HB := Lib.hid hB
  have hmd : m ≤ d := hB.2.1
  clear hl hB
  go_enter Try.func15, Try.ntmps15
  go_wp2_with (first
    | (go_at_call 30; go_must (refine (has_yes _ _ _ _ _ _ _ _ _ _ h0 h1).mono ?_; rintro e w1 ⟨rfl, hb1⟩; have k0 := ((Bk.new w _ _).alloc _).below hb1; have k1 := (Bk.new _ _ _).below hb1; simp only [World.size_alloc] at k1; obtain ⟨c10, c11, c12, c13, f10⟩ := k0.four; obtain ⟨c14, c15, c16, c17, f11⟩ := k1.four))
    | (go_at_call 31; go_must (refine (deed_yes _ _ _ _ _ _ _ _ HL.out hu).mono ?_; rintro e w2 ⟨rfl, hb2⟩; have k2 := k0.below hb2; have k3 := k1.below hb2; obtain ⟨c20, c21, c22, c23, f20⟩ := k2.four; obtain ⟨c24, c25, c26, c27, f21⟩ := k3.four; clear c10 c11 c12 c13 c14 c15 c16 c17 f10 f11))
    | (go_at_call 32; go_must (refine (clip_any _ _ _ _ hmd).mono ?_; rintro e w3 ⟨rfl, rfl⟩))
    | (go_at_call 29; go_must (refine (padded_any _ _ hs).mono ?_; rintro e w3 ⟨rfl, hb3⟩; have k4 := ((((k2.set 0 _).set 1 _).set 2 _).set 3 _).below hb3; have k5 := ((((k3.far (by simp) _).far (by simp) _).far (by simp) _).far (by simp) _).below hb3; have hbw3 := put_b1 hb1 hb2 hb3; clear c20 c21 c22 c23 c24 c25 c26 c27 f20 f21))
    | (at_builtin; go_must (refine wpList_append_grows _ rfl (.tmp 29) (.tmp 34) _ rfl 48 i0 _ 2 24 Try.underlying26 hi hz0 hz1 hz2 rfl (by decide) B m m xs rfl (fun e => ⟨(HB.out.2.2.1 e).1, (HB.out.2.2.1 e).1⟩) HB.out.1 ((HB.out.below hbw3).alloc _).olds ⟨w3.heap.size, 0, none⟩ 1 1 [.int .i64 at_, .string (padB data)] rfl rfl (put_c1 w3 _ _ _) (by intro u hu; simp at hu; rcases hu with rfl | rfl <;> rfl) (by omega) (by unfold maxLen; omega) (by omega) ?_; intro v' w4 hown hg; obtain ⟨B', d', rfl, hsl⟩ := Sl.own hown; have hb4 := bfresh hg; have k6 := (k4.alloc _).below hb4; have k7 := (k5.alloc _).below hb4; obtain ⟨c40, c41, c42, c43, f40⟩ := k6.four; obtain ⟨c44, c45, c46, c47, f41⟩ := k7.four))
    | fail)
  have l5 := k5.lt
  have l4 : w.heap.size < w3.heap.size := by omega
  refine bodyPost_ret (v := .tuple #[.agg #[.slice A n c, .slice B' (m + 1) d', .bool false, .int .i64 (leftD lf)], .int .i64 0]) (by simp [results, Try.results15, go_sem, c44, c45, c46, c47]) rfl ⟨B', d', rfl, ?_, ?_⟩
  · have g0 := ownsRow_setCell_below hown (a := ⟨w.heap.size, 1, none⟩) (by simp; omega) (.slice B' (m + 1) d')
    have g1 := ownsRow_setCell_below g0 (a := ⟨w.heap.size + 1, 0, none⟩) (by simp; omega) (.slice A n c)
    have g2 := ownsRow_setCell_below g1 (a := ⟨w.heap.size + 1, 1, none⟩) (by simp; omega) (.slice B' (m + 1) d')
    have g3 := ownsRow_setCell_below g2 (a := ⟨w.heap.size + 1, 2, none⟩) (by simp; omega) (.bool false)
    have g4 := ownsRow_setCell_below g3 (a := ⟨w.heap.size + 1, 3, none⟩) (by simp; omega) (.int .i64 (leftD lf))
    exact ⟨Sl.own' g4, Ty.own g4⟩
  · have b4 : Below w.heap.size w w4 := bnext (hbw3.alloc hbw3.size _) hb4
    exact ((((b4.setCell (p := ⟨w.heap.size, 1, none⟩) (Nat.le_refl _) _).setCell (p := ⟨w.heap.size + 1, 0, none⟩) (Nat.le_succ _) _).setCell (p := ⟨w.heap.size + 1, 1, none⟩) (Nat.le_succ _) _).setCell (p := ⟨w.heap.size + 1, 2, none⟩) (Nat.le_succ _) _).setCell (p := ⟨w.heap.size + 1, 3, none⟩) (Nat.le_succ _) _

/-- Refused: too long, no such sector, no power. -/
theorem put_long (A B : Option Addr) (n c m d : Nat) (dn : Bool) (lf at_ : Int) (data : ByteArray) (w : World) (hs : 128 < data.size) :
    Calls Try.prog 15 #[.agg #[.slice A n c, .slice B m d, .bool dn, .int .i64 lf], .int .i64 at_, .string data] w
      fun e w' => e = .returned (.tuple #[.agg #[.slice A n c, .slice B m d, .bool dn, .int .i64 lf], .int .i64 1]) ∧ Below w.heap.size w w' := by
  go_enter Try.func15, Try.ntmps15
  go_wp2
  exact bodyPost_ret (v := .tuple #[.agg #[.slice A n c, .slice B m d, .bool dn, .int .i64 lf], .int .i64 1]) (by simp [results, Try.results15, go_sem]) rfl ⟨rfl, ((Below.refl _ _).alloc (Nat.le_refl _) _).alloc (by simp) _⟩

set_option maxHeartbeats 400000 in
theorem put_range (A B : Option Addr) (n c m d : Nat) (dn : Bool) (lf at_ : Int) (data : ByteArray) (w : World) (hs : data.size ≤ 128) (h : at_ < 0 ∨ (n : Int) ≤ at_) :
    Calls Try.prog 15 #[.agg #[.slice A n c, .slice B m d, .bool dn, .int .i64 lf], .int .i64 at_, .string data] w
      fun e w' => e = .returned (.tuple #[.agg #[.slice A n c, .slice B m d, .bool dn, .int .i64 lf], .int .i64 2]) ∧ Below w.heap.size w w' := by
  have H := Lib.hid h
  clear h
  go_enter Try.func15, Try.ntmps15
  go_wp2_with (go_at_call 30; go_must (refine (has_no _ _ _ _ _ _ _ _ _ _ H.out).mono ?_; rintro e w1 ⟨rfl, hb1⟩; have k0 := ((Bk.new w _ _).alloc _).below hb1; have k1 := (Bk.new _ _ _).below hb1; simp only [World.size_alloc] at k1; obtain ⟨c10, c11, c12, c13, f10⟩ := k0.four; obtain ⟨c14, c15, c16, c17, f11⟩ := k1.four))
  refine bodyPost_ret (v := .tuple #[.agg #[.slice A n c, .slice B m d, .bool dn, .int .i64 lf], .int .i64 2]) (by simp [results, Try.results15, go_sem, c14, c15, c16, c17]) rfl ⟨rfl, ?_⟩
  have b4 : Below w.heap.size w w1 := bnext (((Below.refl _ _).alloc (Nat.le_refl _) _).alloc (by simp) _) hb1
  exact (((b4.setCell (p := ⟨w.heap.size + 1, 0, none⟩) (Nat.le_succ _) _).setCell (p := ⟨w.heap.size + 1, 1, none⟩) (Nat.le_succ _) _).setCell (p := ⟨w.heap.size + 1, 2, none⟩) (Nat.le_succ _) _).setCell (p := ⟨w.heap.size + 1, 3, none⟩) (Nat.le_succ _) _

set_option maxHeartbeats 1000000 in
theorem put_down (A B : Option Addr) (n c m d : Nat) (dn : Bool) (lf at_ : Int) (data : ByteArray) (w : World) (hs : data.size ≤ 128) (h0 : 0 ≤ at_) (h1 : at_ < (n : Int)) (h : dn = true ∨ lf = 0) :
    Calls Try.prog 15 #[.agg #[.slice A n c, .slice B m d, .bool dn, .int .i64 lf], .int .i64 at_, .string data] w
      fun e w' => e = .returned (.tuple #[.agg #[.slice A n c, .slice B m d, .bool true, .int .i64 lf], .int .i64 17]) ∧ Below w.heap.size w w' := by
  have H := Lib.hid h
  clear h
  go_enter Try.func15, Try.ntmps15
  go_wp2_with (first
    | (go_at_call 30; go_must (refine (has_yes _ _ _ _ _ _ _ _ _ _ h0 h1).mono ?_; rintro e w1 ⟨rfl, hb1⟩; have k0 := ((Bk.new w _ _).alloc _).below hb1; have k1 := (Bk.new _ _ _).below hb1; simp only [World.size_alloc] at k1; obtain ⟨c10, c11, c12, c13, f10⟩ := k0.four; obtain ⟨c14, c15, c16, c17, f11⟩ := k1.four))
    | (go_at_call 31; go_must (refine (deed_no _ _ _ _ _ _ _ _ _ H.out).mono ?_; rintro e w2 ⟨rfl, hb2⟩; have k2 := k0.below hb2; have k3 := k1.below hb2; obtain ⟨c20, c21, c22, c23, f20⟩ := k2.four; obtain ⟨c24, c25, c26, c27, f21⟩ := k3.four; clear c10 c11 c12 c13 c14 c15 c16 c17 f10 f11))
    | fail)
  refine bodyPost_ret (v := .tuple #[.agg #[.slice A n c, .slice B m d, .bool true, .int .i64 lf], .int .i64 17]) (by simp [results, Try.results15, go_sem, c24, c25, c26, c27]) rfl ⟨rfl, ?_⟩
  have b4 : Below w.heap.size w w2 := bnext (bnext (((Below.refl _ _).alloc (Nat.le_refl _) _).alloc (by simp) _) hb1) hb2
  have b5 := (((b4.setCell (p := ⟨w.heap.size, 0, none⟩) (Nat.le_refl _) (.slice A n c)).setCell (p := ⟨w.heap.size, 1, none⟩) (Nat.le_refl _) (.slice B m d)).setCell (p := ⟨w.heap.size, 2, none⟩) (Nat.le_refl _) (.bool true)).setCell (p := ⟨w.heap.size, 3, none⟩) (Nat.le_refl _) (.int .i64 lf)
  exact (((b5.setCell (p := ⟨w.heap.size + 1, 0, none⟩) (Nat.le_succ _) _).setCell (p := ⟨w.heap.size + 1, 1, none⟩) (Nat.le_succ _) _).setCell (p := ⟨w.heap.size + 1, 2, none⟩) (Nat.le_succ _) _).setCell (p := ⟨w.heap.size + 1, 3, none⟩) (Nat.le_succ _) _

/-- Put, as the document has it: the device, and the error. -/
def putD (D : Dk) (at_ : Int) (data : ByteArray) : Dk × Int :=
  if 128 < data.size then (D, 1)
  else if at_ < 0 ∨ (D.sec.length : Int) ≤ at_ then (D, 2)
  else if D.down = true ∨ D.left = 0 then ({ D with down := true }, 17)
  else ({ D with loose := D.loose ++ [(at_, padB data)], left := leftD D.left }, 0)

theorem put_any (v : Value) (D : Dk) (at_ : Int) (data : ByteArray) (w : World) (hv : IsDk w v D) (hD : D.ok) (hm : D.loose.length ≤ 100000) :
    Calls Try.prog 15 #[v, .int .i64 at_, .string data] w
      fun e w' => ∃ v', e = .returned (.tuple #[v', .int .i64 (putD D at_ data).2]) ∧ IsDk w' v' (putD D at_ data).1 ∧ Below w.heap.size w w' := by
  obtain ⟨A, c, B, d, rfl, hA, hB, tA, tB⟩ := hv
  by_cases h1 : 128 < data.size
  · rw [show putD D at_ data = (D, 1) by simp [putD, h1]]
    exact (put_long A B _ c _ d D.down D.left at_ data w h1).mono fun e w' ⟨he, hb⟩ => ⟨_, he, ⟨A, c, B, d, rfl, hA.below hb, hB.below hb, tA.below hb, tB.below hb⟩, hb⟩
  · by_cases h2 : at_ < 0 ∨ (D.sec.length : Int) ≤ at_
    · rw [show putD D at_ data = (D, 2) by rw [putD, if_neg h1, if_pos h2]]
      exact (put_range A B _ c _ d D.down D.left at_ data w (by omega) h2).mono fun e w' ⟨he, hb⟩ => ⟨_, he, ⟨A, c, B, d, rfl, hA.below hb, hB.below hb, tA.below hb, tB.below hb⟩, hb⟩
    · by_cases h3 : D.down = true ∨ D.left = 0
      · rw [show putD D at_ data = ({ D with down := true }, 17) by rw [putD, if_neg h1, if_neg h2, if_pos h3]]
        exact (put_down A B _ c _ d D.down D.left at_ data w (by omega) (by omega) (by omega) h3).mono fun e w' ⟨he, hb⟩ => ⟨_, he, ⟨A, c, B, d, rfl, hA.below hb, hB.below hb, tA.below hb, tB.below hb⟩, hb⟩
      · rw [show putD D at_ data = ({ D with loose := D.loose ++ [(at_, padB data)], left := leftD D.left }, 0) by rw [putD, if_neg h1, if_neg h2, if_neg h3]]
        have hdn : D.down = false := by cases h : D.down <;> simp_all
        rw [hdn]
        refine (put_yes A B _ c _ d D.left at_ data _ w hm (by omega) (by omega) (by omega) (by simp_all) hD.left1 hB).mono fun e w' ⟨B', d', he, hs, hb⟩ => ⟨_, he, ⟨A, c, B', d', by simp, hA.below hb, ?_, tA.below hb, by simpa using hs.2⟩, hb⟩
        have : wrow (D.loose ++ [(at_, padB data)]) = wrow D.loose ++ [.int .i64 at_, .string (padB data)] := by rw [wrow_append]; rfl
        simpa [this] using hs.1

theorem putD_ok (D : Dk) (at_ : Int) (data : ByteArray) (hD : D.ok) : (putD D at_ data).1.ok := by
  unfold putD
  split
  · exact hD
  · split
    · exact hD
    · split
      · exact ⟨hD.few, hD.sec, hD.loose, hD.left0, hD.left1⟩
      · refine ⟨hD.few, hD.sec, ?_, ?_, ?_⟩
        · intro x hx
          rcases List.mem_append.1 hx with hx | hx
          · exact hD.loose x hx
          · simp at hx
            subst hx
            exact ⟨by omega, by show at_ < (D.sec.length : Int); omega, padB_size _ (by omega)⟩
        · have := hD.left0; show -1 ≤ leftD D.left; unfold leftD; split <;> omega
        · have := hD.left1; show leftD D.left ≤ _; unfold leftD; split <;> omega

theorem putD_len (D : Dk) (at_ : Int) (data : ByteArray) : (putD D at_ data).1.loose.length ≤ D.loose.length + 1 := by
  unfold putD
  split
  · simp
  · split
    · simp
    · split <;> simp

theorem putD_sec (D : Dk) (at_ : Int) (data : ByteArray) : (putD D at_ data).1.sec = D.sec := by
  unfold putD
  split
  · rfl
  · split
    · rfl
    · split <;> rfl

end Go.Proofs.Ythcfncpkeldapaa
