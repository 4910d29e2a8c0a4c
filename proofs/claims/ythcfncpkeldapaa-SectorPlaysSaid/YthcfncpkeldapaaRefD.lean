/-
  What the reference's Put answers: of a device in memory that is as the calls make it, with at most 100000 loose writes, what sector's answers.
-/
import Derived.Test.YthcfncpkeldapaaRefC
import Derived.Laws.AppendOwnNone
namespace Go.Proofs.Ythcfncpkeldapaa
open Go.RowKit

/-- append of a slice, nil or not, to a row that the call has made. -/
theorem append_sl {P : Program} {w : World} {ops : Array Oper} {rest : List Oper} {o : Oper} {a : Act} {Q : Exit → Act → World → Prop} (hgd : o.guard = none) (s x : Operand) (t : TypeId)
    (ho : o.op = .call { callee := .builtin .append, args := #[s, x], argTypes := #[t, t] })
    (base : Nat) (e : TypeId) (i : TypeInfo) (z : Value) (size bytes : Nat) (ht : P.underlying t = some (.slice e)) (hi : P.info? e = some i) (hz : i.zero = some z)
    (hsize : i.size = size) (hby : i.bytes = bytes) (hzs : z.cells.size = size) (hsz : 0 < size)
    (v : Value) (n : Nat) (xs : List Value) (hs : a.eval s = v) (hown : w.ownsRow base e size v n xs)
    (A : Option Addr) (m c : Nat) (news : List Value) (hx : a.eval x = .slice A m c) (hr : Sl w size A m c news) (h1 : ∀ u ∈ news, u.oneCell' = true)
    (h63 : n + m ≤ maxLen) (hbytes : (n + m) * bytes ≤ 140737488355328) (hbase : base ≤ w.heap.size)
    (h : ∀ v' w', w'.ownsRow base e size v' (n + m) (xs ++ news) → w.grownBy w' v.ownBlock → wpList P ops Q rest (a.put o.dst v') w') : wpList P ops Q (o :: rest) a w := by
  cases A with
  | none =>
    obtain ⟨rfl, rfl⟩ := hr.2.2.1 rfl
    obtain rfl : news = [] := List.eq_nil_of_length_eq_zero (by simpa using hr.1)
    exact wpList_append_own_none hgd s x t ho base e i size ht hi v n xs hs hown hx (h v w (by simpa using hown) (World.grownBy.refl w _))
  | some ad =>
    exact wpList_append_own w hgd s x t ho base e i z size bytes ht hi hz hsize hby hzs hsz v n xs hs hown ad m c news hx hr.1 (hr.olds ad rfl) h1 h63 hbytes hbase (fun v' w' h2 h3 _ => h v' w' h2 h3)

theorem wrow_one (l : List (Int × ByteArray)) : ∀ u ∈ wrow l, u.oneCell' = true := by
  intro u hu
  obtain ⟨x, _, hx⟩ := List.mem_flatMap.1 hu
  simp [wcells] at hx
  rcases hx with rfl | rfl <;> rfl

theorem rput_long (A B : Option Addr) (n c m d : Nat) (dn : Bool) (lf at_ : Int) (data : ByteArray) (w : World) (hs : 128 < data.size) :
    Calls Try.prog 16 #[.agg #[.slice A n c, .slice B m d, .bool dn, .int .i64 lf], .int .i64 at_, .string data] w
      fun e w' => e = .returned (.tuple #[.agg #[.slice A n c, .slice B m d, .bool dn, .int .i64 lf], .int .i64 1]) ∧ Below w.heap.size w w' := by
  go_enter Try.func16, Try.ntmps16
  go_wp2
  exact bodyPost_ret (v := .tuple #[.agg #[.slice A n c, .slice B m d, .bool dn, .int .i64 lf], .int .i64 1]) (by simp [results, Try.results16, go_sem]) rfl ⟨rfl, ((Below.refl _ _).alloc (Nat.le_refl _) _).alloc (by simp) _⟩

set_option maxHeartbeats 400000 in
theorem rput_range (A B : Option Addr) (n c m d : Nat) (dn : Bool) (lf at_ : Int) (data : ByteArray) (w : World) (hs : data.size ≤ 128) (h : at_ < 0 ∨ (n : Int) ≤ at_) :
    Calls Try.prog 16 #[.agg #[.slice A n c, .slice B m d, .bool dn, .int .i64 lf], .int .i64 at_, .string data] w
      fun e w' => e = .returned (.tuple #[.agg #[.slice A n c, .slice B m d, .bool dn, .int .i64 lf], .int .i64 2]) ∧ Below w.heap.size w w' := by
  by_cases h0 : at_ < 0
  · clear h
    go_enter Try.func16, Try.ntmps16
    go_wp2
    exact bodyPost_ret (v := .tuple #[.agg #[.slice A n c, .slice B m d, .bool dn, .int .i64 lf], .int .i64 2]) (by simp [results, Try.results16, go_sem]) rfl ⟨rfl, ((Below.refl _ _).alloc (Nat.le_refl _) _).alloc (by simp) _⟩
  · have h1 : (n : Int) ≤ at_ := by omega
    clear h
    go_enter Try.func16, Try.ntmps16
    go_wp2
    exact bodyPost_ret (v := .tuple #[.agg #[.slice A n c, .slice B m d, .bool dn, .int .i64 lf], .int .i64 2]) (by simp [results, Try.results16, go_sem]) rfl ⟨rfl, ((Below.refl _ _).alloc (Nat.le_refl _) _).alloc (by simp) _⟩

set_option maxHeartbeats 1000000 in
theorem rput_down (A B : Option Addr) (n c m d : Nat) (dn : Bool) (lf at_ : Int) (data : ByteArray) (w : World) (hs : data.size ≤ 128) (h0 : 0 ≤ at_) (h1 : at_ < (n : Int)) (h : dn = true ∨ lf = 0) :
    Calls Try.prog 16 #[.agg #[.slice A n c, .slice B m d, .bool dn, .int .i64 lf], .int .i64 at_, .string data] w
      fun e w' => e = .returned (.tuple #[.agg #[.slice A n c, .slice B m d, .bool true, .int .i64 lf], .int .i64 17]) ∧ Below w.heap.size w w' := by
  have H := Lib.hid h
  clear h
  go_enter Try.func16, Try.ntmps16
  go_wp2_with (first
    | (go_at_call 33; go_must (refine (rdeed_no _ _ _ _ _ _ _ _ _ H.out).mono ?_; rintro e w2 ⟨rfl, hb2⟩; have k2 := ((Bk.new w _ _).alloc _).below hb2; have k3 := (Bk.new _ _ _).below hb2; simp only [World.size_alloc] at k3; obtain ⟨c20, c21, c22, c23, f20⟩ := k2.four; obtain ⟨c24, c25, c26, c27, f21⟩ := k3.four))
    | fail)
  refine bodyPost_ret (v := .tuple #[.agg #[.slice A n c, .slice B m d, .bool true, .int .i64 lf], .int .i64 17]) (by simp [results, Try.results16, go_sem, c24, c25, c26, c27]) rfl ⟨rfl, ?_⟩
  have b4 : Below w.heap.size w w2 := bnext (((Below.refl _ _).alloc (Nat.le_refl _) _).alloc (by simp) _) hb2
  have b5 := (((b4.setCell (p := ⟨w.heap.size, 0, none⟩) (Nat.le_refl _) (.slice A n c)).setCell (p := ⟨w.heap.size, 1, none⟩) (Nat.le_refl _) (.slice B m d)).setCell (p := ⟨w.heap.size, 2, none⟩) (Nat.le_refl _) (.bool true)).setCell (p := ⟨w.heap.size, 3, none⟩) (Nat.le_refl _) (.int .i64 lf)
  exact (((b5.setCell (p := ⟨w.heap.size + 1, 0, none⟩) (Nat.le_succ _) _).setCell (p := ⟨w.heap.size + 1, 1, none⟩) (Nat.le_succ _) _).setCell (p := ⟨w.heap.size + 1, 2, none⟩) (Nat.le_succ _) _).setCell (p := ⟨w.heap.size + 1, 3, none⟩) (Nat.le_succ _) _

set_option maxRecDepth 100000 in
set_option maxHeartbeats 1000000 in
theorem rput_yes (A B : Option Addr) (n c m d : Nat) (lf at_ : Int) (data : ByteArray) (xs : List Value) (w : World) (hm : m ≤ 100000) (hs : data.size ≤ 128)
    (h0 : 0 ≤ at_) (h1 : at_ < (n : Int)) (hl : lf ≠ 0) (hu : lf ≤ 9223372036854775807) (hB : Sl w 2 B m d xs) (hx1 : ∀ u ∈ xs, u.oneCell' = true) :
    Calls Try.prog 16 #[.agg #[.slice A n c, .slice B m d, .bool false, .int .i64 lf], .int .i64 at_, .string data] w
      fun e w' => ∃ B' d', e = .returned (.tuple #[.agg #[.slice A n c, .slice B' (m + 1) d', .bool false, .int .i64 (leftD lf)], .int .i64 0]) ∧
        (Sl w' 2 B' (m + 1) d' (xs ++ [.int .i64 at_, .string (padB data)]) ∧ Ty w' 48 B' (m + 1)) ∧ Below w.heap.size w w' := by
  obtain ⟨i0, hi, hz0, hz1, hz2⟩ := info_parts Try.infoW
  obtain ⟨i8, hi8, hy0, hy1, hy2⟩ := info_parts Try.info8
  have HL := Lib.hid hl
  have HB := Lib.hid hB
  have HX1 := Lib.hid hx1
  clear hl hB hx1
  go_enter Try.func16, Try.ntmps16
  go_wp2_with (first
    | (go_at_call 33; go_must (refine (rdeed_yes _ _ _ _ _ _ _ _ HL.out hu).mono ?_; rintro e w2 ⟨rfl, hb2⟩; have k2 := ((Bk.new w _ _).alloc _).below hb2; have k3 := (Bk.new _ _ _).below hb2; simp only [World.size_alloc] at k3; obtain ⟨c20, c21, c22, c23, f20⟩ := k2.four; obtain ⟨c24, c25, c26, c27, f21⟩ := k3.four))
    | (at_make; go_must (refine wpList_make_full _ rfl (.tmp 34) (.tmp 34) _ rfl _ 5 i8 _ 1 Try.underlying55 hi8 hy0 hy1 _ _ _ _ (128 - data.size) rfl rfl (by omega) (by omega) (by rw [hy2]; omega) (by unfold maxLen; omega) (Nat.le_refl _) ?_; intro w3 hown3 hg3; have hb3 := bfresh hg3; have hcv := conv_zeros _ (128 - data.size) (128 - data.size) w3 (fun j hj => (hown3.cellAt j (by omega)).trans (made_one _ _ _ hj)); have k4 := ((((k2.set 0 _).set 1 _).set 2 _).set 3 _).below hb3; have k5 := ((((k3.far (by simp) _).far (by simp) _).far (by simp) _).far (by simp) _).below hb3; have hbw3 := put_b1 hb2 (Below.refl _ _) hb3; simp only [World.size_setCell] at hcv; obtain ⟨c30, c31, c32, c33, f30⟩ := k4.four; have l4 := k4.lt; have l5 := k5.lt; clear c20 c21 c22 c23 c24 c25 c26 c27 f20 f21 hown3 hg3))
    | (at_builtin; clear hg5; go_must (refine wpList_append_own _ rfl (.tmp 41) (.tmp 45) _ rfl w3.heap.size 48 i0 _ 2 24 Try.underlying26 hi hz0 hz1 hz2 rfl (by decide) v5 m xs rfl (hown5.alloc _) ⟨w5.heap.size, 0, none⟩ 1 1 [.int .i64 at_, .string (padB data)] rfl rfl (put_c1 w5 _ _ _) (by intro u hu; simp at hu; rcases hu with rfl | rfl <;> rfl) (by unfold maxLen; omega) (by omega) (by have := hb5.size; simp; omega) ?_; intro v7 w7 hown hg7 hnil; clear hnil; have hb7 : Below w3.heap.size w3 w7 := (hb5.alloc hb5.size _).grown hg7 (by have := hb5.size; simp; omega) (fun g hg => own_ge hown5 hg); obtain ⟨B', d', rfl, hsl⟩ := Sl.own hown; have k6 := k4.below hb7; have k7 := k5.below hb7; obtain ⟨c40, c41, c42, c43, f40⟩ := k6.four; obtain ⟨c44, c45, c46, c47, f41⟩ := k7.four))
    | (at_builtin; go_must (refine append_sl rfl (.tmp 38) (.tmp 40) _ rfl w3.heap.size 48 i0 _ 2 24 Try.underlying26 hi hz0 hz1 hz2 rfl (by decide) _ 0 [] rfl (World.ownsRow_lit w3 #[] 0 (Nat.le_refl _) (by decide) rfl) B m d xs rfl ((HB.out.below hbw3).alloc _) HX1.out (by unfold maxLen; omega) (by omega) (by simp) ?_; intro v5 w5 hown5 hg5; have hb5 : Below w3.heap.size w3 w5 := ((Below.refl _ _).alloc (Nat.le_refl _) _).grown hg5 (by simp) (fun g hg => Nat.le_of_eq (Option.some.inj hg)); simp only [Nat.zero_add, List.nil_append] at hown5))
    | fail)
  refine bodyPost_ret (v := .tuple #[.agg #[.slice A n c, .slice B' (m + 1) d', .bool false, .int .i64 (leftD lf)], .int .i64 0]) (by simp [results, Try.results16, go_sem, c44, c45, c46, c47]) rfl ⟨B', d', rfl, ?_, ?_⟩
  · have g0 := ownsRow_setCell_below hown (a := ⟨w.heap.size, 1, none⟩) (by simp; omega) (.slice B' (m + 1) d')
    have g1 := ownsRow_setCell_below g0 (a := ⟨w.heap.size + 1, 0, none⟩) (by simp; omega) (.slice A n c)
    have g2 := ownsRow_setCell_below g1 (a := ⟨w.heap.size + 1, 1, none⟩) (by simp; omega) (.slice B' (m + 1) d')
    have g3 := ownsRow_setCell_below g2 (a := ⟨w.heap.size + 1, 2, none⟩) (by simp; omega) (.bool false)
    have g4 := ownsRow_setCell_below g3 (a := ⟨w.heap.size + 1, 3, none⟩) (by simp; omega) (.int .i64 (leftD lf))
    exact ⟨Sl.own' g4, Ty.own g4⟩
  · have b4 : Below w.heap.size w w7 := bnext hbw3 hb7
    exact ((((b4.setCell (p := ⟨w.heap.size, 1, none⟩) (Nat.le_refl _) _).setCell (p := ⟨w.heap.size + 1, 0, none⟩) (Nat.le_succ _) _).setCell (p := ⟨w.heap.size + 1, 1, none⟩) (Nat.le_succ _) _).setCell (p := ⟨w.heap.size + 1, 2, none⟩) (Nat.le_succ _) _).setCell (p := ⟨w.heap.size + 1, 3, none⟩) (Nat.le_succ _) _

theorem rput_any (v : Value) (D : Dk) (at_ : Int) (data : ByteArray) (w : World) (hv : IsDk w v D) (hD : D.ok) (hm : D.loose.length ≤ 100000) :
    Calls Try.prog 16 #[v, .int .i64 at_, .string data] w
      fun e w' => ∃ v', e = .returned (.tuple #[v', .int .i64 (putD D at_ data).2]) ∧ IsDk w' v' (putD D at_ data).1 ∧ Below w.heap.size w w' := by
  obtain ⟨A, c, B, d, rfl, hA, hB, tA, tB⟩ := hv
  by_cases h1 : 128 < data.size
  · rw [show putD D at_ data = (D, 1) by simp [putD, h1]]
    exact (rput_long A B _ c _ d D.down D.left at_ data w h1).mono fun e w' ⟨he, hb⟩ => ⟨_, he, ⟨A, c, B, d, rfl, hA.below hb, hB.below hb, tA.below hb, tB.below hb⟩, hb⟩
  · by_cases h2 : at_ < 0 ∨ (D.sec.length : Int) ≤ at_
    · rw [show putD D at_ data = (D, 2) by rw [putD, if_neg h1, if_pos h2]]
      exact (rput_range A B _ c _ d D.down D.left at_ data w (by omega) h2).mono fun e w' ⟨he, hb⟩ => ⟨_, he, ⟨A, c, B, d, rfl, hA.below hb, hB.below hb, tA.below hb, tB.below hb⟩, hb⟩
    · by_cases h3 : D.down = true ∨ D.left = 0
      · rw [show putD D at_ data = ({ D with down := true }, 17) by rw [putD, if_neg h1, if_neg h2, if_pos h3]]
        exact (rput_down A B _ c _ d D.down D.left at_ data w (by omega) (by omega) (by omega) h3).mono fun e w' ⟨he, hb⟩ => ⟨_, he, ⟨A, c, B, d, rfl, hA.below hb, hB.below hb, tA.below hb, tB.below hb⟩, hb⟩
      · rw [show putD D at_ data = ({ D with loose := D.loose ++ [(at_, padB data)], left := leftD D.left }, 0) by rw [putD, if_neg h1, if_neg h2, if_neg h3]]
        have hdn : D.down = false := by cases h : D.down <;> simp_all
        rw [hdn]
        refine (rput_yes A B _ c _ d D.left at_ data _ w hm (by omega) (by omega) (by omega) (by simp_all) hD.left1 hB (wrow_one _)).mono fun e w' ⟨B', d', he, hs, hb⟩ => ⟨_, he, ⟨A, c, B', d', by simp, hA.below hb, ?_, tA.below hb, by simpa using hs.2⟩, hb⟩
        have : wrow (D.loose ++ [(at_, padB data)]) = wrow D.loose ++ [.int .i64 at_, .string (padB data)] := by rw [wrow_append]; rfl
        simpa [this] using hs.1

end Go.Proofs.Ythcfncpkeldapaa
