/-
  What proof's mayHave answers, in whatever memory that has the kinds' table: may a command have such an instruction? No conditions but those that stand there.
-/
import Derived.Test.YtlhipaecndgonaaDoorPrfE
import Derived.Test.YtlhipaecndgonaaDoorInsA
import Derived.Deep.QuietTactic
import Derived.BigQuiet
namespace Go.Proofs.YtlhipaecndgonaaDoor
open Go.RowKit

def boundsL (nr nw na : Nat) (x : Ins) : Prop :=
  (x.op = 2 ∨ x.op = 3 → 0 ≤ x.a ∧ x.a < 4) ∧
  (x.op = 4 → 0 ≤ x.a ∧ x.a < (nr : Int) + nw ∧ 0 ≤ x.b ∧ x.b < 8) ∧
  (x.op = 5 → (nr : Int) ≤ x.a ∧ x.a < (nr : Int) + nw ∧ 0 ≤ x.b ∧ x.b < 8) ∧
  (x.op = 6 → 0 ≤ x.a ∧ x.a < (na : Int))
instance (nr nw na : Nat) (x : Ins) : Decidable (boundsL nr nw na x) := inferInstanceAs (Decidable (_ ∧ _))

/-- a command and an instruction in their boxes. -/
abbrev mh0 (ra : Option Addr) (nr rc : Nat) (wa : Option Addr) (nw wc : Nat) (aa : Option Addr) (na ac : Nat) (fuel : Int) (ca : Option Addr) (nc cc : Nat) (x : Ins) (w : World) : World :=
  (w.alloc (.cells #[.slice ra nr rc, .slice wa nw wc, .slice aa na ac, .int .i64 fuel, .slice ca nc cc] 25)).alloc (IObj x)

theorem mh0_below (ra : Option Addr) (nr rc : Nat) (wa : Option Addr) (nw wc : Nat) (aa : Option Addr) (na ac : Nat) (fuel : Int) (ca : Option Addr) (nc cc : Nat) (x : Ins) (w : World) : Below w.heap.size w (mh0 ra nr rc wa nw wc aa na ac fuel ca nc cc x w) :=
  ((Below.refl _ _).alloc (Nat.le_refl _) _).alloc (by rw [World.size_alloc]; omega) _

theorem mh0_cm (ra : Option Addr) (nr rc : Nat) (wa : Option Addr) (nw wc : Nat) (aa : Option Addr) (na ac : Nat) (fuel : Int) (ca : Option Addr) (nc cc : Nat) (x : Ins) (w : World) : Bk (mh0 ra nr rc wa nw wc aa na ac fuel ca nc cc x w) w.heap.size 25 #[.slice ra nr rc, .slice wa nw wc, .slice aa na ac, .int .i64 fuel, .slice ca nc cc] :=
  (Bk.new w _ _).alloc _

theorem mh0_ins (ra : Option Addr) (nr rc : Nat) (wa : Option Addr) (nw wc : Nat) (aa : Option Addr) (na ac : Nat) (fuel : Int) (ca : Option Addr) (nc cc : Nat) (x : Ins) (w : World) : Bk (mh0 ra nr rc wa nw wc aa na ac fuel ca nc cc x w) (w.heap.size + 1) 35 #[.int .i64 x.op, .int .i64 x.a, .int .i64 x.b] := by
  have := Bk.new (w.alloc (.cells #[.slice ra nr rc, .slice wa nw wc, .slice aa na ac, .int .i64 fuel, .slice ca nc cc] 25)) 35 #[.int .i64 x.op, .int .i64 x.a, .int .i64 x.b]
  rwa [World.size_alloc] at this

theorem Bk.cmd {w : World} {g : Nat} {t : TypeId} {a b c d e : Value} (h : Bk w g t #[a, b, c, d, e]) :
    w.cell? ⟨g, 0, none⟩ = some a ∧ w.cell? ⟨g, 1, none⟩ = some b ∧ w.cell? ⟨g, 2, none⟩ = some c ∧ w.cell? ⟨g, 3, none⟩ = some d ∧ w.cell? ⟨g, 4, none⟩ = some e ∧ ∀ o, w.frozen? ⟨g, o, none⟩ = false :=
  ⟨h.cell 0, h.cell 1, h.cell 2, h.cell 3, h.cell 4, fun o => h.frozen o⟩

theorem below_drewQ (B : Nat) (w : World) (n : Nat) : Below B w (w.drewN n) := ⟨rfl, rfl, rfl, Nat.le_refl _, fun _ _ => rfl⟩

theorem isFrom_is (a b n : Int) (r : Bool) (h : decide (a ≤ n ∧ n ≤ b) = r) (w : World) : Calls Tryd.prog 19 #[.int .i64 a, .int .i64 b, .int .i64 n] w fun e w' => e = .returned (.bool r) ∧ w = w' := by
  subst h
  exact isFrom_any a b n w

theorem mayHave_wrong (ra : Option Addr) (nr rc : Nat) (wa : Option Addr) (nw wc : Nat) (aa : Option Addr) (na ac : Nat) (fuel : Int) (ca : Option Addr) (nc cc : Nat) (x : Ins) (w : World) (hT : HasKinds w)
    (hr : ¬ rightN x) :
    Calls Tryd.prog 14 #[cmV ra nr rc wa nw wc aa na ac fuel ca nc cc, .agg #[.int .i64 x.op, .int .i64 x.a, .int .i64 x.b]] w fun e w' => e = .returned (.bool false) ∧ Below w.heap.size w w' := by
  have B0 := Lib.hid (mh0_below ra nr rc wa nw wc aa na ac fuel ca nc cc x w)
  have C0 := Lib.hid (mh0_cm ra nr rc wa nw wc aa na ac fuel ca nc cc x w)
  have I0 := Lib.hid (mh0_ins ra nr rc wa nw wc aa na ac fuel ca nc cc x w)
  have hri := Lib.hid (insRight_any x false (decide_eq_false hr) _ (hT.belowS B0.out))
  clear hr hT
  go_enter Tryd.func14, Tryd.ntmps14
  go_wp2_with (go_at_call 23; go_must ((with_reducible refine hri.out.mono ?_); rintro e w1 ⟨rfl, hb1⟩; have B1 := Lib.hid (bnext B0.out hb1)))
  go_ret
  exact ⟨rfl, B1.out⟩

theorem mayHave_other (ra : Option Addr) (nr rc : Nat) (wa : Option Addr) (nw wc : Nat) (aa : Option Addr) (na ac : Nat) (fuel : Int) (ca : Option Addr) (nc cc : Nat) (x : Ins) (w : World) (hT : HasKinds w) (h1 : nr ≤ 1099511627776) (h2 : nw ≤ 1099511627776)
    (hr : rightN x) (ho : x.op ≠ 2 ∧ x.op ≠ 3 ∧ x.op ≠ 4 ∧ x.op ≠ 5 ∧ x.op ≠ 6) :
    Calls Tryd.prog 14 #[cmV ra nr rc wa nw wc aa na ac fuel ca nc cc, .agg #[.int .i64 x.op, .int .i64 x.a, .int .i64 x.b]] w fun e w' => e = .returned (.bool true) ∧ Below w.heap.size w w' := by
  have B0 := Lib.hid (mh0_below ra nr rc wa nw wc aa na ac fuel ca nc cc x w)
  have C0 := Lib.hid (mh0_cm ra nr rc wa nw wc aa na ac fuel ca nc cc x w)
  have I0 := Lib.hid (mh0_ins ra nr rc wa nw wc aa na ac fuel ca nc cc x w)
  have hri := Lib.hid (insRight_any x true (decide_eq_true hr) _ (hT.belowS B0.out))
  obtain ⟨o2, o3, o4, o5, o6⟩ := ho
  clear hr hT
  go_enter Tryd.func14, Tryd.ntmps14
  go_wp2_with (go_at_call 23; go_must ((with_reducible refine hri.out.mono ?_); rintro e w1 ⟨rfl, hb1⟩; have B1 := Lib.hid (bnext B0.out hb1); obtain ⟨c0, c1, c2, c3, c4, cf⟩ := (C0.out.below hb1).cmd; obtain ⟨i0, i1, i2, if'⟩ := (I0.out.below hb1).three; have cl := (C0.out.below hb1).lt; have il := (I0.out.below hb1).lt; clear hb1))
  go_quiet (fail)
  go_wp2
  go_ret
  exact ⟨rfl, B1.out.trans (below_drewQ _ _ _)⟩

theorem mayHave_load (ra : Option Addr) (nr rc : Nat) (wa : Option Addr) (nw wc : Nat) (aa : Option Addr) (na ac : Nat) (fuel : Int) (ca : Option Addr) (nc cc : Nat) (a b : Int) (w : World) (hT : HasKinds w) (h1 : nr ≤ 1099511627776) (h2 : nw ≤ 1099511627776)
    (hr : rightN ⟨2, a, b⟩) (r : Bool) (hb : decide (0 ≤ a ∧ a ≤ 3) = r) :
    Calls Tryd.prog 14 #[cmV ra nr rc wa nw wc aa na ac fuel ca nc cc, .agg #[.int .i64 2, .int .i64 a, .int .i64 b]] w fun e w' => e = .returned (.bool r) ∧ Below w.heap.size w w' := by
  have B0 := Lib.hid (mh0_below ra nr rc wa nw wc aa na ac fuel ca nc cc ⟨2, a, b⟩ w)
  have C0 := Lib.hid (mh0_cm ra nr rc wa nw wc aa na ac fuel ca nc cc ⟨2, a, b⟩ w)
  have I0 := Lib.hid (mh0_ins ra nr rc wa nw wc aa na ac fuel ca nc cc ⟨2, a, b⟩ w)
  have hri := Lib.hid (insRight_any ⟨2, a, b⟩ true (decide_eq_true hr) _ (hT.belowS B0.out))
  have hif := Lib.hid (fun W => isFrom_is 0 3 a r hb W)
  clear hr hT hb
  go_enter Tryd.func14, Tryd.ntmps14
  go_wp2_with (go_at_call 23; go_must ((with_reducible refine hri.out.mono ?_); rintro e w1 ⟨rfl, hb1⟩; have B1 := Lib.hid (bnext B0.out hb1); obtain ⟨c0, c1, c2, c3, c4, cf⟩ := (C0.out.below hb1).cmd; obtain ⟨i0, i1, i2, if'⟩ := (I0.out.below hb1).three; have cl := (C0.out.below hb1).lt; have il := (I0.out.below hb1).lt; clear hb1))
  go_quiet (fail)
  go_wp2_with (go_at_call 19; go_must ((with_reducible refine (hif.out _).mono ?_); rintro e w2 ⟨rfl, rfl⟩))
  go_ret
  exact ⟨rfl, B1.out.trans (below_drewQ _ _ _)⟩

theorem mayHave_keep (ra : Option Addr) (nr rc : Nat) (wa : Option Addr) (nw wc : Nat) (aa : Option Addr) (na ac : Nat) (fuel : Int) (ca : Option Addr) (nc cc : Nat) (a b : Int) (w : World) (hT : HasKinds w) (h1 : nr ≤ 1099511627776) (h2 : nw ≤ 1099511627776)
    (hr : rightN ⟨3, a, b⟩) (r : Bool) (hb : decide (0 ≤ a ∧ a ≤ 3) = r) :
    Calls Tryd.prog 14 #[cmV ra nr rc wa nw wc aa na ac fuel ca nc cc, .agg #[.int .i64 3, .int .i64 a, .int .i64 b]] w fun e w' => e = .returned (.bool r) ∧ Below w.heap.size w w' := by
  have B0 := Lib.hid (mh0_below ra nr rc wa nw wc aa na ac fuel ca nc cc ⟨3, a, b⟩ w)
  have C0 := Lib.hid (mh0_cm ra nr rc wa nw wc aa na ac fuel ca nc cc ⟨3, a, b⟩ w)
  have I0 := Lib.hid (mh0_ins ra nr rc wa nw wc aa na ac fuel ca nc cc ⟨3, a, b⟩ w)
  have hri := Lib.hid (insRight_any ⟨3, a, b⟩ true (decide_eq_true hr) _ (hT.belowS B0.out))
  have hif := Lib.hid (fun W => isFrom_is 0 3 a r hb W)
  clear hr hT hb
  go_enter Tryd.func14, Tryd.ntmps14
  go_wp2_with (go_at_call 23; go_must ((with_reducible refine hri.out.mono ?_); rintro e w1 ⟨rfl, hb1⟩; have B1 := Lib.hid (bnext B0.out hb1); obtain ⟨c0, c1, c2, c3, c4, cf⟩ := (C0.out.below hb1).cmd; obtain ⟨i0, i1, i2, if'⟩ := (I0.out.below hb1).three; have cl := (C0.out.below hb1).lt; have il := (I0.out.below hb1).lt; clear hb1))
  go_quiet (fail)
  go_wp2_with (go_at_call 19; go_must ((with_reducible refine (hif.out _).mono ?_); rintro e w2 ⟨rfl, rfl⟩))
  go_ret
  exact ⟨rfl, B1.out.trans (below_drewQ _ _ _)⟩

theorem mayHave_arg (ra : Option Addr) (nr rc : Nat) (wa : Option Addr) (nw wc : Nat) (aa : Option Addr) (na ac : Nat) (fuel : Int) (ca : Option Addr) (nc cc : Nat) (a b : Int) (w : World) (hT : HasKinds w) (h1 : nr ≤ 1099511627776) (h2 : nw ≤ 1099511627776) (h3 : na ≤ 1099511627776)
    (hr : rightN ⟨6, a, b⟩) (r : Bool) (hb : decide (0 ≤ a ∧ a ≤ ((na : Int) - 1)) = r) :
    Calls Tryd.prog 14 #[cmV ra nr rc wa nw wc aa na ac fuel ca nc cc, .agg #[.int .i64 6, .int .i64 a, .int .i64 b]] w fun e w' => e = .returned (.bool r) ∧ Below w.heap.size w w' := by
  have B0 := Lib.hid (mh0_below ra nr rc wa nw wc aa na ac fuel ca nc cc ⟨6, a, b⟩ w)
  have C0 := Lib.hid (mh0_cm ra nr rc wa nw wc aa na ac fuel ca nc cc ⟨6, a, b⟩ w)
  have I0 := Lib.hid (mh0_ins ra nr rc wa nw wc aa na ac fuel ca nc cc ⟨6, a, b⟩ w)
  have hri := Lib.hid (insRight_any ⟨6, a, b⟩ true (decide_eq_true hr) _ (hT.belowS B0.out))
  have hif := Lib.hid (fun W => isFrom_is 0 ((na : Int) - 1) a r hb W)
  clear hr hT hb
  go_enter Tryd.func14, Tryd.ntmps14
  go_wp2_with (go_at_call 23; go_must ((with_reducible refine hri.out.mono ?_); rintro e w1 ⟨rfl, hb1⟩; have B1 := Lib.hid (bnext B0.out hb1); obtain ⟨c0, c1, c2, c3, c4, cf⟩ := (C0.out.below hb1).cmd; obtain ⟨i0, i1, i2, if'⟩ := (I0.out.below hb1).three; have cl := (C0.out.below hb1).lt; have il := (I0.out.below hb1).lt; clear hb1))
  go_quiet (fail)
  go_wp2_with (go_at_call 19; go_must ((with_reducible refine (hif.out _).mono ?_); rintro e w2 ⟨rfl, rfl⟩))
  go_ret
  exact ⟨rfl, B1.out.trans (below_drewQ _ _ _)⟩

theorem mayHave_get (ra : Option Addr) (nr rc : Nat) (wa : Option Addr) (nw wc : Nat) (aa : Option Addr) (na ac : Nat) (fuel : Int) (ca : Option Addr) (nc cc : Nat) (a b : Int) (w : World) (hT : HasKinds w) (h1 : nr ≤ 1099511627776) (h2 : nw ≤ 1099511627776)
    (hr : rightN ⟨4, a, b⟩) (r : Bool) (hb : decide ((0 ≤ a ∧ a ≤ ((nr : Int) + (nw : Int) - 1)) ∧ 0 ≤ b ∧ b ≤ 7) = r) :
    Calls Tryd.prog 14 #[cmV ra nr rc wa nw wc aa na ac fuel ca nc cc, .agg #[.int .i64 4, .int .i64 a, .int .i64 b]] w fun e w' => e = .returned (.bool r) ∧ Below w.heap.size w w' := by
  have B0 := Lib.hid (mh0_below ra nr rc wa nw wc aa na ac fuel ca nc cc ⟨4, a, b⟩ w)
  have C0 := Lib.hid (mh0_cm ra nr rc wa nw wc aa na ac fuel ca nc cc ⟨4, a, b⟩ w)
  have I0 := Lib.hid (mh0_ins ra nr rc wa nw wc aa na ac fuel ca nc cc ⟨4, a, b⟩ w)
  have hri := Lib.hid (insRight_any ⟨4, a, b⟩ true (decide_eq_true hr) _ (hT.belowS B0.out))
  by_cases q : 0 ≤ a ∧ a ≤ ((nr : Int) + (nw : Int) - 1)
  · have hif := Lib.hid (fun W => isFrom_is 0 ((nr : Int) + (nw : Int) - 1) a true (decide_eq_true q) W)
    have hif2 := Lib.hid (fun W => isFrom_is 0 7 b r (by rw [← hb]; exact decide_eq_decide.2 ⟨fun h => ⟨q, h⟩, fun h => h.2⟩) W)
    clear hr hT hb q
    go_enter Tryd.func14, Tryd.ntmps14
    go_wp2_with (go_at_call 23; go_must ((with_reducible refine hri.out.mono ?_); rintro e w1 ⟨rfl, hb1⟩; have B1 := Lib.hid (bnext B0.out hb1); obtain ⟨c0, c1, c2, c3, c4, cf⟩ := (C0.out.below hb1).cmd; obtain ⟨i0, i1, i2, if'⟩ := (I0.out.below hb1).three; have cl := (C0.out.below hb1).lt; have il := (I0.out.below hb1).lt; clear hb1))
    go_quiet (fail)
    go_wp2_with (first
      | (go_at_call 19; with_reducible refine (hif.out _).mono ?_; rintro e w2 ⟨rfl, rfl⟩)
      | (go_at_call 19; with_reducible refine (hif2.out _).mono ?_; rintro e w2 ⟨rfl, rfl⟩))
    go_ret
    exact ⟨rfl, B1.out.trans (below_drewQ _ _ _)⟩
  · obtain rfl : false = r := by rw [← hb]; exact (decide_eq_false fun h => q h.1).symm
    have hif := Lib.hid (fun W => isFrom_is 0 ((nr : Int) + (nw : Int) - 1) a false (decide_eq_false q) W)
    clear hr hT hb q
    go_enter Tryd.func14, Tryd.ntmps14
    go_wp2_with (go_at_call 23; go_must ((with_reducible refine hri.out.mono ?_); rintro e w1 ⟨rfl, hb1⟩; have B1 := Lib.hid (bnext B0.out hb1); obtain ⟨c0, c1, c2, c3, c4, cf⟩ := (C0.out.below hb1).cmd; obtain ⟨i0, i1, i2, if'⟩ := (I0.out.below hb1).three; have cl := (C0.out.below hb1).lt; have il := (I0.out.below hb1).lt; clear hb1))
    go_quiet (fail)
    go_wp2_with (go_at_call 19; go_must ((with_reducible refine (hif.out _).mono ?_); rintro e w2 ⟨rfl, rfl⟩))
    go_ret
    exact ⟨rfl, B1.out.trans (below_drewQ _ _ _)⟩

theorem mayHave_put (ra : Option Addr) (nr rc : Nat) (wa : Option Addr) (nw wc : Nat) (aa : Option Addr) (na ac : Nat) (fuel : Int) (ca : Option Addr) (nc cc : Nat) (a b : Int) (w : World) (hT : HasKinds w) (h1 : nr ≤ 1099511627776) (h2 : nw ≤ 1099511627776)
    (hr : rightN ⟨5, a, b⟩) (r : Bool) (hb : decide (((nr : Int) ≤ a ∧ a ≤ ((nr : Int) + (nw : Int) - 1)) ∧ 0 ≤ b ∧ b ≤ 7) = r) :
    Calls Tryd.prog 14 #[cmV ra nr rc wa nw wc aa na ac fuel ca nc cc, .agg #[.int .i64 5, .int .i64 a, .int .i64 b]] w fun e w' => e = .returned (.bool r) ∧ Below w.heap.size w w' := by
  have B0 := Lib.hid (mh0_below ra nr rc wa nw wc aa na ac fuel ca nc cc ⟨5, a, b⟩ w)
  have C0 := Lib.hid (mh0_cm ra nr rc wa nw wc aa na ac fuel ca nc cc ⟨5, a, b⟩ w)
  have I0 := Lib.hid (mh0_ins ra nr rc wa nw wc aa na ac fuel ca nc cc ⟨5, a, b⟩ w)
  have hri := Lib.hid (insRight_any ⟨5, a, b⟩ true (decide_eq_true hr) _ (hT.belowS B0.out))
  by_cases q : (nr : Int) ≤ a ∧ a ≤ ((nr : Int) + (nw : Int) - 1)
  · have hif := Lib.hid (fun W => isFrom_is (nr : Int) ((nr : Int) + (nw : Int) - 1) a true (decide_eq_true q) W)
    have hif2 := Lib.hid (fun W => isFrom_is 0 7 b r (by rw [← hb]; exact decide_eq_decide.2 ⟨fun h => ⟨q, h⟩, fun h => h.2⟩) W)
    clear hr hT hb q
    go_enter Tryd.func14, Tryd.ntmps14
    go_wp2_with (go_at_call 23; go_must ((with_reducible refine hri.out.mono ?_); rintro e w1 ⟨rfl, hb1⟩; have B1 := Lib.hid (bnext B0.out hb1); obtain ⟨c0, c1, c2, c3, c4, cf⟩ := (C0.out.below hb1).cmd; obtain ⟨i0, i1, i2, if'⟩ := (I0.out.below hb1).three; have cl := (C0.out.below hb1).lt; have il := (I0.out.below hb1).lt; clear hb1))
    go_quiet (fail)
    go_wp2_with (first
      | (go_at_call 19; with_reducible refine (hif.out _).mono ?_; rintro e w2 ⟨rfl, rfl⟩)
      | (go_at_call 19; with_reducible refine (hif2.out _).mono ?_; rintro e w2 ⟨rfl, rfl⟩))
    go_ret
    exact ⟨rfl, B1.out.trans (below_drewQ _ _ _)⟩
  · obtain rfl : false = r := by rw [← hb]; exact (decide_eq_false fun h => q h.1).symm
    have hif := Lib.hid (fun W => isFrom_is (nr : Int) ((nr : Int) + (nw : Int) - 1) a false (decide_eq_false q) W)
    clear hr hT hb q
    go_enter Tryd.func14, Tryd.ntmps14
    go_wp2_with (go_at_call 23; go_must ((with_reducible refine hri.out.mono ?_); rintro e w1 ⟨rfl, hb1⟩; have B1 := Lib.hid (bnext B0.out hb1); obtain ⟨c0, c1, c2, c3, c4, cf⟩ := (C0.out.below hb1).cmd; obtain ⟨i0, i1, i2, if'⟩ := (I0.out.below hb1).three; have cl := (C0.out.below hb1).lt; have il := (I0.out.below hb1).lt; clear hb1))
    go_quiet (fail)
    go_wp2_with (go_at_call 19; go_must ((with_reducible refine (hif.out _).mono ?_); rintro e w2 ⟨rfl, rfl⟩))
    go_ret
    exact ⟨rfl, B1.out.trans (below_drewQ _ _ _)⟩

theorem mayHave_any (ra : Option Addr) (nr rc : Nat) (wa : Option Addr) (nw wc : Nat) (aa : Option Addr) (na ac : Nat) (fuel : Int) (ca : Option Addr) (nc cc : Nat) (x : Ins) (w : World) (hT : HasKinds w) (h1 : nr ≤ 1099511627776) (h2 : nw ≤ 1099511627776) (h3 : na ≤ 1099511627776)
    (r : Bool) (hb : decide (rightN x ∧ boundsL nr nw na x) = r) :
    Calls Tryd.prog 14 #[cmV ra nr rc wa nw wc aa na ac fuel ca nc cc, .agg #[.int .i64 x.op, .int .i64 x.a, .int .i64 x.b]] w fun e w' => e = .returned (.bool r) ∧ Below w.heap.size w w' := by
  by_cases hr : rightN x
  · obtain ⟨op, a, b⟩ := x
    have e : ∀ p : Prop, [Decidable p] → (boundsL nr nw na ⟨op, a, b⟩ ↔ p) → decide p = r := fun p _ h => by
      rw [← hb]
      exact decide_eq_decide.2 ⟨fun q => ⟨hr, h.2 q⟩, fun q => h.1 q.2⟩
    by_cases o2 : op = 2
    · subst o2
      exact mayHave_load ra nr rc wa nw wc aa na ac fuel ca nc cc a b w hT h1 h2 hr r (e _ (by simp [boundsL]; omega))
    by_cases o3 : op = 3
    · subst o3
      exact mayHave_keep ra nr rc wa nw wc aa na ac fuel ca nc cc a b w hT h1 h2 hr r (e _ (by simp [boundsL]; omega))
    by_cases o4 : op = 4
    · subst o4
      exact mayHave_get ra nr rc wa nw wc aa na ac fuel ca nc cc a b w hT h1 h2 hr r (e _ (by simp [boundsL]; omega))
    by_cases o5 : op = 5
    · subst o5
      exact mayHave_put ra nr rc wa nw wc aa na ac fuel ca nc cc a b w hT h1 h2 hr r (e _ (by simp [boundsL]; omega))
    by_cases o6 : op = 6
    · subst o6
      exact mayHave_arg ra nr rc wa nw wc aa na ac fuel ca nc cc a b w hT h1 h2 h3 hr r (e _ (by simp [boundsL]; omega))
    obtain rfl : true = r := by
      rw [← hb]
      exact (decide_eq_true ⟨hr, by simp [boundsL, o2, o3, o4, o5, o6]⟩).symm
    exact mayHave_other ra nr rc wa nw wc aa na ac fuel ca nc cc ⟨op, a, b⟩ w hT h1 h2 hr ⟨o2, o3, o4, o5, o6⟩
  · obtain rfl : false = r := by rw [← hb]; exact (decide_eq_false fun h => hr h.1).symm
    exact mayHave_wrong ra nr rc wa nw wc aa na ac fuel ca nc cc x w hT hr

end Go.Proofs.YtlhipaecndgonaaDoor
