/-
  What instr.next answers, in whatever memory that has the kinds' table: the next instruction of a reader, for strings that have at most 2^62 bytes, whatever place.
-/
import Derived.Test.YtlffdaiideoijaaDoorInsA
import Derived.Test.YtlffdaiideoijaaDoorLayB
namespace Go.Proofs.YtlffdaiideoijaaDoor
open Go.RowKit

/-- what next leaves: an instruction and true, or none and false. -/
def NextPost (t : TypeId) (s : ByteArray) (x : Ins) (a : Int) (no : Bool) (g : Nat) (w : World) (e : Ending) (w' : World) : Prop :=
  (match no with
    | true => e = .returned (.tuple #[.agg #[.int .i64 0, .int .i64 0, .int .i64 0], .bool false])
    | false => e = .returned (.tuple #[.agg #[.int .i64 x.op, .int .i64 x.a, .int .i64 x.b], .bool true])) ∧ Bk w' g t (frV s ⟨a, no⟩) ∧ But g w w'

theorem next_fin {s : ByteArray} {g : Nat} {w w3 : World} {t : TypeId} {a : Int} {b : Bool} (K3 : Bk w3 g t (frV s ⟨a, b⟩)) (R3 : Bk w3 w.heap.size 26 (iCells ⟨0, 0, 0⟩)) (B3 : But g w w3) (hgw : g < w.heap.size) (no : Bool) (x0 x1 x2 : Value) :
    Bk ((((w3.setCell ⟨g, 2, none⟩ (.bool no)).setCell ⟨w.heap.size, 0, none⟩ x0).setCell ⟨w.heap.size, 1, none⟩ x1).setCell ⟨w.heap.size, 2, none⟩ x2) g t (frV s ⟨a, no⟩) ∧
    But g w ((((w3.setCell ⟨g, 2, none⟩ (.bool no)).setCell ⟨w.heap.size, 0, none⟩ x0).setCell ⟨w.heap.size, 1, none⟩ x1).setCell ⟨w.heap.size, 2, none⟩ x2) ∧
    Bk ((((w3.setCell ⟨g, 2, none⟩ (.bool no)).setCell ⟨w.heap.size, 0, none⟩ x0).setCell ⟨w.heap.size, 1, none⟩ x1).setCell ⟨w.heap.size, 2, none⟩ x2) w.heap.size 26 #[x0, x1, x2] :=
  ⟨(((K3.bad no).far (by simp; omega) _).far (by simp; omega) _).far (by simp; omega) _,
    (((B3.trans (But.set _ _ _)).setNew (p := ⟨w.heap.size, 0, none⟩) (Nat.le_refl _) _).setNew (p := ⟨w.heap.size, 1, none⟩) (Nat.le_refl _) _).setNew (p := ⟨w.heap.size, 2, none⟩) (Nat.le_refl _) _,
    Bk.store3 (R3.far (p := ⟨g, 2, none⟩) (by simp; omega) _) x0 x1 x2⟩

set_option maxHeartbeats 8000000 in
theorem next0 (s : ByteArray) (r : Rd) (g : Nat) (w : World) (hk : Bk w g 31 (frV s r)) (hs : s.size ≤ 4611686018427387904) (hT : HasKinds w) (hg : 0 ≠ g) (ht : takesN (byteV s r : Nat) = 0)
    (b rt : Bool) (a : Int) (hz : byteR s r = ⟨a, b⟩) (hrt : decide (rightN ⟨(byteV s r : Nat), 0, 0⟩) = rt) :
    Calls Tryd.prog 23 #[.pointer (some ⟨g, 0, none⟩)] w (NextPost 31 s ⟨(byteV s r : Nat), 0, 0⟩ a (b || !rt) g w) := by
  have hgw := hk.lt
  have hb0 : But g w (w.alloc (IObj ⟨0, 0, 0⟩)) := But.of_below ((Below.refl _ _).alloc (Nat.le_refl _) _)
  have hR0 : Bk (w.alloc (IObj ⟨0, 0, 0⟩)) w.heap.size 26 (iCells ⟨0, 0, 0⟩) := Bk.new _ _ _
  have hby := Lib.hid (byte_any s r g _ (hk.alloc (IObj ⟨0, 0, 0⟩)) hs)
  have htk : Hid (∀ W, HasKinds W → Calls Tryd.prog 17 #[.int .i64 (byteV s r : Nat)] W fun e w' => e = .returned (.int .i64 0) ∧ W = w') := Lib.hid (fun W hW => by have := takes_any (byteV s r : Nat) W hW; rw [ht] at this; exact this)
  have hri : Hid (∀ W, HasKinds W → _) := Lib.hid (fun W hW => right_any ⟨(byteV s r : Nat), 0, 0⟩ rt hrt W hW)
  rw [hz] at hby
  have hT' := Lib.hid hT
  have H0 := Lib.hid (And.intro hb0 hR0)
  clear hk hz ht hrt hT hb0 hR0
  generalize byteV s r = op at *
  cases b
  · cases rt
    · go_enter Tryd.func23, Tryd.ntmps23
      go_wp2_with (first
        | (go_at_call 29; go_must ((with_reducible refine hby.out.mono ?_); rintro e w1 ⟨rfl, hk1, hb1⟩; have hsz := hb1.size; rw [World.size_alloc] at hsz; have R1 := Lib.hid ((hb1.bk H0.out.2 (by omega)).alloc (IObj ⟨op, 0, 0⟩)); have X1 := Lib.hid (Bk.new w1 26 (iCells ⟨op, 0, 0⟩)); have K1 := Lib.hid (hk1.alloc (IObj ⟨op, 0, 0⟩)); have B1 := Lib.hid ((H0.out.1.trans hb1).trans (But.of_below ((Below.refl w1.heap.size w1).alloc (Nat.le_refl _) (IObj ⟨op, 0, 0⟩)))); obtain ⟨-, -, c2, cf⟩ := K1.out.frs; have hg1 := K1.out.lt; simp only at c2; clear hk1 hb1))
        | (go_at_call 17; go_must ((with_reducible refine (htk.out _ (hT'.out.but B1.out hg)).mono ?_); rintro e w2 ⟨rfl, rfl⟩))
        | (go_at_call 8; go_must ((with_reducible refine (hri.out _ (hT'.out.but B1.out hg)).mono ?_); rintro e w3 ⟨rfl, hb3⟩; have K3 := Lib.hid (K1.out.below hb3); have R3 := Lib.hid (R1.out.below hb3); have X3 := Lib.hid (X1.out.below hb3); have B3 := Lib.hid (B1.out.trans (But.of_below hb3)); obtain ⟨-, -, c3, cf3⟩ := K3.out.frs; have hg3 := K3.out.lt; obtain ⟨s0, s1, s2, sf⟩ := Bk.three R3.out; obtain ⟨y0, y1, y2, yf⟩ := Bk.three (show Bk w3 w1.heap.size 26 (iCells ⟨op, 0, 0⟩) from X3.out); simp only at c3 s0 s1 s2 y0 y1 y2; clear c2 cf)))
      obtain ⟨f1, f2, f3⟩ := next_fin K3.out R3.out B3.out hgw true (.int .i64 0) (.int .i64 0) (.int .i64 0)
      obtain ⟨q0, q1, q2, -⟩ := Bk.three f3
      exact bodyPost_ret (v := .tuple #[.agg #[.int .i64 0, .int .i64 0, .int .i64 0], .bool false]) (by simp [results, Tryd.results23, go_sem, q0, q1, q2]) rfl ⟨rfl, f1, f2⟩
    · go_enter Tryd.func23, Tryd.ntmps23
      go_wp2_with (first
        | (go_at_call 29; go_must ((with_reducible refine hby.out.mono ?_); rintro e w1 ⟨rfl, hk1, hb1⟩; have hsz := hb1.size; rw [World.size_alloc] at hsz; have R1 := Lib.hid ((hb1.bk H0.out.2 (by omega)).alloc (IObj ⟨op, 0, 0⟩)); have X1 := Lib.hid (Bk.new w1 26 (iCells ⟨op, 0, 0⟩)); have K1 := Lib.hid (hk1.alloc (IObj ⟨op, 0, 0⟩)); have B1 := Lib.hid ((H0.out.1.trans hb1).trans (But.of_below ((Below.refl w1.heap.size w1).alloc (Nat.le_refl _) (IObj ⟨op, 0, 0⟩)))); obtain ⟨-, -, c2, cf⟩ := K1.out.frs; have hg1 := K1.out.lt; simp only at c2; clear hk1 hb1))
        | (go_at_call 17; go_must ((with_reducible refine (htk.out _ (hT'.out.but B1.out hg)).mono ?_); rintro e w2 ⟨rfl, rfl⟩))
        | (go_at_call 8; go_must ((with_reducible refine (hri.out _ (hT'.out.but B1.out hg)).mono ?_); rintro e w3 ⟨rfl, hb3⟩; have K3 := Lib.hid (K1.out.below hb3); have R3 := Lib.hid (R1.out.below hb3); have X3 := Lib.hid (X1.out.below hb3); have B3 := Lib.hid (B1.out.trans (But.of_below hb3)); obtain ⟨-, -, c3, cf3⟩ := K3.out.frs; have hg3 := K3.out.lt; obtain ⟨s0, s1, s2, sf⟩ := Bk.three R3.out; obtain ⟨y0, y1, y2, yf⟩ := Bk.three (show Bk w3 w1.heap.size 26 (iCells ⟨op, 0, 0⟩) from X3.out); simp only at c3 s0 s1 s2 y0 y1 y2; clear c2 cf)))
      obtain ⟨f1, f2, f3⟩ := next_fin K3.out R3.out B3.out hgw false (.int .i64 op) (.int .i64 0) (.int .i64 0)
      obtain ⟨q0, q1, q2, -⟩ := Bk.three f3
      exact bodyPost_ret (v := .tuple #[.agg #[.int .i64 op, .int .i64 0, .int .i64 0], .bool true]) (by simp [results, Tryd.results23, go_sem, q0, q1, q2]) rfl ⟨rfl, f1, f2⟩
  · go_enter Tryd.func23, Tryd.ntmps23
    go_wp2_with (first
        | (go_at_call 29; go_must ((with_reducible refine hby.out.mono ?_); rintro e w1 ⟨rfl, hk1, hb1⟩; have hsz := hb1.size; rw [World.size_alloc] at hsz; have R1 := Lib.hid ((hb1.bk H0.out.2 (by omega)).alloc (IObj ⟨op, 0, 0⟩)); have X1 := Lib.hid (Bk.new w1 26 (iCells ⟨op, 0, 0⟩)); have K1 := Lib.hid (hk1.alloc (IObj ⟨op, 0, 0⟩)); have B1 := Lib.hid ((H0.out.1.trans hb1).trans (But.of_below ((Below.refl w1.heap.size w1).alloc (Nat.le_refl _) (IObj ⟨op, 0, 0⟩)))); obtain ⟨-, -, c2, cf⟩ := K1.out.frs; have hg1 := K1.out.lt; simp only at c2; obtain ⟨s0, s1, s2, sf⟩ := Bk.three R1.out; have hs1 := R1.out.lt; simp only at s0 s1 s2; clear hk1 hb1))
        | (go_at_call 17; go_must ((with_reducible refine (htk.out _ (hT'.out.but B1.out hg)).mono ?_); rintro e w2 ⟨rfl, rfl⟩)))
    obtain ⟨f1, f2, f3⟩ := next_fin K1.out R1.out B1.out hgw true (.int .i64 0) (.int .i64 0) (.int .i64 0)
    obtain ⟨q0, q1, q2, -⟩ := Bk.three f3
    exact bodyPost_ret (v := .tuple #[.agg #[.int .i64 0, .int .i64 0, .int .i64 0], .bool false]) (by simp [results, Tryd.results23, go_sem, q0, q1, q2]) rfl ⟨rfl, f1, f2⟩

set_option maxHeartbeats 8000000 in
theorem next1 (s : ByteArray) (r : Rd) (g : Nat) (w : World) (hk : Bk w g 31 (frV s r)) (hs : s.size ≤ 4611686018427387904) (hT : HasKinds w) (hg : 0 ≠ g) (ht : takesN (byteV s r : Nat) = 1)
    (b rt : Bool) (a : Int) (hz : numR s (byteR s r) = ⟨a, b⟩) (hrt : decide (rightN ⟨(byteV s r : Nat), numV s (byteR s r), 0⟩) = rt) :
    Calls Tryd.prog 23 #[.pointer (some ⟨g, 0, none⟩)] w (NextPost 31 s ⟨(byteV s r : Nat), numV s (byteR s r), 0⟩ a (b || !rt) g w) := by
  have hgw := hk.lt
  have hb0 : But g w (w.alloc (IObj ⟨0, 0, 0⟩)) := But.of_below ((Below.refl _ _).alloc (Nat.le_refl _) _)
  have hR0 : Bk (w.alloc (IObj ⟨0, 0, 0⟩)) w.heap.size 26 (iCells ⟨0, 0, 0⟩) := Bk.new _ _ _
  have hby := Lib.hid (byte_any s r g _ (hk.alloc (IObj ⟨0, 0, 0⟩)) hs)
  have htk : Hid (∀ W, HasKinds W → Calls Tryd.prog 17 #[.int .i64 (byteV s r : Nat)] W fun e w' => e = .returned (.int .i64 1) ∧ W = w') := Lib.hid (fun W hW => by have := takes_any (byteV s r : Nat) W hW; rw [ht] at this; exact this)
  have hri : Hid (∀ W, HasKinds W → _) := Lib.hid (fun W hW => right_any ⟨(byteV s r : Nat), numV s (byteR s r), 0⟩ rt hrt W hW)
  have hn1 : Hid (∀ W, Bk W g 31 (frV s (byteR s r)) → _) := Lib.hid (fun W hW => num_any s (byteR s r) g W hW hs)
  rw [hz] at hn1
  have hT' := Lib.hid hT
  have H0 := Lib.hid (And.intro hb0 hR0)
  clear hk hz ht hrt hT hb0 hR0
  generalize numV s (byteR s r) = N1 at *
  generalize byteR s r = r1 at *
  generalize byteV s r = op at *
  cases b
  · cases rt
    · go_enter Tryd.func23, Tryd.ntmps23
      go_wp2_with (first
        | (go_at_call 29; go_must ((with_reducible refine hby.out.mono ?_); rintro e w1 ⟨rfl, hk1, hb1⟩; have hsz := hb1.size; rw [World.size_alloc] at hsz; have R1 := Lib.hid ((hb1.bk H0.out.2 (by omega)).alloc (IObj ⟨op, 0, 0⟩)); have X1 := Lib.hid (Bk.new w1 26 (iCells ⟨op, 0, 0⟩)); have K1 := Lib.hid (hk1.alloc (IObj ⟨op, 0, 0⟩)); have B1 := Lib.hid ((H0.out.1.trans hb1).trans (But.of_below ((Below.refl w1.heap.size w1).alloc (Nat.le_refl _) (IObj ⟨op, 0, 0⟩)))); have hg0 := K1.out.lt; clear hk1 hb1))
        | (go_at_call 17; go_must ((with_reducible refine (htk.out _ (hT'.out.but B1.out hg)).mono ?_); rintro e w2 ⟨rfl, rfl⟩))
        | (go_at_call 30; go_must ((with_reducible refine (hn1.out _ K1.out).mono ?_); rintro e w4 ⟨rfl, hk4, hb4⟩; have R4a := Lib.hid (hb4.bk R1.out (by omega)); have R4 := Lib.hid (R4a.out.far (p := ⟨w1.heap.size, 1, none⟩) (by simp; omega) (.int .i64 N1)); have X4a := Lib.hid (hb4.bk X1.out (by omega)); have X4 := Lib.hid (X4a.out.set 1 (.int .i64 N1)); have K4 := Lib.hid (hk4.far (p := ⟨w1.heap.size, 1, none⟩) (by simp; omega) (.int .i64 N1)); have B4 := Lib.hid ((B1.out.trans hb4).setNew (p := ⟨w1.heap.size, 1, none⟩) (by simp; omega) (.int .i64 N1)); obtain ⟨x0, x1, x2, xf⟩ := Bk.three X4a.out; have hx1 := X4a.out.lt; simp only at x0 x1 x2; obtain ⟨-, -, c2, cf⟩ := Bk.frs hk4; simp only at c2; clear hk4 hb4))
        | (go_at_call 8; go_must ((with_reducible refine (hri.out _ (hT'.out.but B4.out hg)).mono ?_); rintro e w3 ⟨rfl, hb3⟩; have K3 := Lib.hid (K4.out.below hb3); have R3 := Lib.hid (R4.out.below hb3); have X3 := Lib.hid (X4.out.below hb3); have B3 := Lib.hid (B4.out.trans (But.of_below hb3)); obtain ⟨-, -, c3, cf3⟩ := K3.out.frs; have hg3 := K3.out.lt; obtain ⟨s0, s1, s2, sf⟩ := Bk.three R3.out; obtain ⟨y0, y1, y2, yf⟩ := Bk.three (show Bk w3 w1.heap.size 26 (iCells ⟨op, N1, 0⟩) from X3.out); simp only at c3 s0 s1 s2 y0 y1 y2; clear c2 cf)))
      obtain ⟨f1, f2, f3⟩ := next_fin K3.out R3.out B3.out hgw true (.int .i64 0) (.int .i64 0) (.int .i64 0)
      obtain ⟨q0, q1, q2, -⟩ := Bk.three f3
      exact bodyPost_ret (v := .tuple #[.agg #[.int .i64 0, .int .i64 0, .int .i64 0], .bool false]) (by simp [results, Tryd.results23, go_sem, q0, q1, q2]) rfl ⟨rfl, f1, f2⟩
    · go_enter Tryd.func23, Tryd.ntmps23
      go_wp2_with (first
        | (go_at_call 29; go_must ((with_reducible refine hby.out.mono ?_); rintro e w1 ⟨rfl, hk1, hb1⟩; have hsz := hb1.size; rw [World.size_alloc] at hsz; have R1 := Lib.hid ((hb1.bk H0.out.2 (by omega)).alloc (IObj ⟨op, 0, 0⟩)); have X1 := Lib.hid (Bk.new w1 26 (iCells ⟨op, 0, 0⟩)); have K1 := Lib.hid (hk1.alloc (IObj ⟨op, 0, 0⟩)); have B1 := Lib.hid ((H0.out.1.trans hb1).trans (But.of_below ((Below.refl w1.heap.size w1).alloc (Nat.le_refl _) (IObj ⟨op, 0, 0⟩)))); have hg0 := K1.out.lt; clear hk1 hb1))
        | (go_at_call 17; go_must ((with_reducible refine (htk.out _ (hT'.out.but B1.out hg)).mono ?_); rintro e w2 ⟨rfl, rfl⟩))
        | (go_at_call 30; go_must ((with_reducible refine (hn1.out _ K1.out).mono ?_); rintro e w4 ⟨rfl, hk4, hb4⟩; have R4a := Lib.hid (hb4.bk R1.out (by omega)); have R4 := Lib.hid (R4a.out.far (p := ⟨w1.heap.size, 1, none⟩) (by simp; omega) (.int .i64 N1)); have X4a := Lib.hid (hb4.bk X1.out (by omega)); have X4 := Lib.hid (X4a.out.set 1 (.int .i64 N1)); have K4 := Lib.hid (hk4.far (p := ⟨w1.heap.size, 1, none⟩) (by simp; omega) (.int .i64 N1)); have B4 := Lib.hid ((B1.out.trans hb4).setNew (p := ⟨w1.heap.size, 1, none⟩) (by simp; omega) (.int .i64 N1)); obtain ⟨x0, x1, x2, xf⟩ := Bk.three X4a.out; have hx1 := X4a.out.lt; simp only at x0 x1 x2; obtain ⟨-, -, c2, cf⟩ := Bk.frs hk4; simp only at c2; clear hk4 hb4))
        | (go_at_call 8; go_must ((with_reducible refine (hri.out _ (hT'.out.but B4.out hg)).mono ?_); rintro e w3 ⟨rfl, hb3⟩; have K3 := Lib.hid (K4.out.below hb3); have R3 := Lib.hid (R4.out.below hb3); have X3 := Lib.hid (X4.out.below hb3); have B3 := Lib.hid (B4.out.trans (But.of_below hb3)); obtain ⟨-, -, c3, cf3⟩ := K3.out.frs; have hg3 := K3.out.lt; obtain ⟨s0, s1, s2, sf⟩ := Bk.three R3.out; obtain ⟨y0, y1, y2, yf⟩ := Bk.three (show Bk w3 w1.heap.size 26 (iCells ⟨op, N1, 0⟩) from X3.out); simp only at c3 s0 s1 s2 y0 y1 y2; clear c2 cf)))
      obtain ⟨f1, f2, f3⟩ := next_fin K3.out R3.out B3.out hgw false (.int .i64 op) (.int .i64 N1) (.int .i64 0)
      obtain ⟨q0, q1, q2, -⟩ := Bk.three f3
      exact bodyPost_ret (v := .tuple #[.agg #[.int .i64 op, .int .i64 N1, .int .i64 0], .bool true]) (by simp [results, Tryd.results23, go_sem, q0, q1, q2]) rfl ⟨rfl, f1, f2⟩
  · go_enter Tryd.func23, Tryd.ntmps23
    go_wp2_with (first
        | (go_at_call 29; go_must ((with_reducible refine hby.out.mono ?_); rintro e w1 ⟨rfl, hk1, hb1⟩; have hsz := hb1.size; rw [World.size_alloc] at hsz; have R1 := Lib.hid ((hb1.bk H0.out.2 (by omega)).alloc (IObj ⟨op, 0, 0⟩)); have X1 := Lib.hid (Bk.new w1 26 (iCells ⟨op, 0, 0⟩)); have K1 := Lib.hid (hk1.alloc (IObj ⟨op, 0, 0⟩)); have B1 := Lib.hid ((H0.out.1.trans hb1).trans (But.of_below ((Below.refl w1.heap.size w1).alloc (Nat.le_refl _) (IObj ⟨op, 0, 0⟩)))); have hg0 := K1.out.lt; clear hk1 hb1))
        | (go_at_call 17; go_must ((with_reducible refine (htk.out _ (hT'.out.but B1.out hg)).mono ?_); rintro e w2 ⟨rfl, rfl⟩))
        | (go_at_call 30; go_must ((with_reducible refine (hn1.out _ K1.out).mono ?_); rintro e w4 ⟨rfl, hk4, hb4⟩; have R4a := Lib.hid (hb4.bk R1.out (by omega)); have R4 := Lib.hid (R4a.out.far (p := ⟨w1.heap.size, 1, none⟩) (by simp; omega) (.int .i64 N1)); have X4a := Lib.hid (hb4.bk X1.out (by omega)); have X4 := Lib.hid (X4a.out.set 1 (.int .i64 N1)); have K4 := Lib.hid (hk4.far (p := ⟨w1.heap.size, 1, none⟩) (by simp; omega) (.int .i64 N1)); have B4 := Lib.hid ((B1.out.trans hb4).setNew (p := ⟨w1.heap.size, 1, none⟩) (by simp; omega) (.int .i64 N1)); obtain ⟨x0, x1, x2, xf⟩ := Bk.three X4a.out; have hx1 := X4a.out.lt; simp only at x0 x1 x2; obtain ⟨-, -, c2, cf⟩ := Bk.frs hk4; simp only at c2; obtain ⟨s0, s1, s2, sf⟩ := Bk.three (R4a.out); simp only at s0 s1 s2; clear hk4 hb4)))
    obtain ⟨f1, f2, f3⟩ := next_fin K4.out R4.out B4.out hgw true (.int .i64 0) (.int .i64 0) (.int .i64 0)
    obtain ⟨q0, q1, q2, -⟩ := Bk.three f3
    exact bodyPost_ret (v := .tuple #[.agg #[.int .i64 0, .int .i64 0, .int .i64 0], .bool false]) (by simp [results, Tryd.results23, go_sem, q0, q1, q2]) rfl ⟨rfl, f1, f2⟩

set_option maxHeartbeats 8000000 in
theorem next2 (s : ByteArray) (r : Rd) (g : Nat) (w : World) (hk : Bk w g 31 (frV s r)) (hs : s.size ≤ 4611686018427387904) (hT : HasKinds w) (hg : 0 ≠ g) (ht : takesN (byteV s r : Nat) = 2)
    (b rt : Bool) (a : Int) (hz : numR s (numR s (byteR s r)) = ⟨a, b⟩) (hrt : decide (rightN ⟨(byteV s r : Nat), numV s (byteR s r), numV s (numR s (byteR s r))⟩) = rt) :
    Calls Tryd.prog 23 #[.pointer (some ⟨g, 0, none⟩)] w (NextPost 31 s ⟨(byteV s r : Nat), numV s (byteR s r), numV s (numR s (byteR s r))⟩ a (b || !rt) g w) := by
  have hgw := hk.lt
  have hb0 : But g w (w.alloc (IObj ⟨0, 0, 0⟩)) := But.of_below ((Below.refl _ _).alloc (Nat.le_refl _) _)
  have hR0 : Bk (w.alloc (IObj ⟨0, 0, 0⟩)) w.heap.size 26 (iCells ⟨0, 0, 0⟩) := Bk.new _ _ _
  have hby := Lib.hid (byte_any s r g _ (hk.alloc (IObj ⟨0, 0, 0⟩)) hs)
  have htk : Hid (∀ W, HasKinds W → Calls Tryd.prog 17 #[.int .i64 (byteV s r : Nat)] W fun e w' => e = .returned (.int .i64 2) ∧ W = w') := Lib.hid (fun W hW => by have := takes_any (byteV s r : Nat) W hW; rw [ht] at this; exact this)
  have hri : Hid (∀ W, HasKinds W → _) := Lib.hid (fun W hW => right_any ⟨(byteV s r : Nat), numV s (byteR s r), numV s (numR s (byteR s r))⟩ rt hrt W hW)
  have hn1 : Hid (∀ W, Bk W g 31 (frV s (byteR s r)) → _) := Lib.hid (fun W hW => num_any s (byteR s r) g W hW hs)
  have hn2 : Hid (∀ W, Bk W g 31 (frV s (numR s (byteR s r))) → _) := Lib.hid (fun W hW => num_any s (numR s (byteR s r)) g W hW hs)
  rw [hz] at hn2
  have hT' := Lib.hid hT
  have H0 := Lib.hid (And.intro hb0 hR0)
  clear hk hz ht hrt hT hb0 hR0
  generalize numV s (numR s (byteR s r)) = N2 at *
  generalize numV s (byteR s r) = N1 at *
  generalize numR s (byteR s r) = r2 at *
  generalize byteR s r = r1 at *
  generalize byteV s r = op at *
  have m1 : True := trivial
  cases b
  · cases rt
    · go_enter Tryd.func23, Tryd.ntmps23
      go_wp2_with (first
        | (go_at_call 29; go_must ((with_reducible refine hby.out.mono ?_); rintro e w1 ⟨rfl, hk1, hb1⟩; have hsz := hb1.size; rw [World.size_alloc] at hsz; have R1 := Lib.hid ((hb1.bk H0.out.2 (by omega)).alloc (IObj ⟨op, 0, 0⟩)); have X1 := Lib.hid (Bk.new w1 26 (iCells ⟨op, 0, 0⟩)); have K1 := Lib.hid (hk1.alloc (IObj ⟨op, 0, 0⟩)); have B1 := Lib.hid ((H0.out.1.trans hb1).trans (But.of_below ((Below.refl w1.heap.size w1).alloc (Nat.le_refl _) (IObj ⟨op, 0, 0⟩)))); have hg0 := K1.out.lt; clear hk1 hb1))
        | (go_at_call 17; go_must ((with_reducible refine (htk.out _ (hT'.out.but B1.out hg)).mono ?_); rintro e w2 ⟨rfl, rfl⟩))
        | (go_at_call 30; clear m1; go_must ((with_reducible refine (hn1.out _ K1.out).mono ?_); rintro e w4 ⟨rfl, hk4, hb4⟩; have R4a := Lib.hid (hb4.bk R1.out (by omega)); have R4 := Lib.hid (R4a.out.far (p := ⟨w1.heap.size, 1, none⟩) (by simp; omega) (.int .i64 N1)); have X4a := Lib.hid (hb4.bk X1.out (by omega)); have X4 := Lib.hid (X4a.out.set 1 (.int .i64 N1)); have K4 := Lib.hid (hk4.far (p := ⟨w1.heap.size, 1, none⟩) (by simp; omega) (.int .i64 N1)); have B4 := Lib.hid ((B1.out.trans hb4).setNew (p := ⟨w1.heap.size, 1, none⟩) (by simp; omega) (.int .i64 N1)); obtain ⟨x0, x1, x2, xf⟩ := Bk.three X4a.out; have hx1 := X4a.out.lt; simp only at x0 x1 x2; clear hk4 hb4))
        | (clear x0 x1 x2 xf hx1; go_at_call 30; go_must ((with_reducible refine (hn2.out _ K4.out).mono ?_); rintro e w5 ⟨rfl, hk5, hb5⟩; have R5a := Lib.hid (hb5.bk R4.out (by omega)); have R5 := Lib.hid (R5a.out.far (p := ⟨w1.heap.size, 2, none⟩) (by simp; omega) (.int .i64 N2)); have X5a := Lib.hid (hb5.bk X4.out (by omega)); have X5 := Lib.hid (X5a.out.set 2 (.int .i64 N2)); have K5 := Lib.hid (hk5.far (p := ⟨w1.heap.size, 2, none⟩) (by simp; omega) (.int .i64 N2)); have B5 := Lib.hid ((B4.out.trans hb5).setNew (p := ⟨w1.heap.size, 2, none⟩) (by simp; omega) (.int .i64 N2)); obtain ⟨x0, x1, x2, xf⟩ := Bk.three (show Bk w5 w1.heap.size 26 #[.int .i64 op, .int .i64 N1, .int .i64 0] from X5a.out); have hx1 := X5a.out.lt; obtain ⟨-, -, c2, cf⟩ := Bk.frs hk5; simp only at c2; clear hk5 hb5))
        | (go_at_call 8; go_must ((with_reducible refine (hri.out _ (hT'.out.but B5.out hg)).mono ?_); rintro e w3 ⟨rfl, hb3⟩; have K3 := Lib.hid (K5.out.below hb3); have R3 := Lib.hid (R5.out.below hb3); have X3 := Lib.hid (X5.out.below hb3); have B3 := Lib.hid (B5.out.trans (But.of_below hb3)); obtain ⟨-, -, c3, cf3⟩ := K3.out.frs; have hg3 := K3.out.lt; obtain ⟨s0, s1, s2, sf⟩ := Bk.three R3.out; obtain ⟨y0, y1, y2, yf⟩ := Bk.three (show Bk w3 w1.heap.size 26 (iCells ⟨op, N1, N2⟩) from X3.out); simp only at c3 s0 s1 s2 y0 y1 y2; clear c2 cf)))
      obtain ⟨f1, f2, f3⟩ := next_fin K3.out R3.out B3.out hgw true (.int .i64 0) (.int .i64 0) (.int .i64 0)
      obtain ⟨q0, q1, q2, -⟩ := Bk.three f3
      exact bodyPost_ret (v := .tuple #[.agg #[.int .i64 0, .int .i64 0, .int .i64 0], .bool false]) (by simp [results, Tryd.results23, go_sem, q0, q1, q2]) rfl ⟨rfl, f1, f2⟩
    · go_enter Tryd.func23, Tryd.ntmps23
      go_wp2_with (first
        | (go_at_call 29; go_must ((with_reducible refine hby.out.mono ?_); rintro e w1 ⟨rfl, hk1, hb1⟩; have hsz := hb1.size; rw [World.size_alloc] at hsz; have R1 := Lib.hid ((hb1.bk H0.out.2 (by omega)).alloc (IObj ⟨op, 0, 0⟩)); have X1 := Lib.hid (Bk.new w1 26 (iCells ⟨op, 0, 0⟩)); have K1 := Lib.hid (hk1.alloc (IObj ⟨op, 0, 0⟩)); have B1 := Lib.hid ((H0.out.1.trans hb1).trans (But.of_below ((Below.refl w1.heap.size w1).alloc (Nat.le_refl _) (IObj ⟨op, 0, 0⟩)))); have hg0 := K1.out.lt; clear hk1 hb1))
        | (go_at_call 17; go_must ((with_reducible refine (htk.out _ (hT'.out.but B1.out hg)).mono ?_); rintro e w2 ⟨rfl, rfl⟩))
        | (go_at_call 30; clear m1; go_must ((with_reducible refine (hn1.out _ K1.out).mono ?_); rintro e w4 ⟨rfl, hk4, hb4⟩; have R4a := Lib.hid (hb4.bk R1.out (by omega)); have R4 := Lib.hid (R4a.out.far (p := ⟨w1.heap.size, 1, none⟩) (by simp; omega) (.int .i64 N1)); have X4a := Lib.hid (hb4.bk X1.out (by omega)); have X4 := Lib.hid (X4a.out.set 1 (.int .i64 N1)); have K4 := Lib.hid (hk4.far (p := ⟨w1.heap.size, 1, none⟩) (by simp; omega) (.int .i64 N1)); have B4 := Lib.hid ((B1.out.trans hb4).setNew (p := ⟨w1.heap.size, 1, none⟩) (by simp; omega) (.int .i64 N1)); obtain ⟨x0, x1, x2, xf⟩ := Bk.three X4a.out; have hx1 := X4a.out.lt; simp only at x0 x1 x2; clear hk4 hb4))
        | (clear x0 x1 x2 xf hx1; go_at_call 30; go_must ((with_reducible refine (hn2.out _ K4.out).mono ?_); rintro e w5 ⟨rfl, hk5, hb5⟩; have R5a := Lib.hid (hb5.bk R4.out (by omega)); have R5 := Lib.hid (R5a.out.far (p := ⟨w1.heap.size, 2, none⟩) (by simp; omega) (.int .i64 N2)); have X5a := Lib.hid (hb5.bk X4.out (by omega)); have X5 := Lib.hid (X5a.out.set 2 (.int .i64 N2)); have K5 := Lib.hid (hk5.far (p := ⟨w1.heap.size, 2, none⟩) (by simp; omega) (.int .i64 N2)); have B5 := Lib.hid ((B4.out.trans hb5).setNew (p := ⟨w1.heap.size, 2, none⟩) (by simp; omega) (.int .i64 N2)); obtain ⟨x0, x1, x2, xf⟩ := Bk.three (show Bk w5 w1.heap.size 26 #[.int .i64 op, .int .i64 N1, .int .i64 0] from X5a.out); have hx1 := X5a.out.lt; obtain ⟨-, -, c2, cf⟩ := Bk.frs hk5; simp only at c2; clear hk5 hb5))
        | (go_at_call 8; go_must ((with_reducible refine (hri.out _ (hT'.out.but B5.out hg)).mono ?_); rintro e w3 ⟨rfl, hb3⟩; have K3 := Lib.hid (K5.out.below hb3); have R3 := Lib.hid (R5.out.below hb3); have X3 := Lib.hid (X5.out.below hb3); have B3 := Lib.hid (B5.out.trans (But.of_below hb3)); obtain ⟨-, -, c3, cf3⟩ := K3.out.frs; have hg3 := K3.out.lt; obtain ⟨s0, s1, s2, sf⟩ := Bk.three R3.out; obtain ⟨y0, y1, y2, yf⟩ := Bk.three (show Bk w3 w1.heap.size 26 (iCells ⟨op, N1, N2⟩) from X3.out); simp only at c3 s0 s1 s2 y0 y1 y2; clear c2 cf)))
      obtain ⟨f1, f2, f3⟩ := next_fin K3.out R3.out B3.out hgw false (.int .i64 op) (.int .i64 N1) (.int .i64 N2)
      obtain ⟨q0, q1, q2, -⟩ := Bk.three f3
      exact bodyPost_ret (v := .tuple #[.agg #[.int .i64 op, .int .i64 N1, .int .i64 N2], .bool true]) (by simp [results, Tryd.results23, go_sem, q0, q1, q2]) rfl ⟨rfl, f1, f2⟩
  · go_enter Tryd.func23, Tryd.ntmps23
    go_wp2_with (first
        | (go_at_call 29; go_must ((with_reducible refine hby.out.mono ?_); rintro e w1 ⟨rfl, hk1, hb1⟩; have hsz := hb1.size; rw [World.size_alloc] at hsz; have R1 := Lib.hid ((hb1.bk H0.out.2 (by omega)).alloc (IObj ⟨op, 0, 0⟩)); have X1 := Lib.hid (Bk.new w1 26 (iCells ⟨op, 0, 0⟩)); have K1 := Lib.hid (hk1.alloc (IObj ⟨op, 0, 0⟩)); have B1 := Lib.hid ((H0.out.1.trans hb1).trans (But.of_below ((Below.refl w1.heap.size w1).alloc (Nat.le_refl _) (IObj ⟨op, 0, 0⟩)))); have hg0 := K1.out.lt; clear hk1 hb1))
        | (go_at_call 17; go_must ((with_reducible refine (htk.out _ (hT'.out.but B1.out hg)).mono ?_); rintro e w2 ⟨rfl, rfl⟩))
        | (go_at_call 30; clear m1; go_must ((with_reducible refine (hn1.out _ K1.out).mono ?_); rintro e w4 ⟨rfl, hk4, hb4⟩; have R4a := Lib.hid (hb4.bk R1.out (by omega)); have R4 := Lib.hid (R4a.out.far (p := ⟨w1.heap.size, 1, none⟩) (by simp; omega) (.int .i64 N1)); have X4a := Lib.hid (hb4.bk X1.out (by omega)); have X4 := Lib.hid (X4a.out.set 1 (.int .i64 N1)); have K4 := Lib.hid (hk4.far (p := ⟨w1.heap.size, 1, none⟩) (by simp; omega) (.int .i64 N1)); have B4 := Lib.hid ((B1.out.trans hb4).setNew (p := ⟨w1.heap.size, 1, none⟩) (by simp; omega) (.int .i64 N1)); obtain ⟨x0, x1, x2, xf⟩ := Bk.three X4a.out; have hx1 := X4a.out.lt; simp only at x0 x1 x2; clear hk4 hb4))
        | (clear x0 x1 x2 xf hx1; go_at_call 30; go_must ((with_reducible refine (hn2.out _ K4.out).mono ?_); rintro e w5 ⟨rfl, hk5, hb5⟩; have R5a := Lib.hid (hb5.bk R4.out (by omega)); have R5 := Lib.hid (R5a.out.far (p := ⟨w1.heap.size, 2, none⟩) (by simp; omega) (.int .i64 N2)); have X5a := Lib.hid (hb5.bk X4.out (by omega)); have X5 := Lib.hid (X5a.out.set 2 (.int .i64 N2)); have K5 := Lib.hid (hk5.far (p := ⟨w1.heap.size, 2, none⟩) (by simp; omega) (.int .i64 N2)); have B5 := Lib.hid ((B4.out.trans hb5).setNew (p := ⟨w1.heap.size, 2, none⟩) (by simp; omega) (.int .i64 N2)); obtain ⟨x0, x1, x2, xf⟩ := Bk.three (show Bk w5 w1.heap.size 26 #[.int .i64 op, .int .i64 N1, .int .i64 0] from X5a.out); have hx1 := X5a.out.lt; obtain ⟨-, -, c2, cf⟩ := Bk.frs hk5; simp only at c2; obtain ⟨s0, s1, s2, sf⟩ := Bk.three (R5a.out); simp only at s0 s1 s2; clear hk5 hb5)))
    obtain ⟨f1, f2, f3⟩ := next_fin K5.out R5.out B5.out hgw true (.int .i64 0) (.int .i64 0) (.int .i64 0)
    obtain ⟨q0, q1, q2, -⟩ := Bk.three f3
    exact bodyPost_ret (v := .tuple #[.agg #[.int .i64 0, .int .i64 0, .int .i64 0], .bool false]) (by simp [results, Tryd.results23, go_sem, q0, q1, q2]) rfl ⟨rfl, f1, f2⟩

end Go.Proofs.YtlffdaiideoijaaDoor
