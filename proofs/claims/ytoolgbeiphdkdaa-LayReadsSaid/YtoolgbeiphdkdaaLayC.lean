/-
  What Nums of lay.From answers, in whatever memory: for strings that have at most 2^62 bytes, whatever place and bound.
-/
import Derived.Test.YtoolgbeiphdkdaaLayB
import Derived.Test.YtoolgbeiphdkdaaOwn
namespace Go.Proofs.Ytoolgbeiphdkdaa
open Go.RowKit

theorem infoInt : (Try.prog.info? 3).map (fun i => (i.zero, i.size, i.bytes)) = some (some (.int .i64 0), 1, 8) := by kernel_rfl

/-- of a new array of so many noughts. -/
theorem make_ints (w : World) (n : Nat) (h : n ≤ 1048576) :
    (Instr.makeSlice 22 (.int .i64 (n : Int)) (.int .i64 (n : Int))).run Try.prog w = .ok (.slice (some ⟨w.heap.size, 0, none⟩) n n) (w.alloc (.cells (madeCells #[.int .i64 0] n) 3)) :=
  run_make_row' 22 3 _ 8 Try.underlying22 infoInt rfl .i64 .i64 n (by omega) (by omega) w

/-- what Nums leaves. -/
def NumsPost (t : TypeId) (s : ByteArray) (r : Rd) (most : Int) (g : Nat) (w : World) (e : Ending) (w' : World) : Prop :=
  ∃ v, e = .returned v ∧ w'.ownsRow w.heap.size 3 1 v (numsL s most r).length ((numsL s most r).map (.int .i64)) ∧ Bk w' g t (frV s (numsR s most r)) ∧ But g w w'

theorem numsA_bad {s : ByteArray} {most : Int} {r : Rd} (h : (byteR s r).bad = true) : numsA s most r = byteR s r := by
  rw [numsA, if_pos (.inl h)]
  cases hb : byteR s r with
  | mk a b => rw [hb] at h; simp only at h; subst h; rfl
theorem numsA_much {s : ByteArray} {most : Int} {r : Rd} (h : most < (byteV s r : Int)) : numsA s most r = ⟨(byteR s r).at_, true⟩ := by
  rw [numsA, if_pos (.inr h)]
theorem numsA_fine {s : ByteArray} {most : Int} {r : Rd} (h : (byteR s r).bad = false) (h' : ¬ most < (byteV s r : Int)) : numsA s most r = byteR s r := by
  rw [numsA, if_neg (by rw [h]; simp [h'])]

set_option maxHeartbeats 2000000 in
theorem nums_any (s : ByteArray) (r : Rd) (most : Int) (g : Nat) (w : World) (hk : Bk w g 30 (frV s r)) (hs : s.size ≤ 4611686018427387904) :
    Calls Try.prog 18 #[.pointer (some ⟨g, 0, none⟩), .int .i64 most] w (NumsPost 30 s r most g w) := by
  have hv := byteV_lt s r
  have hg := hk.lt
  have hmk := fun W => make_ints W (byteV s r) (by omega)
  have hby := Lib.hid (byte_any s r g w hk hs)
  have hL : Hid (numsL s most r = if (itN s (byteV s r) (numsA s most r)).bad = true then [] else numsOf s (byteV s r) (numsA s most r)) := Lib.hid rfl
  have hRR : Hid (numsR s most r = itN s (byteV s r) (numsA s most r)) := Lib.hid rfl
  have h3 : (byteR s r).bad = true ∨ (byteR s r).bad = false ∧ (most < (byteV s r : Int)) ∨ (byteR s r).bad = false ∧ ¬ (most < (byteV s r : Int)) := by
    cases (byteR s r).bad <;> by_cases h : most < (byteV s r : Int) <;> simp [h]
  clear hk
  rcases h3 with h1 | ⟨h1, h2⟩ | ⟨h1, h2⟩
  · have hA := Lib.hid (numsA_bad (most := most) h1)
    generalize numsA s most r = R2 at *
    generalize byteR s r = R1 at *
    generalize byteV s r = n at *
    obtain ⟨a1, b1⟩ := R1
    simp only at h1
    subst h1
    clear hg
    go_enter Try.func18, Try.ntmps18
    go_wp2_with (go_at_call 13; go_must ((with_reducible refine hby.out.mono ?_); rintro e w1 ⟨rfl, hk1, hb1⟩; obtain ⟨-, -, c2, hf⟩ := hk1.three; have hg1 := hk1.lt; simp only at c2))
    have hk2 : Bk ((w1.setCell ⟨g, 2, none⟩ (.bool true)).alloc (.cells (madeCells #[.int .i64 0] n) 3)) g 30 (frV s R2) := by
      rw [hA.out]
      exact (hk1.bad true).alloc _
    have hm0 : Bk ((w1.setCell ⟨g, 2, none⟩ (.bool true)).alloc (.cells (madeCells #[.int .i64 0] n) 3)) w1.heap.size 3 (mixV n 0 (fun i => .int .i64 (numV s (itN s i R2))) fun _ => .int .i64 0) := by
      have := Bk.new (w1.setCell ⟨g, 2, none⟩ (.bool true)) 3 (madeCells #[.int .i64 0] n)
      rw [World.size_setCell] at this
      rw [← mixV_made n (fun i => .int .i64 (numV s (itN s i R2)))]
      exact this
    have hb2 : But g w ((w1.setCell ⟨g, 2, none⟩ (.bool true)).alloc (.cells (madeCells #[.int .i64 0] n) 3)) := (hb1.trans (But.set _ _ _)).trans (But.of_below ((Below.refl _ _).alloc (Nat.le_refl _) _))
    have hsz := hb1.size
    clear hA hk1 hb1 c2 hf hby hmk
    generalize ((w1.setCell ⟨g, 2, none⟩ (.bool true)).alloc (.cells (madeCells #[.int .i64 0] n) 3)) = W0 at *
    generalize w1.heap.size = h at *
    have hne : h ≠ g := by omega
    go_loopw [27] (fun c wr => ∃ i : Nat, i ≤ n ∧ c = .int .i64 i ∧ Bk wr g 30 (frV s (itN s i R2)) ∧ Bk wr h 3 (mixV n i (fun i => .int .i64 (numV s (itN s i R2))) fun _ => .int .i64 0) ∧ But g w wr) (fun c _ => n - (intOf c).toNat)
    case atStart => exact ⟨0, Nat.zero_le _, rfl, hk2, hm0, hb2⟩
    case round =>
      clear hk2 hm0 hb2
      obtain ⟨i, hi, rfl, hk, hm, hb⟩ := hrel
      by_cases hlt : i < n
      · have hnum := Lib.hid (num_any s (itN s i R2) g wr hk hs)
        have hm' := Lib.hid hm
        have hst := Lib.hid (mixV_set n i (fun i => Value.int .i64 (numV s (itN s i R2))) (fun _ => .int .i64 0) hlt)
        have hat := mixV_at n i (fun i => Value.int .i64 (numV s (itN s i R2))) (fun _ => .int .i64 0) i hlt
        rw [if_neg (by omega)] at hat
        have hat' := Lib.hid hat
        clear hm hk hat
        go_wp2_with (go_at_call 15; go_must ((with_reducible refine hnum.out.mono ?_); rintro e w2 ⟨rfl, hk3, hb3⟩; have hm3 := hb3.bk hm'.out hne; have hc3 := (hm3.cell i).trans hat'.out; have hf3 := hm3.frozen i))
        go_roundw
        case rel => exact ⟨i + 1, by omega, by go_num, hk3.far (Ne.symm hne) _, by rw [← hst.out]; exact hm3.set i _, (hb.trans hb3).setNew hsz _⟩
        case measure => simp [intOf]; omega
      · obtain rfl : i = n := by omega
        obtain ⟨-, -, c2, -⟩ := hk.three
        have hk' := Lib.hid hk
        have hm' := Lib.hid hm
        clear hk hm
        cases hbad : (itN s i R2).bad with
        | true =>
          rw [hbad] at c2
          have hbad' := Lib.hid hbad
          clear hbad
          go_wp2
          go_ret
          refine ⟨_, rfl, ?_, by rw [hRR.out]; exact hk'.out, hb⟩
          rw [hL.out, if_pos hbad'.out]
          exact ⟨rfl, .inl ⟨rfl, rfl⟩⟩
        | false =>
          rw [hbad] at c2
          have hbad' := Lib.hid hbad
          clear hbad
          go_wp2
          go_ret
          refine ⟨_, rfl, ?_, by rw [hRR.out]; exact hk'.out, hb⟩
          rw [hL.out, if_neg (by rw [hbad'.out]; decide)]
          have hown := own_full hm'.out hsz (by unfold maxLen; omega)
          simpa [numsOf, Function.comp_def] using hown
  · have hA := Lib.hid (numsA_much h2)
    generalize numsA s most r = R2 at *
    generalize byteR s r = R1 at *
    generalize byteV s r = n at *
    obtain ⟨a1, b1⟩ := R1
    simp only at h1
    subst h1
    have h2' : most < (n : Int) := h2
    clear h2
    clear hg
    go_enter Try.func18, Try.ntmps18
    go_wp2_with (go_at_call 13; go_must ((with_reducible refine hby.out.mono ?_); rintro e w1 ⟨rfl, hk1, hb1⟩; obtain ⟨-, -, c2, hf⟩ := hk1.three; have hg1 := hk1.lt; simp only at c2))
    have hk2 : Bk ((w1.setCell ⟨g, 2, none⟩ (.bool true)).alloc (.cells (madeCells #[.int .i64 0] n) 3)) g 30 (frV s R2) := by
      rw [hA.out]
      exact (hk1.bad true).alloc _
    have hm0 : Bk ((w1.setCell ⟨g, 2, none⟩ (.bool true)).alloc (.cells (madeCells #[.int .i64 0] n) 3)) w1.heap.size 3 (mixV n 0 (fun i => .int .i64 (numV s (itN s i R2))) fun _ => .int .i64 0) := by
      have := Bk.new (w1.setCell ⟨g, 2, none⟩ (.bool true)) 3 (madeCells #[.int .i64 0] n)
      rw [World.size_setCell] at this
      rw [← mixV_made n (fun i => .int .i64 (numV s (itN s i R2)))]
      exact this
    have hb2 : But g w ((w1.setCell ⟨g, 2, none⟩ (.bool true)).alloc (.cells (madeCells #[.int .i64 0] n) 3)) := (hb1.trans (But.set _ _ _)).trans (But.of_below ((Below.refl _ _).alloc (Nat.le_refl _) _))
    have hsz := hb1.size
    clear hA hk1 hb1 c2 hf hby hmk
    generalize ((w1.setCell ⟨g, 2, none⟩ (.bool true)).alloc (.cells (madeCells #[.int .i64 0] n) 3)) = W0 at *
    generalize w1.heap.size = h at *
    have hne : h ≠ g := by omega
    go_loopw [27] (fun c wr => ∃ i : Nat, i ≤ n ∧ c = .int .i64 i ∧ Bk wr g 30 (frV s (itN s i R2)) ∧ Bk wr h 3 (mixV n i (fun i => .int .i64 (numV s (itN s i R2))) fun _ => .int .i64 0) ∧ But g w wr) (fun c _ => n - (intOf c).toNat)
    case atStart => exact ⟨0, Nat.zero_le _, rfl, hk2, hm0, hb2⟩
    case round =>
      clear hk2 hm0 hb2
      obtain ⟨i, hi, rfl, hk, hm, hb⟩ := hrel
      by_cases hlt : i < n
      · have hnum := Lib.hid (num_any s (itN s i R2) g wr hk hs)
        have hm' := Lib.hid hm
        have hst := Lib.hid (mixV_set n i (fun i => Value.int .i64 (numV s (itN s i R2))) (fun _ => .int .i64 0) hlt)
        have hat := mixV_at n i (fun i => Value.int .i64 (numV s (itN s i R2))) (fun _ => .int .i64 0) i hlt
        rw [if_neg (by omega)] at hat
        have hat' := Lib.hid hat
        clear hm hk hat
        go_wp2_with (go_at_call 15; go_must ((with_reducible refine hnum.out.mono ?_); rintro e w2 ⟨rfl, hk3, hb3⟩; have hm3 := hb3.bk hm'.out hne; have hc3 := (hm3.cell i).trans hat'.out; have hf3 := hm3.frozen i))
        go_roundw
        case rel => exact ⟨i + 1, by omega, by go_num, hk3.far (Ne.symm hne) _, by rw [← hst.out]; exact hm3.set i _, (hb.trans hb3).setNew hsz _⟩
        case measure => simp [intOf]; omega
      · obtain rfl : i = n := by omega
        obtain ⟨-, -, c2, -⟩ := hk.three
        have hk' := Lib.hid hk
        have hm' := Lib.hid hm
        clear hk hm
        cases hbad : (itN s i R2).bad with
        | true =>
          rw [hbad] at c2
          have hbad' := Lib.hid hbad
          clear hbad
          go_wp2
          go_ret
          refine ⟨_, rfl, ?_, by rw [hRR.out]; exact hk'.out, hb⟩
          rw [hL.out, if_pos hbad'.out]
          exact ⟨rfl, .inl ⟨rfl, rfl⟩⟩
        | false =>
          rw [hbad] at c2
          have hbad' := Lib.hid hbad
          clear hbad
          go_wp2
          go_ret
          refine ⟨_, rfl, ?_, by rw [hRR.out]; exact hk'.out, hb⟩
          rw [hL.out, if_neg (by rw [hbad'.out]; decide)]
          have hown := own_full hm'.out hsz (by unfold maxLen; omega)
          simpa [numsOf, Function.comp_def] using hown
  · have hA := Lib.hid (numsA_fine h1 h2)
    generalize numsA s most r = R2 at *
    generalize byteR s r = R1 at *
    generalize byteV s r = n at *
    obtain ⟨a1, b1⟩ := R1
    simp only at h1
    subst h1
    have h2' : decide (most < (n : Int)) = false := by simpa using h2
    clear h2
    clear hg
    go_enter Try.func18, Try.ntmps18
    go_wp2_with (go_at_call 13; go_must ((with_reducible refine hby.out.mono ?_); rintro e w1 ⟨rfl, hk1, hb1⟩; obtain ⟨-, -, c2, hf⟩ := hk1.three; have hg1 := hk1.lt; simp only at c2))
    have hk2 : Bk ((w1.setCell ⟨g, 2, none⟩ (.bool false)).alloc (.cells (madeCells #[.int .i64 0] n) 3)) g 30 (frV s R2) := by
      rw [hA.out]
      exact (hk1.bad false).alloc _
    have hm0 : Bk ((w1.setCell ⟨g, 2, none⟩ (.bool false)).alloc (.cells (madeCells #[.int .i64 0] n) 3)) w1.heap.size 3 (mixV n 0 (fun i => .int .i64 (numV s (itN s i R2))) fun _ => .int .i64 0) := by
      have := Bk.new (w1.setCell ⟨g, 2, none⟩ (.bool false)) 3 (madeCells #[.int .i64 0] n)
      rw [World.size_setCell] at this
      rw [← mixV_made n (fun i => .int .i64 (numV s (itN s i R2)))]
      exact this
    have hb2 : But g w ((w1.setCell ⟨g, 2, none⟩ (.bool false)).alloc (.cells (madeCells #[.int .i64 0] n) 3)) := (hb1.trans (But.set _ _ _)).trans (But.of_below ((Below.refl _ _).alloc (Nat.le_refl _) _))
    have hsz := hb1.size
    clear hA hk1 hb1 c2 hf hby hmk
    generalize ((w1.setCell ⟨g, 2, none⟩ (.bool false)).alloc (.cells (madeCells #[.int .i64 0] n) 3)) = W0 at *
    generalize w1.heap.size = h at *
    have hne : h ≠ g := by omega
    go_loopw [27] (fun c wr => ∃ i : Nat, i ≤ n ∧ c = .int .i64 i ∧ Bk wr g 30 (frV s (itN s i R2)) ∧ Bk wr h 3 (mixV n i (fun i => .int .i64 (numV s (itN s i R2))) fun _ => .int .i64 0) ∧ But g w wr) (fun c _ => n - (intOf c).toNat)
    case atStart => exact ⟨0, Nat.zero_le _, rfl, hk2, hm0, hb2⟩
    case round =>
      clear hk2 hm0 hb2
      obtain ⟨i, hi, rfl, hk, hm, hb⟩ := hrel
      by_cases hlt : i < n
      · have hnum := Lib.hid (num_any s (itN s i R2) g wr hk hs)
        have hm' := Lib.hid hm
        have hst := Lib.hid (mixV_set n i (fun i => Value.int .i64 (numV s (itN s i R2))) (fun _ => .int .i64 0) hlt)
        have hat := mixV_at n i (fun i => Value.int .i64 (numV s (itN s i R2))) (fun _ => .int .i64 0) i hlt
        rw [if_neg (by omega)] at hat
        have hat' := Lib.hid hat
        clear hm hk hat
        go_wp2_with (go_at_call 15; go_must ((with_reducible refine hnum.out.mono ?_); rintro e w2 ⟨rfl, hk3, hb3⟩; have hm3 := hb3.bk hm'.out hne; have hc3 := (hm3.cell i).trans hat'.out; have hf3 := hm3.frozen i))
        go_roundw
        case rel => exact ⟨i + 1, by omega, by go_num, hk3.far (Ne.symm hne) _, by rw [← hst.out]; exact hm3.set i _, (hb.trans hb3).setNew hsz _⟩
        case measure => simp [intOf]; omega
      · obtain rfl : i = n := by omega
        obtain ⟨-, -, c2, -⟩ := hk.three
        have hk' := Lib.hid hk
        have hm' := Lib.hid hm
        clear hk hm
        cases hbad : (itN s i R2).bad with
        | true =>
          rw [hbad] at c2
          have hbad' := Lib.hid hbad
          clear hbad
          go_wp2
          go_ret
          refine ⟨_, rfl, ?_, by rw [hRR.out]; exact hk'.out, hb⟩
          rw [hL.out, if_pos hbad'.out]
          exact ⟨rfl, .inl ⟨rfl, rfl⟩⟩
        | false =>
          rw [hbad] at c2
          have hbad' := Lib.hid hbad
          clear hbad
          go_wp2
          go_ret
          refine ⟨_, rfl, ?_, by rw [hRR.out]; exact hk'.out, hb⟩
          rw [hL.out, if_neg (by rw [hbad'.out]; decide)]
          have hown := own_full hm'.out hsz (by unfold maxLen; omega)
          simpa [numsOf, Function.comp_def] using hown
end Go.Proofs.Ytoolgbeiphdkdaa
