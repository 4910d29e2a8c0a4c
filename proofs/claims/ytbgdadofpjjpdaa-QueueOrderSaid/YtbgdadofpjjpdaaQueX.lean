/-
  QueueReads, walked: true of any two bytes, in whatever memory.
-/
import Derived.Test.YtbgdadofpjjpdaaQueW
import Derived.Test.YtbgdadofpjjpdaaQueR
namespace Go.Proofs.Ytbgdadofpjjpdaa
open Go.RowKit Go.Shelf

/-- an answer in a row of one's own from a bound on. -/
def OPost (B : Nat) (l : List Wnt) (w : World) (e : Ending) (w' : World) : Prop :=
  ∃ A n c, e = .returned (.slice A n c) ∧ OwnW B w' A n c l ∧ Below w.heap.size w w'
theorem ask_O {B : Nat} {l : List Wnt} {A : Option Addr} {n c : Nat} {w : World} (h : OwnW B w A n c l) (hB : B ≤ w.heap.size) (hz : n ≤ 10000) (s : Int) (ex : Bool) : Calls Try.prog 8 #[.slice A n c, .int .i64 s, .bool ex] w (OPost B (askN l s ex) w) :=
  (ask_any l A n c s ex w h.sl h.1 hz).mono fun _ _ ⟨A', n', c', he, hO, hb⟩ => ⟨A', n', c', he, hO.lower hB, hb⟩
theorem give_O {B : Nat} {l : List Wnt} {A : Option Addr} {n c : Nat} {w : World} (h : OwnW B w A n c l) (hB : B ≤ w.heap.size) (hz : n ≤ 10000) (s : Int) : Calls Try.prog 10 #[.slice A n c, .int .i64 s] w (OPost B (giveN l s) w) :=
  (give_any l A n c s w h.sl h.1 hz).mono fun _ _ ⟨A', n', c', he, hO, hb⟩ => ⟨A', n', c', he, hO.lower hB, hb⟩
theorem has_O {B : Nat} {K : Keys} {A : Option Addr} {n c : Nat} {w : World} (h : OwnW B w A n c (grK K)) (hz : n ≤ 10000) (s : Int) (b : Bool) (hb : hasS (grK K) s = b) : Calls Try.prog 13 #[.slice A n c, .int .i64 s] w fun e w' => e = .returned (.bool b) ∧ Below w.heap.size w w' :=
  has_K K A n c s b w h.sl (by have := h.1; rwa [grK_length] at this) hz hb
theorem OwnW.none (B : Nat) (w : World) : OwnW B w none 0 0 (grK []) := ⟨rfl, by simp [grK, wntsW], .inl ⟨rfl, rfl⟩⟩

set_option maxHeartbeats 8000000 in
set_option maxRecDepth 100000 in
theorem queueReads_walk (a b : Int) (ha : 0 ≤ a ∧ a ≤ 255) (hb : 0 ≤ b ∧ b ≤ 255) (w : World) :
    Calls Try.prog 6 #[.int .u8 a, .int .u8 b] w fun e w' => e = .returned (.bool true) ∧ Below w.heap.size w w' := by
  obtain ⟨N, hN⟩ : ∃ N : Nat, a % 20 = (N : Int) := ⟨(a % 20).toNat, by omega⟩
  obtain ⟨M, hM⟩ : ∃ M : Nat, b % 20 = (M : Int) := ⟨(b % 20).toNat, by omega⟩
  have hN20 : N ≤ 20 := by omega
  have hM20 : M ≤ 20 := by omega
  have h0a : 0 ≤ a := ha.1
  have h0b : 0 ≤ b := hb.1
  have aw := Lib.hid (fun W => awake14 W)
  have O0 : Hid (OwnW w.heap.size w none 0 0 (grK (readersK 0 0 0))) := Lib.hid (OwnW.none _ _)
  clear ha hb
  go_enter Try.func6, Try.ntmps6
  go_wp2
  go_loopw [5, 6] (fun ls cc wr => ∃ (i q c : Nat) (A : Option Addr), i ≤ N ∧ q ≤ 100 ∧ cc = .int .i64 i ∧ ls = .slice A q c ∧ Hid (OwnW w.heap.size wr A q c (grK (readersK 0 i 0))) ∧ Hid (Below w.heap.size w wr)) (fun _ cc _ => N - (intOf cc).toNat)
  case atStart => exact ⟨0, 0, 0, none, by omega, by omega, rfl, rfl, O0, Lib.hid (Below.refl _ _)⟩
  case round =>
    obtain ⟨i, q, c, A, hi, hq, rfl, rfl, HO, HB⟩ := hrel
    by_cases hlt : i < N
    · have d1 : (i : Int) < (N : Int) := by omega
      have hask := Lib.hid (ask_O HO.out HB.out.size (by omega) (i : Int) false)
      go_wp2_with (go_at_call 8; go_must ((with_reducible refine hask.out.mono ?_); rintro e w1 ⟨A1, n1, c1, rfl, hO, hb1⟩; rw [readers_ask] at hO; have O1 := Lib.hid hO; have B1 := Lib.hid (HB.out.trans (hb1.mono HB.out.size)); have q1 : n1 ≤ 100 := (by have := hO.1; rw [grK_length, readers_length] at this; omega); clear hO hb1))
      go_roundw
      case rel => exact ⟨i + 1, n1, c1, A1, by omega, q1, by go_num, rfl, O1, B1⟩
      case measure => simp [intOf]; omega
    · obtain rfl : i = N := by omega
      have hask := Lib.hid (ask_O HO.out HB.out.size (by omega) 100 true)
      clear hlt
      go_wp2_with (go_at_call 8; go_must ((with_reducible refine hask.out.mono ?_); rintro e w1 ⟨A1, n1, c1, rfl, hO, hb1⟩; rw [writer_ask] at hO; have O1 := Lib.hid hO; have B1 := Lib.hid (HB.out.trans (hb1.mono HB.out.size)); have q1 : n1 ≤ 100 := (by have := hO.1; rw [grK_length, line_length] at this; omega); clear hO hb1))
      go_loopw [5, 7] (fun ls cc wr => ∃ (j q c : Nat) (A : Option Addr), j ≤ M ∧ q ≤ 100 ∧ cc = .int .i64 j ∧ ls = .slice A q c ∧ Hid (OwnW w.heap.size wr A q c (grK (lineK 0 i j))) ∧ Hid (Below w.heap.size w wr)) (fun _ cc _ => M - (intOf cc).toNat)
      case atStart => exact ⟨0, n1, c1, A1, by omega, q1, rfl, rfl, O1, B1⟩
      case round =>
        obtain ⟨j, q, c, A, hj, hq, rfl, rfl, HO, HB⟩ := hrel
        by_cases hlt : j < M
        · have d1 : (j : Int) < (M : Int) := by omega
          have d2 : IntKind.i64.wrap (200 + (j : Int)) = 200 + (j : Int) := by rw [IntKind.wrap_i64]; omega
          have hask := Lib.hid (ask_O HO.out HB.out.size (by omega) (200 + (j : Int)) false)
          go_wp2_with (go_at_call 8; go_must ((with_reducible refine hask.out.mono ?_); rintro e w1 ⟨A1, n1, c1, rfl, hO, hb1⟩; rw [line_ask] at hO; have O1 := Lib.hid hO; have B1 := Lib.hid (HB.out.trans (hb1.mono HB.out.size)); have q1 : n1 ≤ 100 := (by have := hO.1; rw [grK_length, line_length] at this; omega); clear hO hb1))
          go_roundw
          case rel => exact ⟨j + 1, n1, c1, A1, by omega, q1, by go_num, rfl, O1, B1⟩
          case measure => simp [intOf]; omega
        · obtain rfl : j = M := by omega
          clear hlt
          go_wp2
          simp only [hM]
          go_loopw [4, 5, 8] (fun _ ls cc wr => ∃ (k q c : Nat) (A : Option Addr), k ≤ i ∧ q ≤ 100 ∧ cc = .int .i64 k ∧ ls = .slice A q c ∧ Hid (OwnW w.heap.size wr A q c (grK (lineK k i j))) ∧ Hid (Below w.heap.size w wr)) (fun _ _ cc _ => i - (intOf cc).toNat)
          case atStart => exact ⟨0, q, c, A, by omega, hq, rfl, rfl, HO, HB⟩
          case round =>
            obtain ⟨k, q, c, A, hk, hq, rfl, rfl, HO, HB⟩ := hrel
            by_cases hlt : k < i
            · have d1 : (k : Int) < (i : Int) := by omega
              have h1 := Lib.hid (has_O HO.out (by omega) (k : Int) true (line_first hlt j))
              have h2 : Hid (∀ W, Below wr.heap.size wr W → Calls Try.prog 13 #[.slice A q c, .int .i64 100] W fun e w' => e = .returned (.bool false) ∧ Below W.heap.size W w') := Lib.hid (fun W hW => has_O (HO.out.below hW) (by omega) 100 false (line_writer hlt (by omega) j))
              have hg : Hid (∀ W, Below wr.heap.size wr W → Calls Try.prog 10 #[.slice A q c, .int .i64 (k : Int)] W (OPost w.heap.size (giveN (grK (lineK k i j)) (k : Int)) W)) := Lib.hid (fun W hW => give_O (HO.out.below hW) (Nat.le_trans HB.out.size hW.size) (by omega) (k : Int))
              have HE := Lib.hid (line_give hlt (by omega) j)
              go_wp2_with (first
                | (go_at_call 13; (with_reducible refine h1.out.mono ?_); go_must (rintro e w1 ⟨rfl, hb1⟩; have C1 := Lib.hid hb1; clear hb1))
                | (go_at_call 13; (with_reducible refine (h2.out _ C1.out).mono ?_); go_must (rintro e w2 ⟨rfl, hb2⟩; have C2 := Lib.hid (bnext C1.out hb2); clear hb2))
                | (go_at_call 10; go_must ((with_reducible refine (hg.out _ C2.out).mono ?_); rintro e w3 ⟨A1, n1, c1, rfl, hO, hb1⟩; rw [HE.out] at hO; have O1 := Lib.hid hO; have B1 := Lib.hid (HB.out.trans ((bnext C2.out hb1).mono HB.out.size)); have q1 : n1 ≤ 100 := (by have := hO.1; rw [grK_length, line_length] at this; omega); clear hO hb1)))
              go_roundw
              case rel => exact ⟨k + 1, n1, c1, A1, by omega, q1, by go_num, rfl, O1, B1⟩
              case measure => simp [intOf]; omega
            · obtain rfl : k = i := by omega
              have h1 := Lib.hid (has_O HO.out (by omega) 100 true (alone_writer k j))
              clear hlt
              go_wp2_with (go_at_call 13; (with_reducible refine h1.out.mono ?_); go_must (rintro e w1 ⟨rfl, hb1⟩; have O2 := Lib.hid (HO.out.below hb1); have B2 := Lib.hid (HB.out.trans (hb1.mono HB.out.size)); clear hb1))
              go_loopw [4, 9] (fun _ cc wr => ∃ t : Nat, t ≤ j ∧ cc = .int .i64 t ∧ Hid (OwnW w.heap.size wr A q c (grK (lineK k k j))) ∧ Hid (Below w.heap.size w wr)) (fun _ cc _ => j - (intOf cc).toNat)
              case atStart => exact ⟨0, by omega, rfl, O2, B2⟩
              case round =>
                obtain ⟨t, ht, rfl, HO, HB⟩ := hrel
                by_cases hlt : t < j
                · have d1 : (t : Int) < (j : Int) := by omega
                  have d2 : IntKind.i64.wrap (200 + (t : Int)) = 200 + (t : Int) := by rw [IntKind.wrap_i64]; omega
                  have h1 := Lib.hid (has_O HO.out (by omega) (200 + (t : Int)) false (behind_writer k hlt))
                  go_wp2_with (go_at_call 13; (with_reducible refine h1.out.mono ?_); go_must (rintro e w1 ⟨rfl, hb1⟩; have O2 := Lib.hid (HO.out.below hb1); have B2 := Lib.hid (HB.out.trans (hb1.mono HB.out.size)); clear hb1))
                  go_roundw
                  case rel => exact ⟨t + 1, by omega, by go_num, O2, B2⟩
                  case measure => simp [intOf]; omega
                · obtain rfl : t = j := by omega
                  have hg := Lib.hid (give_O HO.out HB.out.size (by omega) 100)
                  clear hlt
                  go_wp2_with (go_at_call 10; go_must ((with_reducible refine hg.out.mono ?_); rintro e w3 ⟨A1, n1, c1, rfl, hO, hb1⟩; rw [writer_give] at hO; have O1 := Lib.hid hO; have B1 := Lib.hid (HB.out.trans (hb1.mono HB.out.size)); obtain rfl : t = n1 := (by have := hO.1; rw [grK_length, readers_length] at this; omega); clear hO hb1))
                  go_loopw [4, 10] (fun _ cc wr => ∃ v : Nat, v ≤ t ∧ cc = .int .i64 v ∧ Hid (OwnW w.heap.size wr A1 t c1 (grK (readersK 0 t 200))) ∧ Hid (Below w.heap.size w wr)) (fun _ cc _ => t - (intOf cc).toNat)
                  case atStart => exact ⟨0, by omega, rfl, O1, B1⟩
                  case round =>
                    obtain ⟨v, hv, rfl, HO, HB⟩ := hrel
                    by_cases hlt : v < t
                    · have d1 : (v : Int) < (t : Int) := by omega
                      have d2 : IntKind.i64.wrap (200 + (v : Int)) = 200 + (v : Int) := by rw [IntKind.wrap_i64]; omega
                      have h1 := Lib.hid (has_O HO.out (by omega) (200 + (v : Int)) true (all_readers hlt))
                      go_wp2_with (go_at_call 13; (with_reducible refine h1.out.mono ?_); go_must (rintro e w1 ⟨rfl, hb1⟩; have O2 := Lib.hid (HO.out.below hb1); have B2 := Lib.hid (HB.out.trans (hb1.mono HB.out.size)); clear hb1))
                      go_roundw
                      case rel => exact ⟨v + 1, by omega, by go_num, O2, B2⟩
                      case measure => simp [intOf]; omega
                    · obtain rfl : v = t := by omega
                      clear hlt
                      go_wp2_with (go_at_call 7; go_must ((with_reducible refine (aw.out _).mono ?_); rintro e w9 ⟨rfl, hb9⟩; have B9 := Lib.hid (HB.out.trans (hb9.mono HB.out.size)); clear hb9))
                      go_ret
                      exact ⟨rfl, B9.out⟩

end Go.Proofs.Ytbgdadofpjjpdaa
