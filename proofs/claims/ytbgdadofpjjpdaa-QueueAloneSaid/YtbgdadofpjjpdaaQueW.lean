/-
  awake of layer 14's laws: true, in whatever memory; answers of so many.
-/
import Derived.Test.YtbgdadofpjjpdaaQueD
namespace Go.Proofs.Ytbgdadofpjjpdaa
open Go.RowKit Go.Shelf

/-- an answer: those of these keys, so many. -/
def KPost (K : Keys) (n : Nat) (w : World) (e : Ending) (w' : World) : Prop :=
  ∃ A c, e = .returned (.slice A n c) ∧ OwnW w.heap.size w' A n c (grK K) ∧ Below w.heap.size w w'
theorem WnPost.keys {l : List Wnt} {K : Keys} {n : Nat} {w : World} {e : Ending} {w' : World} (h : WnPost l w e w') (hl : l = grK K) (hn : K.length = n) : KPost K n w e w' := by
  obtain ⟨A, m, c, he, hO, hb⟩ := h
  have h1 := hO.1
  rw [hl, grK_length, hn] at h1
  subst h1
  rw [hl] at hO
  exact ⟨A, c, he, hO, hb⟩

theorem ask_K (K : Keys) (A : Option Addr) (n c : Nat) (s : Int) (ex : Bool) (w : World) (h : Wnts w A c (grK K)) (hN : K.length = n) (hz : n ≤ 10000) : Calls Try.prog 8 #[.slice A n c, .int .i64 s, .bool ex] w (KPost (K ++ [(s, ex)]) (n + 1) w) :=
  (ask_any (grK K) A n c s ex w h (by rw [grK_length]; exact hN) hz).mono fun _ _ h => h.keys (ask_gr K s ex) (by rw [List.length_append, hN]; rfl)
theorem give_K (K : Keys) (A : Option Addr) (n c : Nat) (s : Int) (w : World) (h : Wnts w A c (grK K)) (hN : K.length = n) (hz : n ≤ 10000) (K' : Keys) (hK : K.filter (fun x => decide (x.1 ≠ s)) = K') (m : Nat) (hm : K'.length = m) : Calls Try.prog 10 #[.slice A n c, .int .i64 s] w (KPost K' m w) :=
  (give_any (grK K) A n c s w h (by rw [grK_length]; exact hN) hz).mono fun _ _ h => h.keys (by rw [give_gr, hK]) hm
theorem has_K (K : Keys) (A : Option Addr) (n c : Nat) (s : Int) (b : Bool) (w : World) (h : Wnts w A c (grK K)) (hN : K.length = n) (hz : n ≤ 10000) (hb : hasS (grK K) s = b) : Calls Try.prog 13 #[.slice A n c, .int .i64 s] w fun e w' => e = .returned (.bool b) ∧ Below w.heap.size w w' := by
  have := has_any (grK K) A n c s w h (by rw [grK_length]; exact hN) hz
  rwa [hasO_gr, hb] at this

abbrev k1 : Keys := [(1, false)]
abbrev k2 : Keys := [(1, false), (2, false)]
abbrev k3 : Keys := [(1, false), (2, false), (3, true)]
abbrev k4 : Keys := [(2, false), (3, true)]
abbrev k5 : Keys := [(3, true)]

set_option maxRecDepth 100000 in
set_option maxHeartbeats 8000000 in
theorem awake14 (w : World) : Calls Try.prog 7 #[] w fun e w' => e = .returned (.bool true) ∧ Below w.heap.size w w' := by
  have a1 : Hid (∀ W : World, Calls Try.prog 8 #[.slice none 0 0, .int .i64 1, .bool false] W (KPost k1 1 W)) := Lib.hid (fun W => ask_K [] none 0 0 1 false W (Wnts.nil W) rfl (by decide))
  have a2 : Hid (∀ (W : World) A c, Wnts W A c (grK k1) → Calls Try.prog 8 #[.slice A 1 c, .int .i64 2, .bool false] W (KPost k2 2 W)) := Lib.hid (fun W A c h => ask_K k1 A 1 c 2 false W h rfl (by decide))
  have a3 : Hid (∀ (W : World) A c, Wnts W A c (grK k2) → Calls Try.prog 8 #[.slice A 2 c, .int .i64 3, .bool true] W (KPost k3 3 W)) := Lib.hid (fun W A c h => ask_K k2 A 2 c 3 true W h rfl (by decide))
  have g1 : Hid (∀ (W : World) A c, Wnts W A c (grK k3) → Calls Try.prog 10 #[.slice A 3 c, .int .i64 1] W (KPost k4 2 W)) := Lib.hid (fun W A c h => give_K k3 A 3 c 1 W h rfl (by decide) k4 (by decide) 2 rfl)
  have g2 : Hid (∀ (W : World) A c, Wnts W A c (grK k4) → Calls Try.prog 10 #[.slice A 2 c, .int .i64 2] W (KPost k5 1 W)) := Lib.hid (fun W A c h => give_K k4 A 2 c 2 W h rfl (by decide) k5 (by decide) 1 rfl)
  have h1 : Hid (∀ (W : World) A c, Wnts W A c (grK k3) → Calls Try.prog 13 #[.slice A 3 c, .int .i64 1] W fun e w' => e = .returned (.bool true) ∧ Below W.heap.size W w') := Lib.hid (fun W A c h => has_K k3 A 3 c 1 true W h rfl (by decide) (by decide))
  have h2 : Hid (∀ (W : World) A c, Wnts W A c (grK k3) → Calls Try.prog 13 #[.slice A 3 c, .int .i64 2] W fun e w' => e = .returned (.bool true) ∧ Below W.heap.size W w') := Lib.hid (fun W A c h => has_K k3 A 3 c 2 true W h rfl (by decide) (by decide))
  have h3 : Hid (∀ (W : World) A c, Wnts W A c (grK k3) → Calls Try.prog 13 #[.slice A 3 c, .int .i64 3] W fun e w' => e = .returned (.bool false) ∧ Below W.heap.size W w') := Lib.hid (fun W A c h => has_K k3 A 3 c 3 false W h rfl (by decide) (by decide))
  have h4 : Hid (∀ (W : World) A c, Wnts W A c (grK k4) → Calls Try.prog 13 #[.slice A 2 c, .int .i64 3] W fun e w' => e = .returned (.bool false) ∧ Below W.heap.size W w') := Lib.hid (fun W A c h => has_K k4 A 2 c 3 false W h rfl (by decide) (by decide))
  have h5 : Hid (∀ (W : World) A c, Wnts W A c (grK k5) → Calls Try.prog 13 #[.slice A 1 c, .int .i64 3] W fun e w' => e = .returned (.bool true) ∧ Below W.heap.size W w') := Lib.hid (fun W A c h => has_K k5 A 1 c 3 true W h rfl (by decide) (by decide))
  have h6 : Hid (∀ (W : World) A c, Wnts W A c (grK k5) → Calls Try.prog 13 #[.slice A 1 c, .int .i64 1] W fun e w' => e = .returned (.bool false) ∧ Below W.heap.size W w') := Lib.hid (fun W A c h => has_K k5 A 1 c 1 false W h rfl (by decide) (by decide))
  go_enter Try.func7, Try.ntmps7
  go_wp2_with (first
    | (go_at_call 8; (with_reducible refine (a1.out _).mono ?_); go_must (rintro e w1 ⟨A1, c1, rfl, hO, hb⟩; have O1 := Lib.hid hO; have B1 := Lib.hid hb; clear hO hb))
    | (go_at_call 8; (with_reducible refine (a2.out _ _ _ O1.out.sl).mono ?_); go_must (rintro e w2 ⟨A2, c2, rfl, hO, hb⟩; have O2 := Lib.hid hO; have B2 := Lib.hid (bnext B1.out hb); clear hO hb))
    | (go_at_call 8; (with_reducible refine (a3.out _ _ _ O2.out.sl).mono ?_); go_must (rintro e w3 ⟨A3, c3, rfl, hO, hb⟩; have O3 := Lib.hid hO; have B3 := Lib.hid (bnext B2.out hb); clear hO hb))
    | (go_at_call 10; (with_reducible refine (g1.out _ _ _ O3.out.sl).mono ?_); go_must (rintro e w4 ⟨A4, c4, rfl, hO, hb⟩; have P3 := Lib.hid (O3.out.below hb); have O4 := Lib.hid hO; have B4 := Lib.hid (bnext B3.out hb); clear hO hb))
    | (go_at_call 10; (with_reducible refine (g2.out _ _ _ O4.out.sl).mono ?_); go_must (rintro e w5 ⟨A5, c5, rfl, hO, hb⟩; have Q3 := Lib.hid (P3.out.below hb); have Q4 := Lib.hid (O4.out.below hb); have O5 := Lib.hid hO; have B5 := Lib.hid (bnext B4.out hb); clear hO hb))
    | (go_at_call 13; (with_reducible refine (h1.out _ _ _ Q3.out.sl).mono ?_); go_must (rintro e w6 ⟨rfl, hb⟩; have R3 := Lib.hid (Q3.out.below hb); have R4 := Lib.hid (Q4.out.below hb); have R5 := Lib.hid (O5.out.below hb); have B6 := Lib.hid (bnext B5.out hb); clear hb))
    | (go_at_call 13; (with_reducible refine (h2.out _ _ _ R3.out.sl).mono ?_); go_must (rintro e w7 ⟨rfl, hb⟩; have S3 := Lib.hid (R3.out.below hb); have S4 := Lib.hid (R4.out.below hb); have S5 := Lib.hid (R5.out.below hb); have B7 := Lib.hid (bnext B6.out hb); clear hb))
    | (go_at_call 13; (with_reducible refine (h3.out _ _ _ S3.out.sl).mono ?_); go_must (rintro e w8 ⟨rfl, hb⟩; have T4 := Lib.hid (S4.out.below hb); have T5 := Lib.hid (S5.out.below hb); have B8 := Lib.hid (bnext B7.out hb); clear hb))
    | (go_at_call 13; (with_reducible refine (h4.out _ _ _ T4.out.sl).mono ?_); go_must (rintro e w9 ⟨rfl, hb⟩; have U5 := Lib.hid (T5.out.below hb); have B9 := Lib.hid (bnext B8.out hb); clear hb))
    | (go_at_call 13; (with_reducible refine (h5.out _ _ _ U5.out.sl).mono ?_); go_must (rintro e wa ⟨rfl, hb⟩; have V5 := Lib.hid (U5.out.below hb); have Ba := Lib.hid (bnext B9.out hb); clear hb))
    | (go_at_call 13; (with_reducible refine (h6.out _ _ _ V5.out.sl).mono ?_); go_must (rintro e wb ⟨rfl, hb⟩; have Bb := Lib.hid (bnext Ba.out hb); clear hb)))
  go_ret
  exact ⟨rfl, Bb.out⟩

end Go.Proofs.Ytbgdadofpjjpdaa
