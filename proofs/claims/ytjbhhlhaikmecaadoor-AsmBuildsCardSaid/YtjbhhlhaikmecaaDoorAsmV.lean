/-
  What the reference's Same of two lists of instructions answers where they are the same: true; what Build answers, by what a text comes to; awake of layer 5's laws: true, in whatever memory that has the tables.
-/
import Derived.Test.YtjbhhlhaikmecaaDoorAsmT
namespace Go.Proofs.YtjbhhlhaikmecaaDoor
open Go.RowKit

set_option maxHeartbeats 2000000 in
theorem sameI (l : List Ins) (A : Option Addr) (c : Nat) (B : Option Addr) (d : Nat) (w : World) (h1 : Inss w A c l) (h2 : Inss w B d l) (hn : l.length ≤ 1099511627776) :
    Calls Tryd.prog 11 #[.slice A l.length c, .slice B l.length d] w
      fun e w' => e = .returned (.bool true) ∧ Below w.heap.size w w' := by
  have hcl : Hid (∀ i, i < l.length → ∃ k s n b off b2 off2, A = some ⟨b, off, none⟩ ∧ b < w.heap.size ∧ w.cell? ⟨b, off + i * 3, none⟩ = some (.int .i64 k) ∧ w.cell? ⟨b, off + i * 3 + 1, none⟩ = some (.int .i64 s) ∧ w.cell? ⟨b, off + i * 3 + 2, none⟩ = some (.int .i64 n)
      ∧ B = some ⟨b2, off2, none⟩ ∧ b2 < w.heap.size ∧ w.cell? ⟨b2, off2 + i * 3, none⟩ = some (.int .i64 k) ∧ w.cell? ⟨b2, off2 + i * 3 + 1, none⟩ = some (.int .i64 s) ∧ w.cell? ⟨b2, off2 + i * 3 + 2, none⟩ = some (.int .i64 n)) := Lib.hid fun i h => by
    obtain ⟨b, off, a0, a1, a2, a3, a4⟩ := h1.cellAt h
    obtain ⟨b2, off2, b0, b1, b2', b3, b4⟩ := h2.cellAt h
    exact ⟨_, _, _, b, off, b2, off2, a0, a1, a2, a3, a4, b0, b1, b2', b3, b4⟩
  have hle := h1.2.1
  have hle2 := h2.2.1
  clear h1 h2
  generalize l.length = N at *
  go_enter Tryd.func11, Tryd.ntmps11
  go_wp2
  go_loopw [5] (fun cc wr => ∃ i k : Nat, i ≤ N ∧ cc = .int .i64 i ∧ wr = w.drewN k) (fun cc _ => N - (intOf cc).toNat)
  case atStart => exact ⟨0, 0, Nat.zero_le _, rfl, rfl⟩
  case round =>
    obtain ⟨i, k, hi, rfl, rfl⟩ := hrel
    by_cases hlt : i < N
    · obtain ⟨kd, s, n, b, off, b2, off2, rfl, hbl, x0, x1, x2, rfl, hbl2, y0, y1, y2⟩ := hcl.out i hlt
      have d0 : (i : Int) < (N : Int) := by omega
      have d1 : (i : Int) < (c : Int) := by omega
      have d2 : (i : Int) < (d : Int) := by omega
      clear hcl
      go_wp2
      go_quiet (fail)
      go_wp2
      go_roundw
      case rel => exact ⟨i + 1, _, by omega, by go_num, rfl⟩
      case measure => simp [intOf]; omega
    · go_wp2
      go_ret
      exact ⟨rfl, below_drewN (Below.refl _ _) _⟩

theorem same_none (w : World) : Calls Tryd.prog 11 #[.slice none 0 0, .slice none 0 0] w fun e w' => e = .returned (.bool true) ∧ Below w.heap.size w w' :=
  sameI [] none 0 none 0 w (Inss.nil w) (Inss.nil w) (by simp)

theorem build_yes (s : ByteArray) (l : List Ins) (w : World) (h : buildN (bL s) = .ok l) (hT : HasKinds w) :
    Calls Tryd.prog 9 #[.string s] w fun e w' => ∃ A c, e = .returned (.tuple #[.slice A l.length c, .int .i64 0]) ∧ Inss w' A c l ∧ Below w.heap.size w w' :=
  (build_any s w hT).mono fun e w' hp => by
    rw [h] at hp
    obtain ⟨hb, v, he, ho⟩ := hp
    obtain ⟨A, c, rfl, hi⟩ := Inss.own ho
    exact ⟨A, c, he, hi, hb⟩

theorem build_no (s : ByteArray) (n : Nat) (w : World) (h : buildN (bL s) = .error n) (hT : HasKinds w) :
    Calls Tryd.prog 9 #[.string s] w fun e w' => e = .returned (.tuple #[.slice none 0 0, .int .i64 (n : Nat)]) ∧ Below w.heap.size w w' :=
  (build_any s w hT).mono fun e w' hp => by rw [h] at hp; exact ⟨hp.2, hp.1⟩

/-! ### what is told is bytes -/
theorem decN_bytes (n : Nat) : ∀ c ∈ decN n, c < 256 := by
  induction n using Nat.strongRecOn with
  | ind n ih =>
    intro c hc
    by_cases h : n < 10
    · rw [decN_small h, List.mem_singleton] at hc
      omega
    · rw [decN_large h, List.mem_append, List.mem_singleton] at hc
      rcases hc with hc | hc
      · exact ih (n / 10) (by omega) c hc
      · omega

theorem textOf_bytes {t : Tok} (h : okTok t) : ∀ c ∈ textOf t, c < 256 := by
  intro c hc
  unfold textOf at hc
  rcases h with ⟨h1, _⟩ | ⟨h1, _, h3, _⟩
  · rw [if_pos h1] at hc
    unfold decZ at hc
    split at hc
    · rcases List.mem_cons.1 hc with rfl | hc
      · decide
      · exact decN_bytes _ c hc
    · exact decN_bytes _ c hc
  · have hw : ∀ c ∈ t.word, c < 256 := fun c hc => by have := h3 c hc; unfold isLetter at this; omega
    rw [if_neg (by omega)] at hc
    split at hc
    · rcases List.mem_append.1 hc with hc | hc
      · exact hw c hc
      · rw [List.mem_singleton.1 hc]; decide
    · exact hw c hc

theorem tell_bytes {l : List Ins} (h : tellable l) : ∀ c ∈ tellN l, c < 256 := by
  intro c hc
  unfold tellN textT at hc
  obtain ⟨p, hp, hc⟩ := List.mem_flatMap.1 hc
  obtain ⟨h1, h2⟩ := tell_ok h p hp
  rcases List.mem_append.1 hc with hc | hc
  · exact textOf_bytes h1 c hc
  · rw [List.mem_singleton.1 hc]
    unfold isBlank at h2
    omega

theorem tell_back {l : List Ins} (h : tellable l) : buildN (bL (strL (tellN l))) = .ok l := by
  rw [bL_strL _ (tell_bytes h)]
  exact build_tell h

def atext1 : ByteArray := ⟨#[103, 101, 116, 32, 48, 32, 49, 32, 115, 107, 105, 112, 32, 111, 118, 101, 114, 32, 112, 117, 115, 104, 32, 49, 32, 101, 109, 105, 116, 32, 111, 118, 101, 114, 58, 32, 101, 110, 100]⟩
def acode1 : List Ins := [⟨4, 0, 1⟩, ⟨13, 2, 0⟩, ⟨1, 1, 0⟩, ⟨15, 0, 0⟩, ⟨17, 0, 0⟩]
theorem atext1_built : buildN (bL atext1) = .ok acode1 := by kernel_rfl
theorem atext2_built : buildN (bL ⟨#[120, 58, 32, 103, 111, 32, 120, 32, 101, 110, 100]⟩) = .error 10 := by kernel_rfl
theorem atext3_built : buildN (bL ⟨#[112, 117, 115, 104, 32, 101, 110, 100]⟩) = .error 5 := by kernel_rfl
theorem atext4_built : buildN (bL ⟨#[120, 58, 32, 101, 110, 100, 32, 120, 58, 32, 101, 110, 100]⟩) = .error 10 := by kernel_rfl
theorem acode1_told : tellable acode1 := build_tellable atext1_built

theorem of_push (w : World) (hT : HasKinds w) : Calls Tryd.prog 16 #[.string ⟨#[112, 117, 115, 104]⟩] w fun e w' => e = .returned (.int .i64 1) ∧ w = w' := by
  have := of_any ⟨#[112, 117, 115, 104]⟩ w hT
  rw [show ofN (bL ⟨#[112, 117, 115, 104]⟩) = 1 by kernel_rfl] at this
  exact this
theorem word_end (w : World) (hT : HasKinds w) : Calls Tryd.prog 14 #[.int .i64 17] w fun e w' => e = .returned (.string ⟨#[101, 110, 100]⟩) ∧ w = w' := word_any 17 w hT
theorem takes_put (w : World) (hT : HasKinds w) : Calls Tryd.prog 12 #[.int .i64 5] w fun e w' => e = .returned (.int .i64 2) ∧ w = w' := takes_any 5 w hT

set_option maxRecDepth 100000 in
set_option maxHeartbeats 4000000 in
theorem awake5 (w : World) (hT : HasKinds w) (hP : HasPow w) : Calls Tryd.prog 8 #[] w fun e w' => e = .returned (.bool true) ∧ Below w.heap.size w w' := by
  have c1 := Lib.hid (build_yes atext1 acode1 w atext1_built hT)
  have c2 := Lib.hid (fun W hW => build_no ⟨#[120, 58, 32, 103, 111, 32, 120, 32, 101, 110, 100]⟩ 10 W atext2_built hW)
  have c3 := Lib.hid (fun W hW => build_no ⟨#[112, 117, 115, 104, 32, 101, 110, 100]⟩ 5 W atext3_built hW)
  have c4 := Lib.hid (fun W hW => build_no ⟨#[120, 58, 32, 101, 110, 100, 32, 120, 58, 32, 101, 110, 100]⟩ 10 W atext4_built hW)
  have c5 := Lib.hid (fun A c W hW hw hp => tell_any acode1 acode1_told A c W hW hw hp)
  have c6 := Lib.hid (fun W hW => build_yes (strL (tellN acode1)) acode1 W (tell_back acode1_told) hW)
  have hT' := Lib.hid hT
  have hP' := Lib.hid hP
  clear hT hP
  generalize hS : strL (tellN acode1) = S at *
  clear hS
  go_enter Tryd.func8, Tryd.ntmps8
  go_wp2_with (first
    | (go_at_call 9; refine c1.out.mono ?_; rintro e w1 ⟨A1, p1, rfl, hi1, hb1⟩; have I1 := Lib.hid hi1; clear c1 hi1)
    | (go_at_call 9; refine (c2.out w1 (hT'.out.belowS hb1)).mono ?_; rintro e w2 ⟨rfl, hb2⟩; have B2 := Lib.hid (bnext hb1 hb2); have I2 := Lib.hid (I1.out.below hb2); clear c2)
    | (go_at_call 9; refine (c3.out w2 (hT'.out.belowS B2.out)).mono ?_; rintro e w3 ⟨rfl, hb3⟩; have B3 := Lib.hid (bnext B2.out hb3); have I3 := Lib.hid (I2.out.below hb3); clear c3)
    | (go_at_call 9; refine (c4.out w3 (hT'.out.belowS B3.out)).mono ?_; rintro e w4 ⟨rfl, hb4⟩; have B4 := Lib.hid (bnext B3.out hb4); have I4 := Lib.hid (I3.out.below hb4); clear c4)
    | (go_at_call 19; refine (c5.out A1 p1 w4 I4.out (hT'.out.belowS B4.out) (hP'.out.belowS B4.out)).mono ?_; rintro e w5 ⟨rfl, hb5⟩; have B5 := Lib.hid (bnext B4.out hb5); have I5 := Lib.hid (I4.out.below hb5); clear c5)
    | (go_at_call 9; refine (c6.out w5 (hT'.out.belowS B5.out)).mono ?_; rintro e w6 ⟨A6, p6, rfl, hi6, hb6⟩; have B6 := Lib.hid (bnext B5.out hb6); have I6 := Lib.hid (I5.out.below hb6); have J6 := Lib.hid hi6; clear c6 hi6; obtain ⟨b, off, rfl, hbl, x0, x1, x2⟩ := I6.out.cellAt (j := 0) (by decide); obtain ⟨b', off', hA', -, x3, x4, x5⟩ := I6.out.cellAt (j := 1) (by decide); simp only [Option.some.injEq, Addr.mk.injEq] at hA'; obtain ⟨rfl, rfl, -⟩ := hA'; have hcp := I6.out.2.1; simp only [acode1, insAt, List.getElem?_cons_zero, List.getElem?_cons_succ, Option.getD_some, Nat.zero_mul, Nat.add_zero, Nat.one_mul, List.length_cons, List.length_nil] at x0 x1 x2 x3 x4 x5 hcp)
    | (go_at_call 11; refine (sameI acode1 _ p1 _ p6 w6 I6.out J6.out (by decide)).mono ?_; rintro e w7 ⟨rfl, hb7⟩; have B7 := Lib.hid (bnext B6.out hb7))
    | (go_at_call 14; refine (word_end w7 (hT'.out.belowS B7.out)).mono ?_; rintro e w8 ⟨rfl, rfl⟩)
    | (go_at_call 16; refine (of_push w7 (hT'.out.belowS B7.out)).mono ?_; rintro e w8 ⟨rfl, rfl⟩)
    | (go_at_call 12; refine (takes_put w7 (hT'.out.belowS B7.out)).mono ?_; rintro e w8 ⟨rfl, rfl⟩))
  go_ret
  exact ⟨rfl, B7.out⟩

end Go.Proofs.YtjbhhlhaikmecaaDoor
