/-
  Instructions in a slice; what numbersFit and canBeTold answer, in whatever memory that has the kinds' table, of instructions that may be told: true.
-/
import Derived.Test.YtjbhhlhaikmecaaDoorAsmO
namespace Go.Proofs.YtjbhhlhaikmecaaDoor
open Go.RowKit

theorem inssW_at : ∀ (l : List Ins) (j : Nat), j < l.length → (inssW l)[j * 3]? = some (.int .i64 (insAt l j).op) ∧ (inssW l)[j * 3 + 1]? = some (.int .i64 (insAt l j).a) ∧ (inssW l)[j * 3 + 2]? = some (.int .i64 (insAt l j).b)
  | [], j, h => by simp at h
  | u :: l, 0, _ => ⟨rfl, rfl, rfl⟩
  | u :: l, j + 1, h => by
    have ih := inssW_at l j (by simpa using h)
    have e : ∀ k, (inssW (u :: l))[(j + 1) * 3 + k]? = (inssW l)[j * 3 + k]? := fun k => by
      rw [show (j + 1) * 3 + k = (j * 3 + k) + 3 by omega]
      rfl
    exact ⟨(e 0).trans ih.1, (e 1).trans ih.2.1, (e 2).trans ih.2.2⟩

/-- a slice of instructions. -/
def Inss (w : World) (A : Option Addr) (c : Nat) (l : List Ins) : Prop := Sl w 3 A l.length c (inssW l)
theorem Inss.nil (w : World) : Inss w none 0 [] := ⟨rfl, Nat.le_refl _, fun _ => ⟨rfl, rfl⟩, fun h => absurd h (by simp)⟩
theorem Inss.below {w w' : World} {A : Option Addr} {c : Nat} {l : List Ins} (h : Inss w A c l) (hb : Below w.heap.size w w') : Inss w' A c l := Sl.below h hb
theorem Inss.own {w : World} {B : Nat} {v : Value} {l : List Ins} (h : w.ownsRow B 35 3 v l.length (inssW l)) : ∃ A c, v = .slice A l.length c ∧ Inss w A c l := Sl.own h
theorem Inss.cellAt {w : World} {A : Option Addr} {c : Nat} {l : List Ins} (h : Inss w A c l) {j : Nat} (hj : j < l.length) :
    ∃ b off, A = some ⟨b, off, none⟩ ∧ b < w.heap.size ∧ w.cell? ⟨b, off + j * 3, none⟩ = some (.int .i64 (insAt l j).op) ∧ w.cell? ⟨b, off + j * 3 + 1, none⟩ = some (.int .i64 (insAt l j).a) ∧ w.cell? ⟨b, off + j * 3 + 2, none⟩ = some (.int .i64 (insAt l j).b) := by
  obtain ⟨b, off, rfl, hb, hc⟩ := h.2.2.2 (by omega)
  obtain ⟨e0, e1, e2⟩ := inssW_at l j hj
  refine ⟨b, off, rfl, hb, ?_, ?_, ?_⟩
  · rw [hc (j * 3) (by omega), e0]
  · rw [Nat.add_assoc, hc (j * 3 + 1) (by omega), e1]
  · rw [Nat.add_assoc, hc (j * 3 + 2) (by omega), e2]

theorem two_first (a b : Int) (W : World) : (Instr.index 87 (.agg #[.int .i64 a, .int .i64 b]) (.int .i64 0)).run Tryd.prog W = .ok (.int .i64 a) W := by kernel_rfl
theorem two_second (a b : Int) (W : World) : (Instr.index 87 (.agg #[.int .i64 a, .int .i64 b]) (.int .i64 1)).run Tryd.prog W = .ok (.int .i64 b) W := by kernel_rfl

set_option maxRecDepth 100000 in
set_option maxHeartbeats 4000000 in
theorem numbersFit_yes (x : Ins) (hg : goodIns x) (w : World) (hT : HasKinds w) :
    Calls Tryd.prog 44 #[.agg #[.int .i64 x.op, .int .i64 x.a, .int .i64 x.b]] w fun e w' => e = .returned (.bool true) ∧ Below w.heap.size w w' := by
  have htk := Lib.hid (takes_any x.op _ (hT.belowS ((Below.refl _ _).alloc (Nat.le_refl _) (.cells #[.int .i64 x.op, .int .i64 x.a, .int .i64 x.b] 35))))
  have hnA := Lib.hid hg.noA
  have hnB := Lib.hid hg.noB
  obtain ⟨a1, a2⟩ := hg.a
  obtain ⟨b1, b2⟩ := hg.b
  generalize takesN x.op = tk at *
  obtain ⟨op, xa, xb⟩ := x
  simp only at *
  have i0 := two_first
  have i1 := two_second
  clear hg hT
  go_enter Tryd.func44, Tryd.ntmps44
  go_wp2
  go_loop [10] (fun cc => ∃ i : Nat, i ≤ 2 ∧ cc = .int .i64 i) (fun cc => 2 - (intOf cc).toNat)
  case atStart => exact ⟨0, by omega, rfl⟩
  case round =>
    obtain ⟨i, hi, rfl⟩ := hrel
    rcases (show i = 0 ∨ i = 1 ∨ i = 2 by omega) with rfl | rfl | rfl
    · by_cases h0 : tk = 0
      · obtain rfl : xa = 0 := hnA.out (by omega)
        subst h0
        go_wp2_with (go_at_call 12; go_must ((with_reducible refine htk.out.mono ?_); rintro e w1 ⟨rfl, rfl⟩))
        go_round
        case rel => exact ⟨1, by omega, rfl⟩
        case measure => simp [intOf]
      · have d1 : ¬ (tk : Int) ≤ 0 := by omega
        go_wp2_with (go_at_call 12; go_must ((with_reducible refine htk.out.mono ?_); rintro e w1 ⟨rfl, rfl⟩))
        go_round
        case rel => exact ⟨1, by omega, rfl⟩
        case measure => simp [intOf]
    · by_cases h0 : tk ≤ 1
      · obtain rfl : xb = 0 := hnB.out (by omega)
        have d1 : (tk : Int) ≤ 1 := by omega
        go_wp2_with (go_at_call 12; go_must ((with_reducible refine htk.out.mono ?_); rintro e w1 ⟨rfl, rfl⟩))
        go_round
        case rel => exact ⟨2, by omega, rfl⟩
        case measure => simp [intOf]
      · have d1 : ¬ (tk : Int) ≤ 1 := by omega
        go_wp2_with (go_at_call 12; go_must ((with_reducible refine htk.out.mono ?_); rintro e w1 ⟨rfl, rfl⟩))
        go_round
        case rel => exact ⟨2, by omega, rfl⟩
        case measure => simp [intOf]
    · go_wp2
      go_ret
      exact ⟨rfl, (Below.refl _ _).alloc (Nat.le_refl _) _⟩

set_option maxRecDepth 100000 in
set_option maxHeartbeats 8000000 in
theorem canBeTold_yes (l : List Ins) (ht : tellable l) (A : Option Addr) (c : Nat) (w : World) (h : Inss w A c l) (hT : HasKinds w) :
    Calls Tryd.prog 28 #[.slice A l.length c] w fun e w' => e = .returned (.bool true) ∧ Below w.heap.size w w' := by
  have hlen := ht.len
  have ht' := Lib.hid ht
  have h' := Lib.hid h
  have hT' := Lib.hid hT
  have hcap := h.2.1
  obtain ⟨N, hN⟩ : ∃ N, N = l.length := ⟨_, rfl⟩
  have hN' := Lib.hid hN
  rw [← hN] at hlen hcap ⊢
  clear ht h hT hN
  go_enter Tryd.func28, Tryd.ntmps28
  go_wp2
  go_loopw [10] (fun cc wr => ∃ i : Nat, i ≤ N ∧ cc = .int .i64 i ∧ Below w.heap.size w wr) (fun cc _ => N - (intOf cc).toNat)
  case atStart => exact ⟨0, Nat.zero_le _, rfl, Below.refl _ _⟩
  case round =>
    obtain ⟨i, hi, rfl, hb⟩ := hrel
    by_cases hlt : i < N
    · have hil : i < l.length := by rw [← hN'.out]; exact hlt
      obtain ⟨b, off, rfl, hbl, x0, x1, x2⟩ := (h'.out.below hb).cellAt hil
      have hg := ht'.out.good i hil
      have hjm := ht'.out.jump i hil
      rw [← hN'.out] at hjm
      generalize insAt l i = x at *
      obtain ⟨W1, hW1⟩ : ∃ W1, W1 = wr.alloc (.cells #[.int .i64 x.op, .int .i64 x.a, .int .i64 x.b] 35) := ⟨_, rfl⟩
      have hW1' := Lib.hid hW1
      have hbW : Below wr.heap.size wr W1 := by rw [hW1]; exact (Below.refl _ _).alloc (Nat.le_refl _) _
      have hb1 := Lib.hid (bnext hb hbW)
      have kx := Lib.hid (show Bk W1 wr.heap.size 35 #[.int .i64 x.op, .int .i64 x.a, .int .i64 x.b] by rw [hW1]; exact Bk.new _ _ _)
      obtain ⟨y0, y1, y2, yf⟩ := kx.out.three
      have hkd := Lib.hid (isKind_is x.op true (decide_eq_true hg.op) W1)
      have hnf := Lib.hid (numbersFit_yes x hg W1 (hT'.out.belowS hb1.out))
      have d0 : (i : Int) < (N : Int) := by omega
      have d1 : (i : Int) < (c : Int) := by omega
      have hga := hg.a
      clear hW1 hbW
      by_cases hj : jumpsN x.op
      · have hij : Hid (∀ W : World, _) := Lib.hid (fun W => isJump_is x.op true (decide_eq_true hj) W)
        have hld : Hid (∀ W : World, _) := Lib.hid (fun W => leadsTo_any i x W (by omega) hga)
        have hj2 := hjm hj
        have q0 : ¬ ((i : Int) + 1 + x.a < 0) := by omega
        have q1 : ¬ ((N : Int) < (i : Int) + 1 + x.a) := by omega
        clear hg hjm hj hj2 hga
        go_wp2_with (first
          | (go_at_call 26; rw [← hW1'.out]; go_must ((with_reducible refine hkd.out.mono ?_); rintro e w1 ⟨rfl, rfl⟩))
          | (go_at_call 44; go_must ((with_reducible refine hnf.out.mono ?_); rintro e w2 ⟨rfl, hb2⟩; obtain ⟨z0, z1, z2, zf⟩ := (kx.out.below hb2).three; have hs2 := (kx.out.below hb2).lt; clear y0 y1 y2 yf))
          | (go_at_call 29; go_must ((with_reducible refine (hij.out _).mono ?_); rintro e w3 ⟨rfl, rfl⟩))
          | (go_at_call 30; go_must ((with_reducible refine (hld.out _).mono ?_); first | (clear z0 z1 z2 zf; rintro e w4 ⟨rfl, hb4⟩; obtain ⟨v0, v1, v2, vf⟩ := ((kx.out.below hb2).below hb4).three) | (rintro e w5 ⟨rfl, hb5⟩))))
        go_roundw
        case rel => exact ⟨i + 1, by omega, by go_num, bnext (bnext (bnext hb1.out hb2) hb4) hb5⟩
        case measure => simp [intOf]; omega
      · have hij : Hid (∀ W : World, _) := Lib.hid (fun W => isJump_is x.op false (decide_eq_false hj) W)
        clear hg hjm hj hga
        go_wp2_with (first
          | (go_at_call 26; rw [← hW1'.out]; go_must ((with_reducible refine hkd.out.mono ?_); rintro e w1 ⟨rfl, rfl⟩))
          | (go_at_call 44; go_must ((with_reducible refine hnf.out.mono ?_); rintro e w2 ⟨rfl, hb2⟩; obtain ⟨z0, z1, z2, zf⟩ := (kx.out.below hb2).three; have hs2 := (kx.out.below hb2).lt; clear y0 y1 y2 yf))
          | (go_at_call 29; go_must ((with_reducible refine (hij.out _).mono ?_); rintro e w3 ⟨rfl, rfl⟩)))
        go_roundw
        case rel => exact ⟨i + 1, by omega, by go_num, bnext hb1.out hb2⟩
        case measure => simp [intOf]; omega
    · go_wp2
      go_ret
      exact ⟨rfl, hb⟩

end Go.Proofs.YtjbhhlhaikmecaaDoor
