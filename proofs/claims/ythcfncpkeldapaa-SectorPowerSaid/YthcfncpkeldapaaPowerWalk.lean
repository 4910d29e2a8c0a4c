/-
  What SectorPower answers: true, for every byte and every list of deeds in memory. No conditions.
-/
import Derived.Test.YthcfncpkeldapaaReadsWalk
namespace Go.Proofs.Ythcfncpkeldapaa
open Go.RowKit

/-- A device that was armed for N deeds, behind i. -/
structure PowInv (N i : Nat) (D : Dk) : Prop where
  ok : D.ok
  sec : D.sec.length = 4
  left : D.left = (N : Int) - ((min i N : Nat) : Int)
  down : D.down = decide (N < i)
  len : D.loose.length ≤ i

theorem leftD_sub (N i : Nat) (h : i < N) : leftD ((N : Int) - ((min i N : Nat) : Int)) = (N : Int) - ((min (i + 1) N : Nat) : Int) := by
  unfold leftD
  rw [if_pos (by omega)]
  omega

theorem pow_put {N i : Nat} {D : Dk} (h : PowInv N i D) : (putD D ((i % 4 : Nat) : Int) ⟨#[120]⟩).2 = (if i < N then 0 else 17) ∧ PowInv N (i + 1) (putD D ((i % 4 : Nat) : Int) ⟨#[120]⟩).1 := by
  have h1 := putD_ok D ((i % 4 : Nat) : Int) ⟨#[120]⟩ h.ok
  have h2 := putD_len D ((i % 4 : Nat) : Int) ⟨#[120]⟩
  have h3 := putD_sec D ((i % 4 : Nat) : Int) ⟨#[120]⟩
  have hr : ¬ (((i % 4 : Nat) : Int) < 0 ∨ (D.sec.length : Int) ≤ ((i % 4 : Nat) : Int)) := by rw [h.sec]; omega
  have hs : ¬ (128 < (ByteArray.mk #[120]).size) := by decide
  by_cases hi : i < N
  · have hd : D.down = false := by rw [h.down]; simp; omega
    have hl : ¬ (D.down = true ∨ D.left = 0) := by rw [hd, h.left]; simp; omega
    have e : putD D ((i % 4 : Nat) : Int) ⟨#[120]⟩ = ({ D with loose := D.loose ++ [(((i % 4 : Nat) : Int), padB ⟨#[120]⟩)], left := leftD D.left }, 0) := by rw [putD, if_neg hs, if_neg hr, if_neg hl]
    rw [e] at h1 h2 ⊢
    refine ⟨by rw [if_pos hi], h1, h.sec, ?_, ?_, Nat.le_trans h2 (by have := h.len; omega)⟩
    · show leftD D.left = _
      rw [h.left, leftD_sub N i hi]
    · show D.down = _
      rw [hd]; simp; omega
  · have hl : D.down = true ∨ D.left = 0 := by
      right; rw [h.left]; omega
    have e : putD D ((i % 4 : Nat) : Int) ⟨#[120]⟩ = ({ D with down := true }, 17) := by rw [putD, if_neg hs, if_neg hr, if_pos hl]
    rw [e] at h1 h2 ⊢
    refine ⟨by rw [if_neg hi], h1, h.sec, ?_, ?_, Nat.le_trans h2 (by have := h.len; omega)⟩
    · show D.left = _
      rw [h.left]; omega
    · show true = _
      simp; omega

theorem pow_flush {N i : Nat} {D : Dk} (h : PowInv N i D) : (flushD D).2 = (if i < N then 0 else 17) ∧ PowInv N (i + 1) (flushD D).1 := by
  have h1 := flushD_ok D h.ok
  have h2 := flushD_len D
  have h3 := flushD_sec D
  by_cases hi : i < N
  · have hd : D.down = false := by rw [h.down]; simp; omega
    have hl : ¬ (D.down = true ∨ D.left = 0) := by rw [hd, h.left]; simp; omega
    have e : flushD D = ({ D with sec := applyW D.sec D.loose, loose := [], left := leftD D.left }, 0) := by rw [flushD, if_neg hl]
    rw [e] at h1 h2 h3 ⊢
    refine ⟨by rw [if_pos hi], h1, h3.trans h.sec, ?_, ?_, Nat.le_trans h2 (by have := h.len; omega)⟩
    · show leftD D.left = _
      rw [h.left, leftD_sub N i hi]
    · show D.down = _
      rw [hd]; simp; omega
  · have hl : D.down = true ∨ D.left = 0 := by
      right; rw [h.left]; omega
    have e : flushD D = ({ D with down := true }, 17) := by rw [flushD, if_pos hl]
    rw [e] at h1 h2 ⊢
    refine ⟨by rw [if_neg hi], h1, h.sec, ?_, ?_, Nat.le_trans h2 (by have := h.len; omega)⟩
    · show D.left = _
      rw [h.left]; omega
    · show true = _
      simp; omega

theorem pow_start (N : Nat) (hN : N ≤ 255) : PowInv N 0 (armD (newD 4) (N : Int)) := by
  refine ⟨armD_ok _ _ (newD_ok 4 (by omega)) (by omega), rfl, ?_, rfl, by simp [armD, newD]⟩
  simp only [armD]
  rw [if_neg (by omega)]
  simp

theorem flush_sD (s : List ByteArray) : flushD (sD s) = (sD s, 0) := rfl

set_option maxRecDepth 100000 in
set_option maxHeartbeats 400000 in
theorem power_long (A : Option Addr) (n c : Nat) (l : List ActD) (b : Int) (w : World) (h : IsActs w A n l) (hs : shortB l = false) :
    Calls Try.prog 5 #[.int .u8 b, .slice A n c] w fun e w' => e = .returned (.bool true) ∧ Below w.heap.size w w' := by
  have hsh := short_any A n c l w h
  rw [hs] at hsh
  go_enter Try.func5, Try.ntmps5
  go_wp2_with (first
    | (go_at_call 10; go_must (refine hsh.mono ?_; rintro e w1 ⟨rfl, rfl⟩))
    | (go_at_call 11; go_must (refine (awake_any _).mono ?_; rintro e w1 ⟨rfl, hb1⟩)))
  go_ret
  exact ⟨rfl, hb1⟩

set_option maxRecDepth 100000 in
set_option maxHeartbeats 4000000 in
theorem power_short (A : Option Addr) (m c : Nat) (l : List ActD) (b : Nat) (w : World) (h : IsActs w A m l) (hs : shortB l = true) (hb : b ≤ 255) :
    Calls Try.prog 5 #[.int .u8 (b : Int), .slice A m c] w fun e w' => e = .returned (.bool true) ∧ Below w.heap.size w w' := by
  have hsh := short_any A m c l w h
  rw [hs] at hsh
  have hm : m ≤ 60 := by rw [← h.1]; exact (short_facts hs).1
  obtain ⟨N, hN⟩ : ∃ N, b % 20 = N := ⟨_, rfl⟩
  have hN20 : N < 20 := by omega
  have hmod2 : (b : Int) % 20 = (N : Int) := by omega
  have H := Lib.hid h
  clear hs h hN
  go_enter Try.func5, Try.ntmps5
  go_wp2_with fail
  refine hsh.mono ?_
  rintro e w0 ⟨rfl, rfl⟩
  go_wp2_with fail
  refine (new_yes 4 _ (by omega)).mono ?_
  rintro e w1 ⟨v, rfl, v1, b1⟩
  obtain ⟨A1, c1, B1, d1, rfl⟩ := v1.cellsN (n := 4) (m := 0) rfl rfl
  have hbA : Below w1.heap.size w1 (w1.alloc (.cells #[.slice A1 4 c1, .slice B1 0 d1, .bool (newD 4).down, .int .i64 (newD 4).left] 28)) := (Below.refl _ _).alloc (Nat.le_refl _) _
  have t1 := bnext b1 hbA
  have hge := b1.size
  clear hsh
  go_wp2_with fail
  refine (arm_dk _ (newD 4) _ _ (v1.below hbA)).mono ?_
  rintro e w2 ⟨v', rfl, v2, b2⟩
  obtain ⟨A2, c2, B2, d2, rfl⟩ := v2.cellsN (n := 4) (m := 0) rfl rfl
  have k2 := (Bk.new w1 28 _).below b2
  have t2 := bnext t1 b2
  obtain ⟨q0, q1, q2, q3, f2⟩ := k2.four
  clear b1 b2 hbA t1 v1
  go_wp2_with fail
  clear q0 q1 q2 q3 f2
  go_loopw [8, 7] (fun i dn wr => ∃ k q : Nat, k ≤ m ∧ q = min k N ∧ i = .int .i64 k ∧ dn = .int .i64 q ∧ (∃ A' c' B' d' D, Bk wr w1.heap.size 28 #[.slice A' 4 c', .slice B' D.loose.length d', .bool D.down, .int .i64 D.left] ∧
      IsDk wr (.agg #[.slice A' 4 c', .slice B' D.loose.length d', .bool D.down, .int .i64 D.left]) D ∧ PowInv N k D) ∧ Below w.heap.size w wr)
    (fun i _ _ => m - (intOf i).toNat)
  case atStart => exact ⟨0, 0, Nat.zero_le _, by omega, rfl, rfl, ⟨A2, c2, B2, d2, armD (newD 4) (N : Int), k2.store4 _ _ _ _, v2.store4 k2 _ _ _ _, pow_start N (by omega)⟩, bset4 t2 hge⟩
  case round =>
    clear k2 v2 t2
    obtain ⟨k, q, hk, hq, rfl, rfl, ⟨A', c', B', d', D, k1, v1, hp⟩, t1⟩ := hrel
    have HP := Lib.hid hp
    have HQ := Lib.hid hq
    have hok := hp.ok
    have HOK := Lib.hid hok
    have hlen : D.loose.length ≤ 60 := by have := hp.len; omega
    clear hp hok hq
    obtain ⟨q0, q1, q2, q3, f1⟩ := k1.four
    have l1 := k1.lt
    by_cases hlt : k < m
    · have hkl : k < l.length := by rw [H.out.1]; exact hlt
      obtain ⟨bb, off, rfl, hbl, hcell⟩ := H.out.2.2 (by omega)
      obtain ⟨S, qc, y0, _⟩ := (hcell k hkl).below t1 hbl
      obtain ⟨xk, hxk⟩ : ∃ xk, (l[k]).kind = xk := ⟨_, rfl⟩
      rw [hxk] at y0
      clear hxk hcell
      by_cases h1 : xk = 1
      · have e1 : (xk == 1) = true := by simp [h1]
        clear h1
        obtain ⟨hf1, hf2⟩ := pow_flush HP.out
        have HF1 := Lib.hid hf1
        have HF2 := Lib.hid hf2
        clear hf1 hf2
        go_wp2_with fail
        refine (flush_any _ D _ v1 HOK.out (by omega)).mono ?_
        rintro e w' ⟨v', rfl, v2, b2⟩
        obtain ⟨A2, c2, B2, d2, rfl⟩ := v2.cellsN (n := 4) HF2.out.sec rfl
        have k2 := k1.below b2
        obtain ⟨p0, p1, p2, p3, g1⟩ := k2.four
        rw [HF1.out]
        by_cases hkN : k < N
        · rw [if_pos hkN]
          obtain rfl : q = k := by have := HQ.out; omega
          go_wp2
          go_roundw
          case rel => exact ⟨q + 1, q + 1, by omega, by omega, by go_num, by go_num, ⟨A2, c2, B2, d2, (flushD D).1, k2.store4 _ _ _ _, v2.store4 k2 _ _ _ _, HF2.out⟩, bset4 (bnext t1 b2) hge⟩
          case measure => simp [intOf]; omega
        · rw [if_neg hkN]
          obtain rfl : q = N := by have := HQ.out; omega
          go_wp2
          go_roundw
          case rel => exact ⟨k + 1, q, by omega, by omega, by go_num, rfl, ⟨A2, c2, B2, d2, (flushD D).1, k2.store4 _ _ _ _, v2.store4 k2 _ _ _ _, HF2.out⟩, bset4 (bnext t1 b2) hge⟩
          case measure => simp [intOf]; omega
      · have e1 : (xk == 1) = false := by simp [h1]
        clear h1
        obtain ⟨hf1, hf2⟩ := pow_put HP.out
        obtain ⟨r4, hr4⟩ : ∃ r4, k % 4 = r4 := ⟨_, rfl⟩
        have hr2 : (k : Int) % 4 = (r4 : Int) := by omega
        rw [hr4] at hf1 hf2
        have HF1 := Lib.hid hf1
        have HF2 := Lib.hid hf2
        clear hf1 hf2 hr4
        go_wp2_with fail
        refine (put_any _ D _ _ _ v1 HOK.out (by omega)).mono ?_
        rintro e w' ⟨v', rfl, v2, b2⟩
        obtain ⟨A2, c2, B2, d2, rfl⟩ := v2.cellsN (n := 4) HF2.out.sec rfl
        have k2 := k1.below b2
        obtain ⟨p0, p1, p2, p3, g1⟩ := k2.four
        rw [HF1.out]
        by_cases hkN : k < N
        · rw [if_pos hkN]
          obtain rfl : q = k := by have := HQ.out; omega
          go_wp2
          go_roundw
          case rel => exact ⟨q + 1, q + 1, by omega, by omega, by go_num, by go_num, ⟨A2, c2, B2, d2, _, k2.store4 _ _ _ _, v2.store4 k2 _ _ _ _, HF2.out⟩, bset4 (bnext t1 b2) hge⟩
          case measure => simp [intOf]; omega
        · rw [if_neg hkN]
          obtain rfl : q = N := by have := HQ.out; omega
          go_wp2
          go_roundw
          case rel => exact ⟨k + 1, q, by omega, by omega, by go_num, rfl, ⟨A2, c2, B2, d2, _, k2.store4 _ _ _ _, v2.store4 k2 _ _ _ _, HF2.out⟩, bset4 (bnext t1 b2) hge⟩
          case measure => simp [intOf]; omega
    · obtain rfl : k = m := by omega
      go_wp2_with fail
      refine (start_any _ _ D [] (-1) 0 _ v1 HOK.out (by omega) (cut_none _ _ _) (by decide)).mono ?_
      rintro e w3 ⟨v', rfl, v3, b3⟩
      rw [start_sD] at v3
      obtain ⟨A3, c3, B3, d3, rfl⟩ := v3.cellsN (n := 4) (m := 0) HP.out.sec rfl
      go_wp2_with fail
      refine (flush_any _ (sD D.sec) _ v3 (ok_sD HOK.out) (by simp [sD])).mono ?_
      rw [flush_sD]
      rintro e w4 ⟨v', rfl, v4, b4⟩
      obtain ⟨A4, c4, B4, d4, rfl⟩ := v4.cellsN (n := 4) (m := 0) HP.out.sec rfl
      have hbB : Below w4.heap.size w4 (w4.alloc (.cells #[.slice A4 4 c4, .slice B4 0 d4, .bool (sD D.sec).down, .int .i64 (sD D.sec).left] 28)) := (Below.refl _ _).alloc (Nat.le_refl _) _
      have k4 := ((k1.below b3).below b4).below hbB
      have t4 := bnext (bnext (bnext t1 b3) b4) hbB
      clear q0 q1 q2 q3 f1
      go_wp2_with fail
      refine (awake_any _).mono ?_
      rintro e w5 ⟨rfl, b5⟩
      have k5 := k4.below b5
      have t5 := bnext t4 b5
      obtain ⟨z0, z1, z2, z3, zf⟩ := k5.four
      clear k4 t4 b5 b4 b3 hbB k1 v1 v3 v4 t1
      have hdn := HP.out.down
      by_cases hkN : k ≤ N
      · go_wp2
        go_ret
        exact ⟨rfl, t5⟩
      · rw [show decide (N < k) = true by simp; omega] at hdn
        rw [hdn] at z2
        clear hdn
        go_wp2
        go_ret
        exact ⟨rfl, t5⟩

end Go.Proofs.Ythcfncpkeldapaa
