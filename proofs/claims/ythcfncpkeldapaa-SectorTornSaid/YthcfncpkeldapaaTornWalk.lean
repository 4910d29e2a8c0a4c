/-
  What SectorTorn answers: true, for every two strings and every byte. No conditions but that the strings' lengths are 63 bit numbers.
-/
import Derived.Test.YthcfncpkeldapaaSecW
namespace Go.Proofs.Ythcfncpkeldapaa
open Go.RowKit

def F1 : Dk := ⟨[zB], [], false, -1⟩
def F2 (a : ByteArray) : Dk := ⟨[zB], [(0, padB a)], false, -1⟩
def F3 (a : ByteArray) : Dk := ⟨[padB a], [], false, -1⟩
def F4 (a b : ByteArray) : Dk := ⟨[padB a], [(0, padB b)], false, -1⟩
def F5 (a b : ByteArray) (n : Int) : Dk := ⟨[tornB (padB a) (padB b) n], [], false, -1⟩

theorem h1 : newD 1 = F1 := rfl
theorem h2 (a : ByteArray) (h : a.size ≤ 128) : putD F1 0 a = (F2 a, 0) := by
  rw [putD, if_neg (by omega), if_neg (by simp [F1]), if_neg (by simp [F1])]
  rfl
theorem h3 (a : ByteArray) : flushD (F2 a) = (F3 a, 0) := rfl
theorem h4 (a b : ByteArray) (h : b.size ≤ 128) : putD (F3 a) 0 b = (F4 a b, 0) := by
  rw [putD, if_neg (by omega), if_neg (by simp [F3]), if_neg (by simp [F3])]
  rfl
theorem h5 (a b : ByteArray) (n : Int) : startD (F4 a b) [] 0 n = F5 a b n := rfl

theorem okF1 : F1.ok := h1 ▸ newD_ok 1 (by omega)
theorem okF2 (a : ByteArray) (h : a.size ≤ 128) : (F2 a).ok := by have := putD_ok F1 0 a okF1; rwa [h2 a h] at this
theorem okF3 (a : ByteArray) (h : a.size ≤ 128) : (F3 a).ok := by have := flushD_ok (F2 a) (okF2 a h); rwa [h3] at this
theorem okF4 (a b : ByteArray) (h : a.size ≤ 128) (k : b.size ≤ 128) : (F4 a b).ok := by have := putD_ok (F3 a) 0 b (okF3 a h); rwa [h4 a b k] at this

theorem ft_new (w : World) : Calls Try.prog 12 #[.int .i64 1] w fun e w' => ∃ A c B d, e = .returned (.tuple #[.agg #[.slice A 1 c, .slice B 0 d, .bool false, .int .i64 (-1)], .int .i64 0]) ∧
      IsDk w' (.agg #[.slice A 1 c, .slice B 0 d, .bool false, .int .i64 (-1)]) F1 ∧ Below w.heap.size w w' :=
  (new_yes 1 w (by omega)).mono fun e w' ⟨v', he, hd, hb⟩ => by
    rw [h1] at hd
    obtain ⟨A, c, B, d, rfl, h⟩ := hd
    exact ⟨A, c, B, d, he, ⟨A, c, B, d, rfl, h⟩, hb⟩

theorem ft_put1 (v : Value) (a : ByteArray) (w : World) (hv : IsDk w v F1) (ha : a.size ≤ 128) : Calls Try.prog 15 #[v, .int .i64 0, .string a] w fun e w' => ∃ A c B d, e = .returned (.tuple #[.agg #[.slice A 1 c, .slice B 1 d, .bool false, .int .i64 (-1)], .int .i64 0]) ∧
      IsDk w' (.agg #[.slice A 1 c, .slice B 1 d, .bool false, .int .i64 (-1)]) (F2 a) ∧ Below w.heap.size w w' :=
  (put_any v F1 0 a w hv okF1 (by decide)).mono fun e w' ⟨v', he, hd, hb⟩ => by
    rw [h2 a ha] at hd he
    obtain ⟨A, c, B, d, rfl, h⟩ := hd
    exact ⟨A, c, B, d, he, ⟨A, c, B, d, rfl, h⟩, hb⟩

theorem ft_flush (v : Value) (a : ByteArray) (w : World) (hv : IsDk w v (F2 a)) (ha : a.size ≤ 128) : Calls Try.prog 17 #[v] w fun e w' => ∃ A c B d, e = .returned (.tuple #[.agg #[.slice A 1 c, .slice B 0 d, .bool false, .int .i64 (-1)], .int .i64 0]) ∧
      IsDk w' (.agg #[.slice A 1 c, .slice B 0 d, .bool false, .int .i64 (-1)]) (F3 a) ∧ Below w.heap.size w w' :=
  (flush_any v (F2 a) w hv (okF2 a ha) (by simp [F2])).mono fun e w' ⟨v', he, hd, hb⟩ => by
    rw [h3 a] at hd he
    obtain ⟨A, c, B, d, rfl, h⟩ := hd
    exact ⟨A, c, B, d, he, ⟨A, c, B, d, rfl, h⟩, hb⟩

theorem ft_put2 (v : Value) (a b : ByteArray) (w : World) (hv : IsDk w v (F3 a)) (ha : a.size ≤ 128) (hb : b.size ≤ 128) : Calls Try.prog 15 #[v, .int .i64 0, .string b] w fun e w' => ∃ A c B d, e = .returned (.tuple #[.agg #[.slice A 1 c, .slice B 1 d, .bool false, .int .i64 (-1)], .int .i64 0]) ∧
      IsDk w' (.agg #[.slice A 1 c, .slice B 1 d, .bool false, .int .i64 (-1)]) (F4 a b) ∧ Below w.heap.size w w' :=
  (put_any v (F3 a) 0 b w hv (okF3 a ha) (by simp [F3])).mono fun e w' ⟨v', he, hd, hbb⟩ => by
    rw [h4 a b hb] at hd he
    obtain ⟨A, c, B, d, rfl, h⟩ := hd
    exact ⟨A, c, B, d, he, ⟨A, c, B, d, rfl, h⟩, hbb⟩

theorem ft_start (v : Value) (a b : ByteArray) (n : Int) (w : World) (hv : IsDk w v (F4 a b)) (ha : a.size ≤ 128) (hb : b.size ≤ 128) : Calls Try.prog 21 #[v, .agg #[.slice none 0 0, .int .i64 0, .int .i64 n]] w fun e w' => ∃ x o c B d, e = .returned (.agg #[.slice (some ⟨x, o, none⟩) 1 c, .slice B 0 d, .bool false, .int .i64 (-1)]) ∧
      w'.cell? ⟨x, o, none⟩ = some (.string (tornB (padB a) (padB b) n)) ∧ x < w'.heap.size ∧ Below w.heap.size w w' :=
  (start_any v _ (F4 a b) [] 0 n w hv (okF4 a b ha hb) (by simp [F4]) ⟨none, 0, rfl, Sl.nil _ _⟩ (by decide)).mono fun e w' ⟨v', he, hd, hbb⟩ => by
    rw [h5] at hd
    obtain ⟨A, c, B, d, rfl, hA, _⟩ := hd
    obtain ⟨x, o, rfl, hx, hc⟩ := hA.2.2.2 (by simp [F5])
    exact ⟨x, o, c, B, d, he, by have := hc 0 (by simp [F5]); simpa [F5] using this, hx, hbb⟩

theorem torn_eq (a b : ByteArray) (n : Nat) (k : Nat) (hk : k = min n 128) (ha : a.size ≤ 128) : tornB (padB a) (padB b) (n : Int) = (padB b).extract 0 k ++ (padB a).extract k (padB a).size := by
  have e : cutN (n : Int) = k := by unfold cutN; split <;> (try split) <;> omega
  rw [tornB, e, padB_size a ha]

set_option maxRecDepth 100000 in
set_option maxHeartbeats 4000000 in
theorem torn_long (a b : ByteArray) (n : Int) (w : World) (h : 128 < a.size ∨ 128 < b.size) :
    Calls Try.prog 8 #[.string a, .string b, .int .u8 n] w fun e w' => e = .returned (.bool true) ∧ Below w.heap.size w w' := by
  by_cases ha : 128 < a.size
  · clear h
    go_enter Try.func8, Try.ntmps8
    go_wp2_with (go_at_call 11; go_must (refine (awake_any _).mono ?_; rintro e w1 ⟨rfl, hb1⟩))
    go_ret
    exact ⟨rfl, hb1⟩
  · have hb : 128 < b.size := by omega
    clear h
    go_enter Try.func8, Try.ntmps8
    go_wp2_with (go_at_call 11; go_must (refine (awake_any _).mono ?_; rintro e w1 ⟨rfl, hb1⟩))
    go_ret
    exact ⟨rfl, hb1⟩

set_option maxRecDepth 100000 in
set_option maxHeartbeats 4000000 in
theorem torn_short (a b : ByteArray) (n : Nat) (w : World) (ha : a.size ≤ 128) (hb : b.size ≤ 128) (hn : n ≤ 255) :
    Calls Try.prog 8 #[.string a, .string b, .int .u8 (n : Int)] w fun e w' => e = .returned (.bool true) ∧ Below w.heap.size w w' := by
  go_enter Try.func8, Try.ntmps8
  go_wp2_with fail
  refine (ft_new _).mono ?_
  rintro e w1 ⟨A1, c1, B1, d1, rfl, v1, b1⟩
  go_wp2_with fail
  have hbA : Below w1.heap.size w1 (w1.alloc (.cells #[.slice A1 1 c1, .slice B1 0 d1, .bool false, .int .i64 (-1)] 28)) := (Below.refl _ _).alloc (Nat.le_refl _) _
  have t1 := bnext b1 hbA
  have hge := b1.size
  refine (ft_put1 _ _ _ (v1.below hbA) ha).mono ?_
  rintro e w2 ⟨A2, c2, B2, d2, rfl, v2, b2⟩
  have k2 := (Bk.new w1 _ _).below b2
  have t2 := bnext t1 b2
  obtain ⟨q20, q21, q22, q23, f2⟩ := k2.four
  clear b1 b2 v1 hbA t1
  go_wp2_with fail
  refine (ft_flush _ _ _ (v2.store4 k2 _ _ _ _) ha).mono ?_
  rintro e w3 ⟨A3, c3, B3, d3, rfl, v3, b3⟩
  have k3 := (k2.store4 _ _ _ _).below b3
  have t3 := bnext (bset4 t2 hge) b3
  obtain ⟨q30, q31, q32, q33, f3⟩ := k3.four
  clear q20 q21 q22 q23 f2 k2 t2 b3 v2
  go_wp2_with fail
  refine (ft_put2 _ _ _ _ (v3.store4 k3 _ _ _ _) ha hb).mono ?_
  rintro e w4 ⟨A4, c4, B4, d4, rfl, v4, b4⟩
  have k4 := (k3.store4 _ _ _ _).below b4
  have t4 := bnext (bset4 t3 hge) b4
  obtain ⟨q40, q41, q42, q43, f4⟩ := k4.four
  clear q30 q31 q32 q33 f3 k3 t3 b4 v3
  go_wp2_with fail
  refine (ft_start _ _ _ _ _ (v4.store4 k4 _ _ _ _) ha hb).mono ?_
  rintro e w5 ⟨bx, ox, c5, B5, d5, rfl, hcx, hbx, b5⟩
  have t5 := bnext (bset4 t4 hge) b5
  clear q40 q41 q42 q43 f4 k4 t4 b5 v4
  rw [torn_eq a b n (min (n : Int) 128).toNat (by omega) ha] at hcx
  have pa1 := padB_size a ha
  have pb1 := padB_size b hb
  have pa2 : 128 ≤ (padB a).size := by omega
  have pa3 : (padB a).size ≤ 128 := by omega
  have pb2 : 128 ≤ (padB b).size := by omega
  have pb3 : (padB b).size ≤ 128 := by omega
  clear pa1 pb1
  have hbD : Below w5.heap.size w5 (w5.alloc (.cells #[.slice (some ⟨bx, ox, none⟩) 1 c5, .slice B5 0 d5, .bool false, .int .i64 (-1)] 28)) := (Below.refl _ _).alloc (Nat.le_refl _) _
  have k6 := Bk.new w5 28 #[.slice (some ⟨bx, ox, none⟩) 1 c5, .slice B5 0 d5, .bool false, .int .i64 (-1)]
  have t6 := bnext t5 hbD
  have hcy := (hbD.cell (p := ⟨bx, ox, none⟩) hbx).trans hcx
  go_wp2_with fail
  generalize (w5.alloc (.cells #[.slice (some ⟨bx, ox, none⟩) 1 c5, .slice B5 0 d5, .bool false, .int .i64 (-1)] 28)) = W at *
  have hbz := k6.lt
  have hbx' : bx < W.heap.size := by have := hbD.size; omega
  obtain ⟨q0, q1, q2, q3, f6⟩ := k6.four
  have r0 := KW.cell q0 hbz
  have r2 := KW.cell hcy hbx'
  clear q0 q1 q2 q3 f6 hcy hcx hbD
  have hne : Nonempty (KW W) := ⟨⟨W, Below.refl _ _⟩⟩
  refine wp_region_kept W (Below.refl _ _) (by kernel_rfl) (by kernel_rfl) ?_
  repeat (go_big_quiet_step ((first
    | (go_at_call 11; with_reducible exact kept_of _ (awake_any _))
    | (go_at_call 28; with_reducible exact kept_of _ (full_any a _ ha))
    | (go_at_call 28; with_reducible exact kept_of _ (full_any b _ hb)))))
  refine wpQuiet_nil ?_
  rintro _ ⟨wx, rfl⟩
  go_wp2
  go_ret
  exact ⟨by simp, bnext t6 wx.2⟩

end Go.Proofs.Ythcfncpkeldapaa
