/-
  What SectorReads answers: true, for every list of deeds in memory, every byte and every string. No conditions.
-/
import Derived.Test.YthcfncpkeldapaaPure
namespace Go.Proofs.Ythcfncpkeldapaa
open Go.RowKit

theorem short_facts {l : List ActD} (h : shortB l = true) : l.length ≤ 60 ∧ ∀ x ∈ l, x.data.size ≤ 300 ∧ x.stay.length ≤ 50 := by
  unfold shortB at h
  simp only [Bool.and_eq_true, decide_eq_true_eq, List.all_eq_true] at h
  refine ⟨h.2, fun x hx => ?_⟩
  have := h.1 x hx
  simpa [okAct] using this

theorem cut_none (w : World) (t b : Int) : IsCut w (.agg #[.slice none 0 0, .int .i64 t, .int .i64 b]) [] t b := ⟨none, 0, rfl, Sl.nil _ _⟩

theorem IsDk.cellsN {w : World} {v : Value} {D : Dk} {n m : Nat} (h : IsDk w v D) (hn : D.sec.length = n) (hm : D.loose.length = m) :
    ∃ A c B d, v = .agg #[.slice A n c, .slice B m d, .bool D.down, .int .i64 D.left] := by
  obtain ⟨A, c, B, d, e, _⟩ := h
  subst hn
  subst hm
  exact ⟨A, c, B, d, e⟩

/-- played(6, l), for a short list: some device that is as the calls make it, of six sectors. -/
theorem played6 (A : Option Addr) (n c : Nat) (l : List ActD) (w : World) (h : IsActs w A n l) (hs : shortB l = true) :
    ∃ D : Dk, D.ok ∧ D.loose.length ≤ 60 ∧ D.sec.length = 6 ∧ D = playD (newD 6) l ∧
      Calls Try.prog 27 #[.int .i64 6, .slice A n c] w fun e w' => ∃ A' c' B' d', e = .returned (.agg #[.slice A' 6 c', .slice B' D.loose.length d', .bool D.down, .int .i64 D.left]) ∧
        IsDk w' (.agg #[.slice A' 6 c', .slice B' D.loose.length d', .bool D.down, .int .i64 D.left]) D ∧ Below w.heap.size w w' := by
  obtain ⟨hl, hx⟩ := short_facts hs
  have hpl := played_any 6 A n c l w (by omega) h (by rw [← h.1]; exact hl) (fun x hx' => by have := (hx x hx').2; omega)
  have hok : (playD (newD 6) l).ok := playD_ok (newD 6) l (newD_ok 6 (by omega)) (fun x hx' => by
    obtain ⟨j, hj, rfl⟩ := List.getElem_of_mem hx'
    obtain ⟨b, off, _, _, hc⟩ := h.2.2 (by rw [← h.1]; omega)
    obtain ⟨_, _, _, _, _, _, _, _, _, z, _⟩ := hc j hj
    exact z)
  have hln : (playD (newD 6) l).loose.length ≤ 60 := by
    have h1 := playD_len (newD 6) l
    have h2 : (newD 6).loose.length = 0 := rfl
    omega
  have hsec : (playD (newD 6) l).sec.length = 6 := by rw [playD_sec]; rfl
  refine ⟨playD (newD 6) l, hok, hln, hsec, rfl, hpl.mono ?_⟩
  rintro e w' ⟨v, rfl, hv, hb⟩
  obtain ⟨A', c', B', d', rfl⟩ := hv.cellsN hsec rfl
  exact ⟨A', c', B', d', rfl, hv, hb⟩

/-- A device that was started with nothing that stays. -/
def sD (s : List ByteArray) : Dk := ⟨s, [], false, -1⟩
def sX (s : List ByteArray) (k : Nat) (p : ByteArray) : Dk := ⟨s, [((k : Int), p)], false, -1⟩

theorem start_sD (D : Dk) : startD D [] (-1) 0 = sD D.sec := by
  unfold startD sD
  rw [startTo_none]

theorem put_sX (s : List ByteArray) (k : Nat) (data : ByteArray) (hk : k < s.length) (hd : data.size ≤ 128) : putD (sD s) k data = (sX s k (padB data), 0) := by
  rw [putD, if_neg (by omega), if_neg (by simp [sD]; omega), if_neg (by simp [sD])]
  rfl

theorem flush_sX (s : List ByteArray) (k : Nat) (p : ByteArray) : flushD (sX s k p) = (sD (s.set k p), 0) := rfl

theorem read_sD (s : List ByteArray) (i : Nat) (hi : i < s.length) : readD (sD s) i = (s.getD i ByteArray.empty, 0) := by
  rw [readD, if_neg (by simp [sD]), if_neg (by simp [sD]; omega)]
  rfl

theorem read_sX_same (s : List ByteArray) (k : Nat) (p : ByteArray) (hk : k < s.length) : readD (sX s k p) k = (p, 0) := by
  rw [readD, if_neg (by simp [sX]), if_neg (by simp [sX]; omega)]
  simp [readAt, sX, findTo]

theorem read_sX_other (s : List ByteArray) (k i : Nat) (p : ByteArray) (hi : i < s.length) (hne : i ≠ k) : readD (sX s k p) i = (s.getD i ByteArray.empty, 0) := by
  have : ¬ ((k : Int) = (i : Int)) := by omega
  rw [readD, if_neg (by simp [sX]), if_neg (by simp [sX]; omega)]
  simp [readAt, sX, findTo, this]

theorem ok_sD {D : Dk} (h : D.ok) : (sD D.sec).ok := start_sD D ▸ startD_ok D [] (-1) 0 h

theorem ok_sX {s : List ByteArray} {k : Nat} {data : ByteArray} (h : (sD s).ok) (hk : k < s.length) (hd : data.size ≤ 128) : (sX s k (padB data)).ok := by
  have := putD_ok (sD s) k data h
  rwa [put_sX s k data hk hd] at this

theorem ok_sY {s : List ByteArray} {k : Nat} {p : ByteArray} (h : (sX s k p).ok) : (sD (s.set k p)).ok := by
  have := flushD_ok _ h
  rwa [flush_sX] at this

theorem rs_start (v : Value) (D : Dk) (w : World) (hv : IsDk w v D) (hD : D.ok) (hm : D.loose.length ≤ 60) (h6 : D.sec.length = 6) :
    Calls Try.prog 21 #[v, .agg #[.slice none 0 0, .int .i64 (-1), .int .i64 0]] w fun e w' => ∃ A c B d, e = .returned (.agg #[.slice A 6 c, .slice B 0 d, .bool false, .int .i64 (-1)]) ∧
      IsDk w' (.agg #[.slice A 6 c, .slice B 0 d, .bool false, .int .i64 (-1)]) (sD D.sec) ∧ Below w.heap.size w w' :=
  (start_any v _ D [] (-1) 0 w hv hD (by omega) (cut_none _ _ _) (by decide)).mono fun e w' ⟨v', he, hd, hb⟩ => by
    rw [start_sD] at hd
    obtain ⟨A, c, B, d, rfl⟩ := hd.cellsN (n := 6) (m := 0) h6 rfl
    exact ⟨A, c, B, d, he, hd, hb⟩

theorem rs_put (v : Value) (s : List ByteArray) (k : Nat) (data : ByteArray) (w : World) (hv : IsDk w v (sD s)) (hD : (sD s).ok) (h6 : s.length = 6) (hk : k < 6) (hd : data.size ≤ 128) :
    Calls Try.prog 15 #[v, .int .i64 (k : Int), .string data] w fun e w' => ∃ A c B d, e = .returned (.tuple #[.agg #[.slice A 6 c, .slice B 1 d, .bool false, .int .i64 (-1)], .int .i64 0]) ∧
      IsDk w' (.agg #[.slice A 6 c, .slice B 1 d, .bool false, .int .i64 (-1)]) (sX s k (padB data)) ∧ Below w.heap.size w w' :=
  (put_any v (sD s) k data w hv hD (by simp [sD])).mono fun e w' ⟨v', he, hdk, hb⟩ => by
    rw [put_sX s k data (by omega) hd] at hdk he
    obtain ⟨A, c, B, d, rfl⟩ := hdk.cellsN (n := 6) (m := 1) h6 rfl
    exact ⟨A, c, B, d, he, hdk, hb⟩

theorem rs_flush (v : Value) (s : List ByteArray) (k : Nat) (p : ByteArray) (w : World) (hv : IsDk w v (sX s k p)) (hD : (sX s k p).ok) (h6 : s.length = 6) :
    Calls Try.prog 17 #[v] w fun e w' => ∃ A c B d, e = .returned (.tuple #[.agg #[.slice A 6 c, .slice B 0 d, .bool false, .int .i64 (-1)], .int .i64 0]) ∧
      IsDk w' (.agg #[.slice A 6 c, .slice B 0 d, .bool false, .int .i64 (-1)]) (sD (s.set k p)) ∧ Below w.heap.size w w' :=
  (flush_any v (sX s k p) w hv hD (by simp [sX])).mono fun e w' ⟨v', he, hdk, hb⟩ => by
    rw [flush_sX] at hdk he
    obtain ⟨A, c, B, d, rfl⟩ := hdk.cellsN (n := 6) (m := 0) (by simp [sD, h6]) rfl
    exact ⟨A, c, B, d, he, hdk, hb⟩

theorem rs_read (v : Value) (D : Dk) (i : Nat) (w : World) (r : ByteArray) (hv : IsDk w v D) (hD : D.ok) (hm : D.loose.length ≤ 60) (hr : readD D i = (r, 0)) :
    Calls Try.prog 23 #[v, .int .i64 (i : Int)] w fun e w' => e = .returned (.tuple #[.string r, .int .i64 0]) ∧ Below w.heap.size w w' :=
  (read_any v D i w hv hD (by omega)).mono fun e w' ⟨he, hb⟩ => by
    rw [hr] at he
    exact ⟨he, hb⟩

set_option maxRecDepth 100000 in
set_option maxHeartbeats 400000 in
theorem reads_long (A : Option Addr) (n c : Nat) (l : List ActD) (at_ : Int) (data : ByteArray) (w : World) (h : IsActs w A n l) (hs : shortB l = false ∨ 128 < data.size) :
    Calls Try.prog 6 #[.slice A n c, .int .u8 at_, .string data] w fun e w' => e = .returned (.bool true) ∧ Below w.heap.size w w' := by
  have hsh := short_any A n c l w h
  cases hb : shortB l with
  | false =>
    rw [hb] at hsh
    clear hs
    go_enter Try.func6, Try.ntmps6
    go_wp2_with (first
      | (go_at_call 10; go_must (refine hsh.mono ?_; rintro e w1 ⟨rfl, rfl⟩))
      | (go_at_call 11; go_must (refine (awake_any _).mono ?_; rintro e w1 ⟨rfl, hb1⟩)))
    go_ret
    exact ⟨rfl, hb1⟩
  | true =>
    rw [hb] at hsh
    have hd : 128 < data.size := by rcases hs with hs | hs <;> simp_all
    clear hs
    go_enter Try.func6, Try.ntmps6
    go_wp2_with (first
      | (go_at_call 10; go_must (refine hsh.mono ?_; rintro e w1 ⟨rfl, rfl⟩))
      | (go_at_call 11; go_must (refine (awake_any _).mono ?_; rintro e w1 ⟨rfl, hb1⟩)))
    go_ret
    exact ⟨rfl, hb1⟩

set_option maxRecDepth 100000 in
set_option maxHeartbeats 400000 in
theorem reads_short (A : Option Addr) (n c : Nat) (l : List ActD) (at_ : Nat) (data : ByteArray) (w : World) (h : IsActs w A n l) (hs : shortB l = true) (hat : at_ ≤ 255) (hd : data.size ≤ 128) :
    Calls Try.prog 6 #[.slice A n c, .int .u8 (at_ : Int), .string data] w fun e w' => e = .returned (.bool true) ∧ Below w.heap.size w w' := by
  have hsh := short_any A n c l w h
  rw [hs] at hsh
  obtain ⟨D, hok, hln, hsec, -, hpl⟩ := played6 A n c l w h hs
  have HOK := Lib.hid hok
  have HSEC := Lib.hid hsec
  obtain ⟨s, hsd⟩ : ∃ s, D.sec = s := ⟨_, rfl⟩
  have hs6 : s.length = 6 := hsd ▸ hsec
  have HS6 := Lib.hid hs6
  have HSD := Lib.hid hsd
  obtain ⟨k, hk⟩ : ∃ k, at_ % 6 = k := ⟨_, rfl⟩
  have hk6 : k < 6 := by omega
  have hmod2 : (at_ : Int) % 6 = (k : Int) := by omega
  clear hs hok hsec h hs6 hsd hk
  go_enter Try.func6, Try.ntmps6
  go_wp2_with fail
  refine hsh.mono ?_
  rintro e w0 ⟨rfl, rfl⟩
  go_wp2_with fail
  refine hpl.mono ?_
  rintro e w1 ⟨A1, c1, B1, d1, rfl, v1, b1⟩
  clear hsh hpl
  go_wp2_with fail
  refine (rs_start _ D _ v1 HOK.out hln HSEC.out).mono ?_
  rintro e w2 ⟨A2, c2, B2, d2, rfl, v2, b2⟩
  rw [HSD.out] at v2
  have t2 := bnext b1 b2
  have hbA : Below w2.heap.size w2 (w2.alloc (.cells #[.slice A2 6 c2, .slice B2 0 d2, .bool false, .int .i64 (-1)] 28)) := (Below.refl _ _).alloc (Nat.le_refl _) _
  clear b1 b2 v1
  go_wp2_with fail
  have okD : (sD s).ok := HSD.out ▸ ok_sD HOK.out
  have okX := ok_sX okD (k := k) (data := data) (by rw [HS6.out]; exact hk6) hd
  have okY := ok_sY okX
  have OKD := Lib.hid okD
  have OKX := Lib.hid okX
  have OKY := Lib.hid okY
  clear okD okX okY
  refine (rs_put _ s k data _ (v2.below hbA) OKD.out HS6.out hk6 hd).mono ?_
  rintro e w3 ⟨A3, c3, B3, d3, rfl, v3, b3⟩
  have k3 := (Bk.new w2 28 _).below b3
  have v3d := (v2.below hbA).below b3
  have t3 := bnext (bnext t2 hbA) b3
  have hbB : Below w3.heap.size w3 (w3.alloc (.cells #[.slice A3 6 c3, .slice B3 1 d3, .bool false, .int .i64 (-1)] 28)) := (Below.refl _ _).alloc (Nat.le_refl _) _
  clear b3 hbA v2 t2
  go_wp2_with fail
  refine (rs_flush _ s k _ _ (v3.below hbB) OKX.out HS6.out).mono ?_
  rintro e w4 ⟨A4, c4, B4, d4, rfl, v4, b4⟩
  have k4 := (Bk.new w3 28 _).below b4
  have k4d := (k3.below hbB).below b4
  have v4d := (v3d.below hbB).below b4
  have v4x := (v3.below hbB).below b4
  have t4 := bnext (bnext t3 hbB) b4
  have hbC : Below w4.heap.size w4 (w4.alloc (.cells #[.slice A4 6 c4, .slice B4 0 d4, .bool false, .int .i64 (-1)] 28)) := (Below.refl _ _).alloc (Nat.le_refl _) _
  have k5 := Bk.new w4 28 #[.slice A4 6 c4, .slice B4 0 d4, .bool false, .int .i64 (-1)]
  have k5x := k4.below hbC
  have k5d := k4d.below hbC
  have v5d := v4d.below hbC
  have v5x := v4x.below hbC
  have v5y := v4.below hbC
  have t5 := bnext t4 hbC
  clear b4 hbB v3 v3d t3 k3 k4 k4d v4d v4x v4 t4
  go_wp2_with fail
  generalize (w4.alloc (.cells #[.slice A4 6 c4, .slice B4 0 d4, .bool false, .int .i64 (-1)] 28)) = W at *
  clear hbC
  go_loopw [13] (fun i wr => ∃ j : Nat, j ≤ 6 ∧ i = .int .i64 j ∧ Below W.heap.size W wr) (fun i _ => 6 - (intOf i).toNat)
  case atStart => exact ⟨0, Nat.zero_le _, rfl, Below.refl _ _⟩
  case round =>
    obtain ⟨j, hj, rfl, hbw⟩ := hrel
    by_cases hlt : j < 6
    · have m5 := k5.below hbw
      have m5x := k5x.below hbw
      have m5d := k5d.below hbw
      have u5d := v5d.below hbw
      have u5x := v5x.below hbw
      have u5y := v5y.below hbw
      obtain ⟨x0, x1, x2, x3, xf⟩ := m5x.four
      have hjs : j < s.length := by rw [HS6.out]; exact hlt
      have rd0 := Lib.hid (read_sD s j hjs)
      by_cases hjk : j = k
      · subst hjk
        have rdx := Lib.hid (read_sX_same s j (padB data) hjs)
        have rdy := Lib.hid (read_sD (s.set j (padB data)) j (by simpa using hjs))
        have e1 : (s.set j (padB data)).getD j ByteArray.empty = padB data := by rw [List.getD_eq_getElem?_getD, List.getElem?_set_self hjs]; rfl
        have E1 := Lib.hid e1
        clear e1 hjs
        go_wp2_with fail
        refine (rs_read _ _ j _ _ u5x OKX.out (by simp [sX]) rdx.out).mono ?_
        rintro e wa ⟨rfl, ba⟩
        obtain ⟨y0, y1, y2, y3, yf⟩ := (m5.below ba).four
        clear x0 x1 x2 x3 xf
        go_wp2_with fail
        refine (rs_read _ _ j _ _ (u5y.below ba) OKY.out (by simp [sD]) rdy.out).mono ?_
        rintro e wb ⟨rfl, bb⟩
        rw [E1.out]
        obtain ⟨z0, z1, z2, z3, zf⟩ := ((m5d.below ba).below bb).four
        clear y0 y1 y2 y3 yf
        go_wp2_with fail
        refine (rs_read _ _ j _ _ ((u5d.below ba).below bb) OKD.out (by simp [sD]) rd0.out).mono ?_
        rintro e wc ⟨rfl, bc⟩
        have hjj : ((j : Int) == (j : Int)) = true := by simp
        have hjn : ((j : Int) != (j : Int)) = false := by simp
        clear z0 z1 z2 z3 zf
        go_wp2_with fail
        refine (full_any data _ hd).mono ?_
        rintro e wd ⟨rfl, bd⟩
        go_wp2
        go_roundw
        case rel => exact ⟨j + 1, by omega, by go_num, bnext (bnext (bnext (bnext hbw ba) bb) bc) bd⟩
        case measure => simp [intOf]; omega
      · have rdx := Lib.hid (read_sX_other s k j (padB data) hjs hjk)
        have rdy := Lib.hid (read_sD (s.set k (padB data)) j (by simpa using hjs))
        have e1 : (s.set k (padB data)).getD j ByteArray.empty = s.getD j ByteArray.empty := by rw [List.getD_eq_getElem?_getD, List.getElem?_set_ne (by omega), List.getD_eq_getElem?_getD]
        have E1 := Lib.hid e1
        have hjj : ((j : Int) == (k : Int)) = false := by simp; omega
        have hjn : ((j : Int) != (k : Int)) = true := by simp; omega
        obtain ⟨sv, hsv⟩ : ∃ sv, s.getD j ByteArray.empty = sv := ⟨_, rfl⟩
        have HSV := Lib.hid hsv
        clear e1 hjs hjk hsv
        go_wp2_with fail
        refine (rs_read _ _ j _ _ u5x OKX.out (by simp [sX]) rdx.out).mono ?_
        rintro e wa ⟨rfl, ba⟩
        rw [HSV.out]
        obtain ⟨y0, y1, y2, y3, yf⟩ := (m5.below ba).four
        clear x0 x1 x2 x3 xf
        go_wp2_with fail
        refine (rs_read _ _ j _ _ (u5y.below ba) OKY.out (by simp [sD]) rdy.out).mono ?_
        rintro e wb ⟨rfl, bb⟩
        rw [E1.out, HSV.out]
        obtain ⟨z0, z1, z2, z3, zf⟩ := ((m5d.below ba).below bb).four
        clear y0 y1 y2 y3 yf
        go_wp2_with fail
        refine (rs_read _ _ j _ _ ((u5d.below ba).below bb) OKD.out (by simp [sD]) rd0.out).mono ?_
        rintro e wc ⟨rfl, bc⟩
        rw [HSV.out]
        clear z0 z1 z2 z3 zf
        go_wp2
        go_roundw
        case rel => exact ⟨j + 1, by omega, by go_num, bnext (bnext (bnext hbw ba) bb) bc⟩
        case measure => simp [intOf]; omega
    · go_wp2_with (go_at_call 11; go_must (refine (awake_any _).mono ?_; rintro e w9 ⟨rfl, hb9⟩))
      go_ret
      exact ⟨rfl, bnext (bnext t5 hbw) hb9⟩

end Go.Proofs.Ythcfncpkeldapaa
