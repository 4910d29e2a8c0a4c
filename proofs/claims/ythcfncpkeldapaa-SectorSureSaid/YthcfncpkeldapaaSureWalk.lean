/-
  What SectorSure answers: true, for every two lists of deeds in memory and every cut. No conditions.
-/
import Derived.Test.YthcfncpkeldapaaSurePure
import Derived.Deep.RegionLaw
import Derived.Deep.DrawnRows
namespace Go.Proofs.Ythcfncpkeldapaa
open Go.RowKit

attribute [local go_sem ↓] Go.wp_at_zero Go.wp_at_succ

set_option maxRecDepth 100000 in
set_option maxHeartbeats 600000 in
theorem sure_long (A A' S : Option Addr) (n c n' c' q qc : Nat) (torn bytes : Int) (l l' : List ActD) (w : World) (h : IsActs w A n l) (h' : IsActs w A' n' l') (hs : shortB l = false ∨ shortB l' = false ∨ 50 < q) :
    Calls Try.prog 4 #[.slice A n c, .slice A' n' c', .agg #[.slice S q qc, .int .i64 torn, .int .i64 bytes]] w fun e w' => e = .returned (.bool true) ∧ Below w.heap.size w w' := by
  have hbA : Below w.heap.size w (w.alloc (.cells #[.slice S q qc, .int .i64 torn, .int .i64 bytes] 35)) := (Below.refl _ _).alloc (Nat.le_refl _) _
  have hsh := short_any A n c l _ (h.below hbA)
  have hsh' := short_any A' n' c' l' _ (h'.below hbA)
  cases hb : shortB l with
  | false =>
    rw [hb] at hsh
    clear hs hsh'
    go_enter Try.func4, Try.ntmps4
    go_wp2_with fail
    refine hsh.mono ?_
    rintro e w1 ⟨rfl, rfl⟩
    go_wp2_with fail
    refine (awake_any _).mono ?_
    rintro e w1 ⟨rfl, hb1⟩
    go_wp2
    go_ret
    exact ⟨rfl, bnext hbA hb1⟩
  | true =>
    rw [hb] at hsh
    cases hb' : shortB l' with
    | false =>
      rw [hb'] at hsh'
      clear hs
      go_enter Try.func4, Try.ntmps4
      go_wp2_with fail
      refine hsh.mono ?_
      rintro e w1 ⟨rfl, rfl⟩
      go_wp2_with fail
      refine hsh'.mono ?_
      rintro e w1 ⟨rfl, rfl⟩
      go_wp2_with fail
      refine (awake_any _).mono ?_
      rintro e w1 ⟨rfl, hb1⟩
      go_wp2
      go_ret
      exact ⟨rfl, bnext hbA hb1⟩
    | true =>
      rw [hb'] at hsh'
      have hq : 50 < q := by rcases hs with hs | hs | hs <;> simp_all
      clear hs
      go_enter Try.func4, Try.ntmps4
      go_wp2_with fail
      refine hsh.mono ?_
      rintro e w1 ⟨rfl, rfl⟩
      go_wp2_with fail
      refine hsh'.mono ?_
      rintro e w1 ⟨rfl, rfl⟩
      go_wp2_with fail
      refine (awake_any _).mono ?_
      rintro e w1 ⟨rfl, hb1⟩
      go_wp2
      go_ret
      exact ⟨rfl, bnext hbA hb1⟩

theorem rs_flushS (v : Value) (s : List ByteArray) (w : World) (hv : IsDk w v (sD s)) (hD : (sD s).ok) (h6 : s.length = 6) :
    Calls Try.prog 17 #[v] w fun e w' => ∃ A c B d, e = .returned (.tuple #[.agg #[.slice A 6 c, .slice B 0 d, .bool false, .int .i64 (-1)], .int .i64 0]) ∧
      IsDk w' (.agg #[.slice A 6 c, .slice B 0 d, .bool false, .int .i64 (-1)]) (sD s) ∧ Below w.heap.size w w' :=
  (flush_any v (sD s) w hv hD (by simp [sD])).mono fun e w' ⟨v', he, hdk, hb⟩ => by
    rw [show flushD (sD s) = (sD s, 0) from rfl] at hdk he
    obtain ⟨A, c, B, d, rfl⟩ := hdk.cellsN (n := 6) (m := 0) h6 rfl
    exact ⟨A, c, B, d, he, hdk, hb⟩

/-- The loose writes of a device value. -/
theorem IsDk.loos {w : World} {D : Dk} {A B : Option Addr} {n m c d : Nat} {dn : Bool} {lf : Int} (h : IsDk w (.agg #[.slice A n c, .slice B m d, .bool dn, .int .i64 lf]) D) (hm : 0 < m) :
    ∃ b off, B = some ⟨b, off, none⟩ ∧ b < w.heap.size ∧ ∀ i (hi : i < D.loose.length), w.cell? ⟨b, off + i * 2, none⟩ = some (.int .i64 (D.loose[i]).1) ∧ w.cell? ⟨b, off + i * 2 + 1, none⟩ = some (.string (D.loose[i]).2) := by
  obtain ⟨A', c', B', d', e, _, hB, _⟩ := h
  simp only [Value.agg.injEq, Array.mk.injEq, List.cons.injEq, Value.slice.injEq] at e
  obtain ⟨_, ⟨rfl, rfl, rfl⟩, _⟩ := e
  obtain ⟨b, off, e1, hb, hc⟩ := hB.2.2.2 hm
  refine ⟨b, off, e1, hb, fun i hi => ⟨?_, ?_⟩⟩
  · rw [hc _ (by omega), wrow_at0 _ _ hi]
  · rw [Nat.add_assoc, hc _ (by omega), wrow_at1 _ _ hi]

theorem rs_startC (v u : Value) (D : Dk) (stay : List Bool) (torn bytes : Int) (w : World) (hv : IsDk w v D) (hD : D.ok) (hm : D.loose.length ≤ 60) (hu : IsCut w u stay torn bytes) (hs : stay.length ≤ 50) (h6 : (startD D stay torn bytes).sec.length = 6) :
    Calls Try.prog 21 #[v, u] w fun e w' => ∃ A c B d, e = .returned (.agg #[.slice A 6 c, .slice B 0 d, .bool false, .int .i64 (-1)]) ∧
      IsDk w' (.agg #[.slice A 6 c, .slice B 0 d, .bool false, .int .i64 (-1)]) (startD D stay torn bytes) ∧ Below w.heap.size w w' :=
  (start_any v u D stay torn bytes w hv hD (by omega) hu (by omega)).mono fun e w' ⟨v', he, hdk, hb⟩ => by
    obtain ⟨A, c, B, d, rfl⟩ := hdk.cellsN (n := 6) (m := 0) h6 rfl
    exact ⟨A, c, B, d, he, hdk, hb⟩

theorem toList_inj {a b : ByteArray} (h : a.toList = b.toList) : a = b := by
  rw [ByteArray.toList_eq, ByteArray.toList_eq] at h
  exact ByteArray.ext (Array.toList_inj.1 h)

set_option maxRecDepth 100000 in
set_option maxHeartbeats 40000000 in
theorem sure_short (A A' S : Option Addr) (n c n' c' q qc : Nat) (torn bytes : Int) (l l' : List ActD) (stay : List Bool) (w : World) (h : IsActs w A n l) (h' : IsActs w A' n' l') (hs : shortB l = true) (hs' : shortB l' = true)
    (hq : q ≤ 50) (hql : stay.length = q) (hS : Sl w 1 S q qc (stay.map Value.bool)) :
    Calls Try.prog 4 #[.slice A n c, .slice A' n' c', .agg #[.slice S q qc, .int .i64 torn, .int .i64 bytes]] w fun e w' => e = .returned (.bool true) ∧ Below w.heap.size w w' := by
  have hbA : Below w.heap.size w (w.alloc (.cells #[.slice S q qc, .int .i64 torn, .int .i64 bytes] 35)) := (Below.refl _ _).alloc (Nat.le_refl _) _
  have k0 := Bk.new w 35 #[.slice S q qc, .int .i64 torn, .int .i64 bytes]
  have hsh := short_any A n c l _ (h.below hbA)
  have hsh' := short_any A' n' c' l' _ (h'.below hbA)
  rw [hs] at hsh
  rw [hs'] at hsh'
  have hn60 : n' ≤ 60 := by rw [← h'.1]; exact (short_facts hs').1
  obtain ⟨D, hok, hln, hsec, -, hpl⟩ := played6 A n c l _ (h.below hbA) hs
  have HOK := Lib.hid hok
  have HSEC := Lib.hid hsec
  obtain ⟨s, hsd⟩ : ∃ s, D.sec = s := ⟨_, rfl⟩
  have hs6 : s.length = 6 := hsd ▸ hsec
  have HS6 := Lib.hid hs6
  have HSD := Lib.hid hsd
  have okD : (sD s).ok := hsd ▸ ok_sD hok
  have OKD := Lib.hid okD
  have H' := Lib.hid h'
  have HST := Lib.hid hS
  have HQL := Lib.hid hql
  clear hs hs' hok hsec hs6 hsd okD h h' hS hql
  go_enter Try.func4, Try.ntmps4
  go_wp2_with fail
  refine hsh.mono ?_
  rintro e w0 ⟨rfl, rfl⟩
  go_wp2_with fail
  refine hsh'.mono ?_
  rintro e w0 ⟨rfl, rfl⟩
  go_wp2_with fail
  refine hpl.mono ?_
  rintro e w1 ⟨A1, c1, B1, d1, rfl, v1, b1⟩
  clear hsh hsh' hpl
  go_wp2_with fail
  refine (rs_start _ D _ v1 HOK.out hln HSEC.out).mono ?_
  rintro e w2 ⟨A2, c2, B2, d2, rfl, v2, b2⟩
  rw [HSD.out] at v2
  go_wp2_with fail
  refine (rs_flushS _ s _ v2 OKD.out HS6.out).mono ?_
  rintro e w3 ⟨A3, c3, B3, d3, rfl, v3, b3⟩
  have t3 := bnext (bnext (bnext hbA b1) b2) b3
  have k3 := ((k0.below b1).below b2).below b3
  clear v1 v2 b1 b2 b3 hbA k0 hln
  have hge : w.heap.size < w3.heap.size := k3.lt
  have hbB : Below w3.heap.size w3 ((w3.alloc (.cells #[.slice A3 6 c3, .slice B3 0 d3, .bool false, .int .i64 (-1)] 28)).alloc (.cells #[.slice A3 6 c3, .slice B3 0 d3, .bool false, .int .i64 (-1)] 28)) := ((Below.refl _ _).alloc (Nat.le_refl _) _).alloc (by simp) _
  have kd := (Bk.new w3 28 #[.slice A3 6 c3, .slice B3 0 d3, .bool false, .int .i64 (-1)]).alloc (.cells #[.slice A3 6 c3, .slice B3 0 d3, .bool false, .int .i64 (-1)] 28)
  have kx := Bk.new (w3.alloc (.cells #[.slice A3 6 c3, .slice B3 0 d3, .bool false, .int .i64 (-1)] 28)) 28 #[.slice A3 6 c3, .slice B3 0 d3, .bool false, .int .i64 (-1)]
  rw [World.size_alloc] at kx
  have vd := v3.below hbB
  have kc := k3.below hbB
  have t4 := bnext t3 hbB
  clear k3 v3 t3 hbB
  go_wp2_with fail
  have hinv0 : PutsInv s 0 (sD s) := ⟨OKD.out, rfl, rfl, rfl, by simp [sD]⟩
  have HI := Lib.hid (fun k hk => puts_inv hinv0 l' k hk)
  clear hinv0
  go_loopw [10] (fun i wr => ∃ k : Nat, k ≤ n' ∧ i = .int .i64 k ∧ (∃ Ax cx Bx dx, Bk wr (w3.heap.size + 1) 28 #[.slice Ax 6 cx, .slice Bx (putsD (sD s) (l'.take k)).loose.length dx, .bool (putsD (sD s) (l'.take k)).down, .int .i64 (putsD (sD s) (l'.take k)).left] ∧
      IsDk wr (.agg #[.slice Ax 6 cx, .slice Bx (putsD (sD s) (l'.take k)).loose.length dx, .bool (putsD (sD s) (l'.take k)).down, .int .i64 (putsD (sD s) (l'.take k)).left]) (putsD (sD s) (l'.take k))) ∧
      Bk wr w3.heap.size 28 #[.slice A3 6 c3, .slice B3 0 d3, .bool false, .int .i64 (-1)] ∧ IsDk wr (.agg #[.slice A3 6 c3, .slice B3 0 d3, .bool false, .int .i64 (-1)]) (sD s) ∧
      Bk wr w.heap.size 35 #[.slice S q qc, .int .i64 torn, .int .i64 bytes] ∧ Below w.heap.size w wr)
    (fun i _ => n' - (intOf i).toNat)
  case atStart => exact ⟨0, Nat.zero_le _, rfl, ⟨A3, c3, B3, d3, kx, vd⟩, kd, vd, kc, t4⟩
  case round =>
    clear kd kx vd kc t4
    obtain ⟨k, hk, rfl, ⟨Ax, cx, Bx, dx, kx, vx⟩, kd, vd, kc, t4⟩ := hrel
    by_cases hlt : k < n'
    · have hkl : k < l'.length := by rw [H'.out.1]; exact hlt
      obtain ⟨b, off, rfl, hbl, hcell⟩ := H'.out.2.2 (by omega)
      obtain ⟨SS, qq, y0, y1, y2, _⟩ := (hcell k hkl).below t4 hbl
      have hinv := HI.out k (by omega)
      have hnext := Lib.hid (putsD_snoc (sD s) l' k hkl)
      obtain ⟨x, hx⟩ : ∃ x, l'[k] = x := ⟨_, rfl⟩
      rw [hx] at y0 y1 y2
      have HX := Lib.hid hx
      obtain ⟨X, hXd⟩ : ∃ X, putsD (sD s) (l'.take k) = X := ⟨_, rfl⟩
      rw [hXd] at kx vx hinv
      have HXD := Lib.hid hXd
      have HINV := Lib.hid hinv
      have HXok := Lib.hid hinv.ok
      have hxl : X.loose.length ≤ 60 := by have := hinv.len; omega
      have hx6 : (putD X x.at_ x.data).1.sec.length = 6 := by rw [putD_sec, hinv.sec, HS6.out]
      have HX6 := Lib.hid hx6
      clear hx hXd hinv hcell hx6
      obtain ⟨q0, q1, q2, q3, f1⟩ := kx.four
      have lx := kx.lt
      obtain ⟨xk, xa, xd, xs, xt, xb⟩ := x
      simp only at y0 y1 y2 HX6
      by_cases h0 : xk = 0
      · have e0 : (xk == 0) = true := by simp [h0]
        have e : putsD (sD s) (l'.take (k + 1)) = (putD X xa xd).1 := by rw [hnext.out, HXD.out, HX.out]; simp [doPut, h0]
        have E := Lib.hid e
        clear e h0
        go_wp2_with fail
        go_region_law (first | (go_simp; go_at_call 15; refine (put_any _ X _ _ _ (vx.below (below_drew1 wr)) HXok.out (by omega)).mono ?_; rintro e w' ⟨v', rfl, v2, b2⟩; obtain ⟨A2, c2, B2, d2, rfl⟩ := v2.cellsN (n := 6) HX6.out rfl; have k2 := (kx.below (below_drew1 wr)).below b2; obtain ⟨p0, p1, p2, p3, g1⟩ := k2.four))
        all_goals
          go_wp2
          go_roundw
          case rel => exact ⟨k + 1, by omega, by go_num, by rw [E.out]; exact ⟨A2, c2, B2, d2, k2.store4 _ _ _ _, v2.store4 k2 _ _ _ _⟩, far4 ((kd.below (below_drew1 wr)).below b2) (by omega), ((vd.below (below_drew1 wr)).below b2).store4 k2 _ _ _ _, far4 ((kc.below (below_drew1 wr)).below b2) (by omega), bset4 (bnext (bnext t4 (below_drew1 wr)) b2) (by omega)⟩
          case measure => simp [intOf]; omega
      · have e0 : (xk == 0) = false := by simp [h0]
        have e : putsD (sD s) (l'.take (k + 1)) = X := by rw [hnext.out, HXD.out, HX.out]; simp [doPut, h0]
        have E := Lib.hid e
        clear e h0
        go_wp2
        go_roundw
        case rel => exact ⟨k + 1, by omega, by go_num, by rw [E.out]; exact ⟨Ax, cx, Bx, dx, kx, vx⟩, kd, vd, kc, t4⟩
        case measure => simp [intOf]; omega
    · obtain rfl : k = n' := by omega
      have hinv := HI.out k (by rw [H'.out.1]; exact Nat.le_refl _)
      obtain ⟨X, hXd⟩ : ∃ X, putsD (sD s) (l'.take k) = X := ⟨_, rfl⟩
      rw [hXd] at kx vx hinv
      have HINV := Lib.hid hinv
      have hxl : X.loose.length ≤ 60 := by have := hinv.len; omega
      have hy6 : (startD X stay torn bytes).sec.length = 6 := by simp [startD, startTo_length, hinv.sec, HS6.out]
      have HY6 := Lib.hid hy6
      clear hXd hinv hy6 HI
      obtain ⟨q0, q1, q2, q3, f1⟩ := kx.four
      obtain ⟨r0, r1, r2, f2⟩ := kc.three
      go_wp2_with fail
      refine (rs_startC _ _ X stay torn bytes _ vx HINV.out.ok hxl ⟨S, qc, by rw [HQL.out], by rw [HQL.out]; exact HST.out.below t4⟩ (by rw [HQL.out]; exact hq) HY6.out).mono ?_
      rintro e w5 ⟨A5, c5, B5, d5, rfl, vy, b5⟩
      have hbY : Below w5.heap.size w5 (w5.alloc (.cells #[.slice A5 6 c5, .slice B5 0 d5, .bool false, .int .i64 (-1)] 28)) := (Below.refl _ _).alloc (Nat.le_refl _) _
      have ky := Bk.new w5 28 #[.slice A5 6 c5, .slice B5 0 d5, .bool false, .int .i64 (-1)]
      replace vy := vy.below hbY
      replace kx := (kx.below b5).below hbY
      replace kd := (kd.below b5).below hbY
      replace kc := (kc.below b5).below hbY
      replace vx := (vx.below b5).below hbY
      replace vd := (vd.below b5).below hbY
      replace t4 := bnext (bnext t4 b5) hbY
      clear q0 q1 q2 q3 f1 r0 r1 r2 f2 b5 hbY H' HST HQL
      go_wp2_with fail
      generalize (w5.alloc (.cells #[.slice A5 6 c5, .slice B5 0 d5, .bool false, .int .i64 (-1)] 28)) = Z at *
      obtain ⟨m, hm⟩ : ∃ m, X.loose.length = m := ⟨_, rfl⟩
      rw [hm] at kx vx hxl
      have HM := Lib.hid hm
      have HFIT := Lib.hid (fun at_ ha => startTo_fits X.sec X.loose stay torn bytes at_ ha (fun x hx => ⟨(HINV.out.ok.loose x hx).1, (HINV.out.ok.loose x hx).2.1⟩) X.loose.length)
      have HXS := Lib.hid HINV.out.sec
      obtain ⟨by_, oy, rfl, -, hby, hcy⟩ := vy.secs (by omega)
      obtain ⟨bd, od, rfl, -, hbd, hcd⟩ := vd.secs (by omega)
      have HCY := Lib.hid hcy
      have HCD := Lib.hid hcd
      have HVX := Lib.hid vx
      generalize X.down = xdn at *
      generalize X.left = xlf at *
      clear hm hcy hcd vx vy vd HINV
      go_loopw [12] (fun i wr => ∃ j : Nat, j ≤ 6 ∧ i = .int .i64 j ∧ Below Z.heap.size Z wr) (fun i _ => 6 - (intOf i).toNat)
      case atStart => exact ⟨0, Nat.zero_le _, rfl, Below.refl _ _⟩
      case round =>
        obtain ⟨j, hj, rfl, hbw⟩ := hrel
        by_cases hlt : j < 6
        · obtain ⟨y0, y1, y2, y3, yf⟩ := (ky.below hbw).four
          obtain ⟨x0, x1, x2, x3, xf⟩ := (kd.below hbw).four
          obtain ⟨yv, hyv⟩ : ∃ yv, (startD X stay torn bytes).sec.getD j ByteArray.empty = yv := ⟨_, rfl⟩
          obtain ⟨dv, hdv⟩ : ∃ dv, s.getD j ByteArray.empty = dv := ⟨_, rfl⟩
          have e1 : wr.cell? ⟨by_, oy + j, none⟩ = some (.string yv) := by
            rw [hbw.cell (p := ⟨by_, oy + j, none⟩) hby, HCY.out j (by rw [HY6.out]; omega), hyv]
          have e2 : wr.cell? ⟨bd, od + j, none⟩ = some (.string dv) := by
            rw [hbw.cell (p := ⟨bd, od + j, none⟩) hbd, HCD.out j (by rw [show (sD s).sec = s from rfl, HS6.out]; omega), show (sD s).sec = s from rfl, hdv]
          have hfit := HFIT.out j (by rw [HXS.out, HS6.out]; exact hlt)
          rw [show startTo X.sec X.loose stay torn bytes X.loose.length = (startD X stay torn bytes).sec from rfl, hyv, HXS.out, hdv, HM.out] at hfit
          have HF := Lib.hid hfit
          have HYV := Lib.hid hyv
          obtain ⟨b0, hb0⟩ : ∃ b0, (yv.toList == dv.toList) = b0 := ⟨_, rfl⟩
          have HB0 := Lib.hid (show b0 = false → yv ≠ dv by intro h e; subst e; rw [← hb0] at h; simp at h)
          clear hyv hdv hfit
          have hi0 : (0 : Int) ≤ (j : Int) := by omega
          have hi1 : (j : Int) < 6 := by omega
          go_wp2
          go_quiet (fail)
          go_wp2
          clear y0 y1 y2 y3 yf x0 x1 x2 x3 xf e2 e1
          go_loopw [14, 13] (fun i f wr => ∃ (t : Nat) (b : Bool), t ≤ m ∧ i = .int .i64 t ∧ f = .bool b ∧ (b = false → yv ≠ dv ∧ ∀ u, u < t → ¬ Good X.loose torn j yv u) ∧ Below Z.heap.size Z wr) (fun i _ _ => m - (intOf i).toNat)
          case atStart => exact ⟨0, b0, Nat.zero_le _, rfl, rfl, fun h => ⟨HB0.out h, fun u hu => absurd hu (Nat.not_lt_zero u)⟩, below_drewN hbw _⟩
          case round =>
            clear hbw hb0
            obtain ⟨t, b, ht, rfl, rfl, hgood, hbw⟩ := hrel
            have HG := Lib.hid hgood
            clear hgood
            obtain ⟨y0, y1, y2, y3, yf⟩ := (ky.below hbw).four
            obtain ⟨x0, x1, x2, x3, xf⟩ := (kx.below hbw).four
            obtain ⟨z0, z1, z2, zf⟩ := (kc.below hbw).three
            have e1 : wr.cell? ⟨by_, oy + j, none⟩ = some (.string yv) := by
              rw [hbw.cell (p := ⟨by_, oy + j, none⟩) hby, HCY.out j (by rw [HY6.out]; omega), HYV.out]
            by_cases htm : t < m
            · obtain ⟨bl, off, rfl, hbl, hcell⟩ := HVX.out.loos (by omega)
              have htl : t < X.loose.length := by rw [HM.out]; exact htm
              obtain ⟨p0, p1⟩ := hcell t htl
              rw [← hbw.cell (p := ⟨bl, off + t * 2, none⟩) hbl] at p0
              rw [← hbw.cell (p := ⟨bl, off + t * 2 + 1, none⟩) hbl] at p1
              obtain ⟨x, hx⟩ : ∃ x, X.loose[t] = x := ⟨_, rfl⟩
              rw [hx] at p0 p1
              have hx' : X.loose[t]? = some x := by rw [List.getElem?_eq_getElem htl, hx]
              have HX := Lib.hid hx'
              clear hx hx'
              obtain ⟨xa, xd⟩ := x
              simp only at p0 p1
              have ht0 : (0 : Int) ≤ (t : Int) := by omega
              have ht1 : (t : Int) < (m : Int) := by omega
              cases b with
              | true =>
                go_wp2
                try simp only [List.append_eq, List.cons_append, List.nil_append]
                go_quiet (fail)
                go_wp2
                go_roundw
                case rel => exact ⟨t + 1, true, by omega, by go_num, rfl, (fun h => nomatch h), below_drewN hbw _⟩
                case measure => simp [intOf]; omega
              | false =>
                have HG0 := Lib.hid (HG.out rfl)
                clear HG
                by_cases ha : xa = (j : Int)
                · have qa : (xa == (j : Int)) = true := by simp [ha]
                  clear ha
                  by_cases hd : xd = yv
                  · have qd : (xd.toList == yv.toList) = true := by simp [hd]
                    clear hd
                    go_wp2
                    try simp only [List.append_eq, List.cons_append, List.nil_append]
                    go_quiet (fail)
                    go_wp2
                    go_roundw
                    case rel => exact ⟨t + 1, true, by omega, by go_num, rfl, (fun h => nomatch h), below_drewN hbw _⟩
                    case measure => simp [intOf]; omega
                  · have qd : (xd.toList == yv.toList) = false := by rw [beq_eq_false_iff_ne]; exact fun h => hd (toList_inj h)
                    by_cases htt : (t : Int) = torn
                    · have qt : ((t : Int) == torn) = true := by simp [htt]
                      clear hd htt
                      go_wp2
                      try simp only [List.append_eq, List.cons_append, List.nil_append]
                      go_quiet (fail)
                      go_wp2
                      go_roundw
                      case rel => exact ⟨t + 1, true, by omega, by go_num, rfl, (fun h => nomatch h), below_drewN hbw _⟩
                      case measure => simp [intOf]; omega
                    · have NG := Lib.hid (show ¬ Good X.loose torn j yv t by rintro ⟨x, h1, _, h3⟩; rw [HX.out] at h1; injection h1 with h1; subst h1; exact h3.elim hd htt)
                      have NX := Lib.hid (show ∀ u, u < t + 1 → ¬ Good X.loose torn j yv u from fun u hu => (Nat.lt_succ_iff_lt_or_eq.mp hu).elim (HG0.out.2 u) (fun e => e ▸ NG.out))
                      have qt : ((t : Int) == torn) = false := by simp [htt]
                      by_cases h0 : 0 ≤ torn
                      · by_cases h1 : torn < (m : Int)
                        · obtain ⟨u, rfl⟩ := Int.eq_ofNat_of_zero_le h0
                          have hul : u < X.loose.length := by rw [HM.out]; omega
                          obtain ⟨r0, _⟩ := hcell u hul
                          rw [← hbw.cell (p := ⟨bl, off + u * 2, none⟩) hbl] at r0
                          generalize (X.loose[u]).1 = xu at r0
                          have qt' : (t == u) = false := by simp; omega
                          clear hd htt hcell
                          by_cases hu : xu = (j : Int)
                          · have qu : (xu == (j : Int)) = true := by simp [hu]
                            clear hu
                            go_wp2
                            try simp only [List.append_eq, List.cons_append, List.nil_append]
                            go_quiet (fail)
                            go_wp2
                            go_roundw
                            case rel => exact ⟨t + 1, true, by omega, by go_num, rfl, (fun h => nomatch h), below_drewN hbw _⟩
                            case measure => simp [intOf]; omega
                          · have qu : (xu == (j : Int)) = false := by simp [hu]
                            clear hu
                            go_wp2
                            try simp only [List.append_eq, List.cons_append, List.nil_append]
                            go_quiet (fail)
                            go_wp2
                            go_roundw
                            case rel => exact ⟨t + 1, false, by omega, by go_num, rfl, fun _ => ⟨HG0.out.1, NX.out⟩, below_drewN hbw _⟩
                            case measure => simp [intOf]; omega
                        · have q1 : decide (torn < (m : Int)) = false := by simp; omega
                          have q0 : decide (0 ≤ torn) = true := by simp [h0]
                          clear hd htt h1
                          go_wp2
                          try simp only [List.append_eq, List.cons_append, List.nil_append]
                          go_quiet (fail)
                          go_wp2
                          go_roundw
                          case rel => exact ⟨t + 1, false, by omega, by go_num, rfl, fun _ => ⟨HG0.out.1, NX.out⟩, below_drewN hbw _⟩
                          case measure => simp [intOf]; omega
                      · have q0 : decide (0 ≤ torn) = false := by simp; omega
                        clear hd htt h0
                        go_wp2
                        try simp only [List.append_eq, List.cons_append, List.nil_append]
                        go_quiet (fail)
                        go_wp2
                        go_roundw
                        case rel => exact ⟨t + 1, false, by omega, by go_num, rfl, fun _ => ⟨HG0.out.1, NX.out⟩, below_drewN hbw _⟩
                        case measure => simp [intOf]; omega
                · have qa : (xa == (j : Int)) = false := by simp [ha]
                  have NG := Lib.hid (show ¬ Good X.loose torn j yv t by rintro ⟨x, h1, h2, _⟩; rw [HX.out] at h1; injection h1 with h1; subst h1; exact ha h2)
                  clear ha
                  go_wp2
                  try simp only [List.append_eq, List.cons_append, List.nil_append]
                  go_quiet (fail)
                  go_wp2
                  go_roundw
                  case rel => exact ⟨t + 1, false, by omega, by go_num, rfl, fun _ => ⟨HG0.out.1, fun u hu => (Nat.lt_succ_iff_lt_or_eq.mp hu).elim (HG0.out.2 u) (fun e => e ▸ NG.out)⟩, below_drewN hbw _⟩
                  case measure => simp [intOf]; omega
            · obtain rfl : t = m := by omega
              cases b with
              | true =>
                go_wp2
                go_roundw
                case rel => exact ⟨j + 1, by omega, by go_num, hbw⟩
                case measure => simp [intOf]; omega
              | false =>
                exfalso
                rcases HF.out with h | ⟨u, hu, hg⟩
                · exact (HG.out rfl).1 h
                · exact (HG.out rfl).2 u hu hg
        · go_wp2_with (go_at_call 11; go_must (refine (awake_any _).mono ?_; rintro e w9 ⟨rfl, hb9⟩))
          go_ret
          exact ⟨rfl, bnext (bnext t4 hbw) hb9⟩

end Go.Proofs.Ythcfncpkeldapaa
