/-
  What SectorAll answers: true, for every list of deeds in memory. No conditions.
-/
import Derived.Test.YthcfncpkeldapaaAllFin
import Derived.Deep.DeepCutAuto
import Derived.Deep.RegionHeld3
namespace Go.Proofs.Ythcfncpkeldapaa
open Go.RowKit

attribute [local go_sem ↓] Go.wp_at_zero Go.wp_at_succ

set_option maxRecDepth 100000 in
set_option maxHeartbeats 400000 in
theorem all_long (A : Option Addr) (n c : Nat) (l : List ActD) (w : World) (h : IsActs w A n l) (hs : shortB l = false) :
    Calls Try.prog 7 #[.slice A n c] w fun e w' => e = .returned (.bool true) ∧ Below w.heap.size w w' := by
  have hsh := short_any A n c l w h
  rw [hs] at hsh
  go_enter Try.func7, Try.ntmps7
  go_wp2_with (first
    | (go_at_call 10; go_must (refine hsh.mono ?_; rintro e w1 ⟨rfl, rfl⟩))
    | (go_at_call 11; go_must (refine (awake_any _).mono ?_; rintro e w1 ⟨rfl, hb1⟩)))
  go_ret
  exact ⟨rfl, hb1⟩

theorem all_start1 (v : Value) (g : Nat) (D : Dk) (w : World) (hv : IsDk w v D) (hD : D.ok) (hm : D.loose.length ≤ 60) (h6 : D.sec.length = 6) (hg : Bk w g 4 #[.bool true]) :
    Calls Try.prog 21 #[v, .agg #[.slice (some ⟨g, 0, none⟩) 1 1, .int .i64 (-1), .int .i64 0]] w fun e w' => ∃ A c B d, e = .returned (.agg #[.slice A 6 c, .slice B 0 d, .bool false, .int .i64 (-1)]) ∧
      IsDk w' (.agg #[.slice A 6 c, .slice B 0 d, .bool false, .int .i64 (-1)]) (startD D [true] (-1) 0) ∧ Below w.heap.size w w' :=
  (start_any v _ D [true] (-1) 0 w hv hD (by omega) (cut_true _ _ hg) (by decide)).mono fun e w' ⟨v', he, hd, hb⟩ => by
    obtain ⟨A, c, B, d, rfl⟩ := hd.cellsN (n := 6) (m := 0) (by simp [startD, startTo_length, h6]) rfl
    exact ⟨A, c, B, d, he, hd, hb⟩

theorem all_start2 (v : Value) (D : Dk) (w : World) (hv : IsDk w v D) (hD : D.ok) (hm : D.loose.length ≤ 60) (h6 : D.sec.length = 6) :
    Calls Try.prog 21 #[v, .agg #[.slice none 0 0, .int .i64 (-1), .int .i64 0]] w fun e w' => ∃ A c B d, e = .returned (.agg #[.slice A 6 c, .slice B 0 d, .bool false, .int .i64 (-1)]) ∧
      IsDk w' (.agg #[.slice A 6 c, .slice B 0 d, .bool false, .int .i64 (-1)]) (startD D [] (-1) 0) ∧ Below w.heap.size w w' :=
  (start_any v _ D [] (-1) 0 w hv hD (by omega) (cut_none _ _ _) (by decide)).mono fun e w' ⟨v', he, hd, hb⟩ => by
    obtain ⟨A, c, B, d, rfl⟩ := hd.cellsN (n := 6) (m := 0) (by simp [startD, startTo_length, h6]) rfl
    exact ⟨A, c, B, d, he, hd, hb⟩

theorem keep4 {W X : World} {g : Nat} {a b c d : Value} (h : Below W.heap.size W X) (hg : g < W.heap.size) (q0 : W.cell? ⟨g, 0, none⟩ = some a) (q1 : W.cell? ⟨g, 1, none⟩ = some b) (q2 : W.cell? ⟨g, 2, none⟩ = some c) (q3 : W.cell? ⟨g, 3, none⟩ = some d) :
    X.cell? ⟨g, 0, none⟩ = some a ∧ X.cell? ⟨g, 1, none⟩ = some b ∧ X.cell? ⟨g, 2, none⟩ = some c ∧ X.cell? ⟨g, 3, none⟩ = some d :=
  ⟨(h.cell (p := ⟨g, 0, none⟩) hg).trans q0, (h.cell (p := ⟨g, 1, none⟩) hg).trans q1, (h.cell (p := ⟨g, 2, none⟩) hg).trans q2, (h.cell (p := ⟨g, 3, none⟩) hg).trans q3⟩

set_option maxRecDepth 100000 in
set_option maxHeartbeats 8000000 in
theorem all_short (A : Option Addr) (n c : Nat) (l : List ActD) (w : World) (h : IsActs w A n l) (hs : shortB l = true) :
    Calls Try.prog 7 #[.slice A n c] w fun e w' => e = .returned (.bool true) ∧ Below w.heap.size w w' := by
  have hsh := short_any A n c l w h
  rw [hs] at hsh
  obtain ⟨D, hok, hln, hsec, -, hpl⟩ := played6 A n c l w h hs
  have HOK := Lib.hid hok
  have HSEC := Lib.hid hsec
  have HLN := Lib.hid hln
  obtain ⟨dn, hdn⟩ : ∃ dn, D.down = dn := ⟨_, rfl⟩
  obtain ⟨lf, hlf⟩ : ∃ lf, D.left = lf := ⟨_, rfl⟩
  obtain ⟨m, hm⟩ : ∃ m, D.loose.length = m := ⟨_, rfl⟩
  rw [hdn, hlf, hm] at hpl
  have HDN := Lib.hid hdn
  have HLF := Lib.hid hlf
  have HM := Lib.hid hm
  clear hs hok hsec h hdn hlf hm hln
  go_enter Try.func7, Try.ntmps7
  go_wp2_with fail
  refine hsh.mono ?_
  rintro e w0 ⟨rfl, rfl⟩
  go_wp2_with fail
  refine hpl.mono ?_
  rintro e w1 ⟨A1, c1, B1, d1, rfl, v1, b1⟩
  clear hsh hpl
  have k1 := Bk.new w1 28 #[.slice A1 6 c1, .slice B1 m d1, .bool dn, .int .i64 lf]
  have hbA : Below w1.heap.size w1 (w1.alloc (.cells #[.slice A1 6 c1, .slice B1 m d1, .bool dn, .int .i64 lf] 28)) := (Below.refl _ _).alloc (Nat.le_refl _) _
  have v2 := v1.below hbA
  have t2 := bnext b1 hbA
  have hge := b1.size
  go_wp2_with fail
  generalize (w1.alloc (.cells #[.slice A1 6 c1, .slice B1 m d1, .bool dn, .int .i64 lf] 28)) = W at *
  have l1 := k1.lt
  clear b1 hbA v1
  go_cut [4, 5] (fun s4 s5 wr => AllNone w w1.heap.size m A1 B1 c1 d1 dn lf D s4 s5 wr)
  case first =>
    obtain ⟨q0, q1, q2, q3, f1⟩ := k1.four
    have l1b : w1.heap.size < W.heap.size + 1 := by omega
    have l1c : w1.heap.size < W.heap.size + 1 + 1 := by omega
    have u0 := Nat.ne_of_lt l1
    have u1 := Nat.ne_of_lt l1b
    have u2 := Nat.ne_of_lt l1c
    have u0' := u0.symm
    have u1' := u1.symm
    have u2' := u2.symm
    go_region_held3 (fun w' => w'.cell? ⟨w1.heap.size, 0, none⟩ = some (.slice A1 6 c1) ∧ w'.cell? ⟨w1.heap.size, 1, none⟩ = some (.slice B1 m d1) ∧ w'.cell? ⟨w1.heap.size, 2, none⟩ = some (.bool dn) ∧ w'.cell? ⟨w1.heap.size, 3, none⟩ = some (.int .i64 lf))
      (first | with_reducible exact ⟨q0, q1, q2, q3⟩ | with_reducible exact ⟨p0, p1, p2, p3⟩ | with_reducible exact ⟨e0, e1, e2, e3⟩ | (refine keep4 (W := w4) ?_ l4 e0 e1 e2 e3; (repeat (first | (with_reducible exact Below.refl _ _) | (with_reducible refine Below.drew ?_) | (with_reducible refine Below.alloc ?_ (by simp; try omega) _))); done) | (refine keep4 (W := w3) ?_ l3 p0 p1 p2 p3; (repeat (first | (with_reducible exact Below.refl _ _) | (with_reducible refine Below.drew ?_) | (with_reducible refine Below.alloc ?_ (by simp; try omega) _))); done) | (refine keep4 (W := W) ?_ l1 q0 q1 q2 q3; (repeat (first | (with_reducible exact Below.refl _ _) | (with_reducible refine Below.drew ?_) | (with_reducible refine Below.alloc ?_ (by simp; try omega) _))); done) | go_keep)
      (first
      | (go_at_call 21; (with_reducible refine (all_start1 _ _ D _ ?_ HOK.out HLN.out HSEC.out ?_).mono ?_); exact v2.below (by repeat (first | exact Below.refl _ _ | refine Below.drew ?_ | refine Below.alloc ?_ (by simp; try omega) _)); (first | exact Bk.new W _ _ | exact (Bk.new W _ _).alloc _ | exact ((Bk.new W _ _).alloc _).alloc _ | (have hh := Bk.new (W.alloc (.cells #[.slice none 0 0, .slice none 0 0, .bool false, .int .i64 0] 28)) 4 #[.bool true]; rw [World.size_alloc] at hh; first | exact hh | exact hh.alloc _) | (have hh := Bk.new ((W.alloc (.cells #[.slice none 0 0, .slice none 0 0, .bool false, .int .i64 0] 28)).alloc (.cells #[.slice none 0 0, .slice none 0 0, .bool false, .int .i64 0] 28)) 4 #[.bool true]; rw [World.size_alloc, World.size_alloc] at hh; exact hh)); rintro e w3 ⟨A3, c3, B3, d3, rfl, va, b3⟩; have bW : Below W.heap.size W w3 := bnext (by repeat (first | exact Below.refl _ _ | refine Below.drew ?_ | refine Below.alloc ?_ (by simp; try omega) _)) b3; have k3 := k1.below bW; have v3 := v2.below bW; have t3 := bnext t2 bW; (first | (with_reducible refine bkA3d b3 ?_; intro za zb zc) | (with_reducible refine bkA2d b3 ?_; intro za zb) | (with_reducible refine bkA1d b3 ?_; intro za)); obtain ⟨p0, p1, p2, p3, f3⟩ := k3.four; have l3 := k3.lt; have l3b := Nat.lt_succ_of_lt k3.lt; have u3 := Nat.ne_of_lt l3; have u3' := u3.symm; have u4 := Nat.ne_of_lt l3b; have u4' := u4.symm; (first | (have nza := Nat.ne_of_lt (Bk.lt za); have mza := Ne.symm (Nat.ne_of_lt (Bk.lt za)); have oza := Nat.ne_of_lt (Nat.lt_succ_of_lt (Bk.lt za)); have qza := Ne.symm (Nat.ne_of_lt (Nat.lt_succ_of_lt (Bk.lt za)))) | skip); (first | (have nzb := Nat.ne_of_lt (Bk.lt zb); have mzb := Ne.symm (Nat.ne_of_lt (Bk.lt zb)); have ozb := Nat.ne_of_lt (Nat.lt_succ_of_lt (Bk.lt zb)); have qzb := Ne.symm (Nat.ne_of_lt (Nat.lt_succ_of_lt (Bk.lt zb)))) | skip); (first | (have nzc := Nat.ne_of_lt (Bk.lt zc); have mzc := Ne.symm (Nat.ne_of_lt (Bk.lt zc)); have ozc := Nat.ne_of_lt (Nat.lt_succ_of_lt (Bk.lt zc)); have qzc := Ne.symm (Nat.ne_of_lt (Nat.lt_succ_of_lt (Bk.lt zc)))) | skip))
      | (go_at_call 21; (with_reducible refine (all_start2 _ D _ ?_ HOK.out HLN.out HSEC.out).mono ?_); exact v3.below (by repeat (first | exact Below.refl _ _ | refine Below.drew ?_ | refine Below.alloc ?_ (by simp; try omega) _)); rintro e w4 ⟨A4, c4, B4, d4, rfl, vn, b4⟩; have bW : Below w3.heap.size w3 w4 := bnext (by repeat (first | exact Below.refl _ _ | refine Below.drew ?_ | refine Below.alloc ?_ (by simp; try omega) _)) b4; have k4 := k3.below bW; have v4 := v3.below bW; have va4 := va.below bW; have t4 := bnext t3 bW; obtain ⟨e0, e1, e2, e3, f4⟩ := k4.four; have l4 := k4.lt; (first | (replace zc := Bk.below zc bW; replace zb := Bk.below zb bW; replace za := Bk.below za bW) | (replace zb := Bk.below zb bW; replace za := Bk.below za bW) | (replace za := Bk.below za bW)); (first | (with_reducible refine bkA2 b4 ?_; intro ya yb) | (with_reducible refine bkA1 b4 ?_; intro ya) | skip); (first | (have rza := Bk.cell za; have fza := Bk.frozen za; have lza := Bk.lt za) | skip); (first | (have rzb := Bk.cell zb; have fzb := Bk.frozen zb; have lzb := Bk.lt zb) | skip); (first | (have rzc := Bk.cell zc; have fzc := Bk.frozen zc; have lzc := Bk.lt zc) | skip); (first | (have rya := Bk.cell ya; have fya := Bk.frozen ya; have lya := Bk.lt ya) | skip); (first | (have ryb := Bk.cell yb; have fyb := Bk.frozen yb; have lyb := Bk.lt yb) | skip)))
    all_goals
      go_wp2
      go_meet
      first
        | with_reducible exact fin1a k4 va4 vn v4 t4
        | with_reducible exact fin1b k4 va4 vn v4 t4
        | ((with_reducible refine fin2a k4 va4 vn v4 t4 ?_ ?_ ?_); assumption; omega; omega)
        | ((with_reducible refine fin2b k4 va4 vn v4 t4 ?_ ?_ ?_); assumption; omega; omega)
        | ((with_reducible refine fin3 k4 va4 vn v4 t4 ?_ ?_ ?_ ?_ ?_ ?_ ?_); assumption; assumption; omega; omega; omega; omega; omega)
  case rest =>
    obtain ⟨ga, gn, A3, c3, B3, d3, A4, c4, B4, d4, rfl, rfl, ka, kn, kd, va, vn, vd, t4, hga, hgn⟩ := hcut
    obtain ⟨a0, a1, a2, a3, af⟩ := ka.four
    obtain ⟨n0, n1, n2, n3, nf⟩ := kn.four
    obtain ⟨x0, x1, x2, x3, xf⟩ := kd.four
    clear k1 v2 t2 l1
    have vd2 := (vd.setCell kd (by decide) (by decide) 2 (.bool false)).left false lf
    have kd2 : Bk (wc.setCell ⟨w1.heap.size, 2, none⟩ (.bool false)) w1.heap.size 28 #[.slice A1 6 c1, .slice B1 m d1, .bool false, .int .i64 lf] := by have := kd.set 2 (.bool false); simpa using this
    have ka2 := ka.far (p := ⟨w1.heap.size, 2, none⟩) hga (.bool false)
    have kn2 := kn.far (p := ⟨w1.heap.size, 2, none⟩) hgn (.bool false)
    have va2 := va.setCell kd (by decide) (by decide) 2 (.bool false)
    have vn2 := vn.setCell kd (by decide) (by decide) 2 (.bool false)
    have t5 := t4.setCell (p := ⟨w1.heap.size, 2, none⟩) hge (.bool false)
    clear va vn vd t4 ka kn kd
    go_wp2_with fail
    generalize (wc.setCell ⟨w1.heap.size, 2, none⟩ (.bool false)) = X at *
    clear a0 a1 a2 a3 af n0 n1 n2 n3 nf x0 x1 x2 x3 xf
    obtain ⟨ba, oa, rfl, -, hba, hca⟩ := va2.secs (by omega)
    obtain ⟨bn, on_, rfl, -, hbn, hcn⟩ := vn2.secs (by omega)
    obtain ⟨bd, od, rfl, -, hbd, hcd⟩ := vd2.secs (by omega)
    have okd : ({ D with down := false, left := lf } : Dk).ok := ⟨HOK.out.few, HOK.out.sec, HOK.out.loose, HLF.out ▸ HOK.out.left0, HLF.out ▸ HOK.out.left1⟩
    have OKd := Lib.hid okd
    have HCA := Lib.hid hca
    have HCN := Lib.hid hcn
    have HCD := Lib.hid hcd
    clear okd hca hcn hcd
    go_loopw [6] (fun i wr => ∃ j : Nat, j ≤ 6 ∧ i = .int .i64 j ∧ Below X.heap.size X wr) (fun i _ => 6 - (intOf i).toNat)
    case atStart => exact ⟨0, Nat.zero_le _, rfl, Below.refl _ _⟩
    case round =>
      obtain ⟨j, hj, rfl, hbw⟩ := hrel
      by_cases hlt : j < 6
      · obtain ⟨x0, x1, x2, x3, xf⟩ := (kd2.below hbw).four
        have hr : readD { D with down := false, left := lf } (j : Int) = (readAt D j, 0) := by
          rw [readD, if_neg (by simp), if_neg (by rw [HSEC.out]; omega)]
          rfl
        have HR := Lib.hid hr
        clear hr
        go_wp2_with fail
        refine (rs_read _ _ j _ _ (vd2.below hbw) OKd.out HLN.out HR.out).mono ?_
        rintro e wa ⟨rfl, b2⟩
        have hbw2 := bnext hbw b2
        obtain ⟨y0, y1, y2, y3, yf⟩ := (kd2.below hbw2).four
        obtain ⟨a0, a1, a2, a3, af⟩ := (ka2.below hbw2).four
        obtain ⟨n0, n1, n2, n3, nf⟩ := (kn2.below hbw2).four
        have e1 : wa.cell? ⟨ba, oa + j, none⟩ = some (.string (readAt D j)) := by
          rw [hbw2.cell (p := ⟨ba, oa + j, none⟩) hba, HCA.out j (by simp [startD, startTo_length, HSEC.out]; omega), start_all_at D 0 HOK.out j (by rw [HSEC.out]; exact hlt)]
        have e2 : wa.cell? ⟨bn, on_ + j, none⟩ = some (.string (D.sec.getD j ByteArray.empty)) := by
          rw [hbw2.cell (p := ⟨bn, on_ + j, none⟩) hbn, HCN.out j (by simp [startD, startTo_length, HSEC.out]; omega), start_none_sec]
        have e3 : wa.cell? ⟨bd, od + j, none⟩ = some (.string (D.sec.getD j ByteArray.empty)) := by
          rw [hbw2.cell (p := ⟨bd, od + j, none⟩) hbd, HCD.out j (by rw [HSEC.out]; exact hlt)]
        generalize readAt D j = rv at *
        generalize D.sec.getD j ByteArray.empty = dv at *
        have hi0 : (0 : Int) ≤ (j : Int) := by omega
        have hi1 : (j : Int) < 6 := by omega
        clear x0 x1 x2 x3 xf
        go_wp2
        go_quiet (fail)
        go_wp2
        go_roundw
        case rel => exact ⟨j + 1, by omega, by go_num, below_drewN hbw2 _⟩
        case measure => simp [intOf]; omega
      · go_wp2_with (go_at_call 11; go_must (refine (awake_any _).mono ?_; rintro e w9 ⟨rfl, hb9⟩))
        go_ret
        exact ⟨rfl, bnext (bnext t5 hbw) hb9⟩

end Go.Proofs.Ythcfncpkeldapaa
