/-
  What locks.New, has, copied, change, Ask and Give answer, in whatever memory, of commands whose blocks are there and lists of at most 9000. No conditions but those that stand there.
-/
import Derived.Test.YtcffmkphfahapaaZLckM
import Derived.Test.YtcffmkphfahapaaQStr
import Derived.Test.YtcffmkphfahapaaZQueC
import Derived.Test.YtcffmkphfahapaaZCmdM
namespace Go.Proofs.Ytcffmkphfahapaa
open Go.RowKit Go.Shelf

theorem infoLk : ∃ i, Try.prog.info? 36 = some i ∧ i.zero = some (.slice none 0 0) ∧ i.size = 1 ∧ i.bytes = 24 := by
  have h : (Try.prog.info? 36).map (fun i => (i.zero, i.size, i.bytes)) = some (some (.slice none 0 0), 1, 24) := by kernel_rfl
  cases hi : Try.prog.info? 36 with
  | none => rw [hi] at h; cases h
  | some i =>
    rw [hi] at h
    simp only [Option.map_some, Option.some.injEq, Prod.mk.injEq] at h
    exact ⟨i, rfl, h.1, h.2.1, h.2.2⟩
theorem infoLk3 : (Try.prog.info? 36).map (fun i => (i.zero, i.size, i.bytes)) = some (some (.slice none 0 0), 1, 24) := by kernel_rfl
theorem makeLk (w : World) (n : Nat) (h : n ≤ 1000) :
    (Instr.makeSlice 26 (.int .i64 (n : Int)) (.int .i64 (n : Int))).run Try.prog w = .ok (.slice (some ⟨w.heap.size, 0, none⟩) n n) (w.alloc (.cells (madeCells #[.slice none 0 0] n) 36)) :=
  run_make_row' 26 36 _ 24 Try.underlying26 infoLk3 rfl .i64 .i64 n (by omega) (by omega) w

/-- lists that were just made. -/
theorem LkOwn.made (w : World) (n : Nat) (hn : n ≤ 1000) : LkOwn w.heap.size (w.alloc (.cells (madeCells #[.slice none 0 0] n) 36)) (some ⟨w.heap.size, 0, none⟩) n n (List.replicate n []) := by
  refine ⟨by simp, List.replicate n (.slice none 0 0), ⟨by simp, .inr ⟨w.heap.size, n, _, rfl, Nat.le_refl _, heap_alloc_new w _, Nat.le_refl _, by unfold maxLen; omega, ?_, ?_⟩⟩, LkIn.nil _ n⟩
  · rw [← Array.length_toList, toList_madeCells_one]; simp
  · rw [toList_madeCells_one]; simp

theorem lnew_any (n : Nat) (h1 : 1 ≤ n) (hn : n ≤ 1000) (w : World) :
    Calls Try.prog 10 #[.int .i64 (n : Int)] w (LkPost (List.replicate n []) n w) := by
  have hmk := makeLk w n hn
  have HO := Lib.hid (LkOwn.made w n hn)
  have HB := Lib.hid (below_alloc1 w (.cells (madeCells #[.slice none 0 0] n) 36))
  have d1 : decide ((n : Int) < 1) = false := decide_eq_false (by omega)
  have d2 : decide ((89478485 : Int) < (n : Int)) = false := decide_eq_false (by omega)
  go_enter Try.func10, Try.ntmps10
  go_wp2
  go_ret
  exact ⟨_, _, rfl, HO.out, HB.out⟩

theorem lnew_less (w : World) : Calls Try.prog 10 #[.int .i64 (-1)] w fun e w' => e = .returned (.slice none 0 0) ∧ w = w' := by
  go_enter Try.func10, Try.ntmps10
  go_wp2
  go_ret
  exact ⟨rfl, rfl⟩

theorem lhas_any (A : Option Addr) (n c : Nat) (i : Int) (h0 : 0 ≤ i) (h1 : i < (n : Int)) (w : World) :
    Calls Try.prog 32 #[.slice A n c, .int .i64 i] w fun e w' => e = .returned (.bool true) ∧ w = w' := by
  go_enter Try.func32, Try.ntmps32
  go_wp2
  go_ret
  exact ⟨rfl, rfl⟩

/-- where an element of a row of one's own lies. -/
theorem LkOwn.at {B : Nat} {w : World} {A : Option Addr} {n c : Nat} {L : List (List Wnt)} (h : LkOwn B w A n c L) {i : Nat} (hi : i < n) :
    ∃ g A' n' c', A = some ⟨g, 0, none⟩ ∧ B ≤ g ∧ g < w.heap.size ∧ (∀ o, w.frozen? ⟨g, o, none⟩ = false) ∧ w.cell? ⟨g, i, none⟩ = some (.slice A' n' c') ∧ (lkAt L i).length = n' ∧ Wnts w A' c' (lkAt L i) := by
  obtain ⟨g, cs, rfl, hg, hk, -⟩ := h.pos (by omega)
  obtain ⟨g', off, A', n', c', hA, hl, hc, h1, h2, -⟩ := h.sl.at hi
  injection hA with hA
  injection hA with hA hO
  subst hA
  subst hO
  rw [Nat.zero_add] at hc
  exact ⟨g, A', n', c', rfl, hg, hl, fun o => hk.frozen o, hc, h1, h2⟩
theorem LkOwn.cap {B : Nat} {w : World} {A : Option Addr} {n c : Nat} {L : List (List Wnt)} (h : LkOwn B w A n c L) : n ≤ c := h.sl.cap
theorem lk_same (L : Lks) (i : Nat) : L.set i (lkAt L i) = L := by
  unfold lkAt
  by_cases h : i < L.length
  · rw [List.getElem?_eq_getElem h]
    exact List.set_getElem_self h
  · exact List.set_eq_of_length_le (by omega)

set_option maxHeartbeats 400000 in
theorem lclone_any (A : Option Addr) (n c : Nat) (L : Lks) (w : World) (h : LkSl w A n c L) (hn : n ≤ 1000) :
    Calls Try.prog 42 #[.slice A n c] w
      fun e w' => ∃ A' c', e = .returned (.slice A' n c') ∧ LkOwn w.heap.size w' A' n c' L ∧ Below w.heap.size w w' := by
  obtain ⟨i0, hi, hz0, hz1, hz2⟩ := infoLk
  obtain ⟨hl, vs, hs, hin⟩ := h
  have HA := Lib.hid hs
  have HI := Lib.hid hin
  have HN := Lib.hid hl
  clear hl hs hin
  cases A with
  | none =>
    obtain ⟨rfl, rfl⟩ := HA.out.2.2.1 rfl
    have hq := Lib.run_eql_slice_nil (P := Try.prog) w 26 36 none 0 0 0 0 Try.underlying26
    go_enter Try.func42, Try.ntmps42
    go_wp2
    go_ret
    exact ⟨none, 0, rfl, ⟨HN.out, vs, ⟨HA.out.1, .inl ⟨rfl, rfl⟩⟩, HI.out⟩, Below.refl _ _⟩
  | some a =>
    have hq := Lib.run_eql_slice_nil (P := Try.prog) w 26 36 (some a) n c 0 0 Try.underlying26
    go_enter Try.func42, Try.ntmps42
    go_wp2_with (at_builtin; go_must (refine wpList_append_own _ rfl (.tmp 5) (.tmp 6) _ rfl w.heap.size 36 i0 _ 1 24 Try.underlying26 hi hz0 hz1 hz2 rfl (by decide) _ 0 [] rfl (World.ownsRow_lit w #[] 0 (Nat.le_refl _) (by decide) rfl) a n c vs rfl HA.out.1 ((HA.out.alloc _).olds a rfl) HI.out.one (by unfold maxLen; omega) (by omega) (by simp) ?_; intro v' w1 hown hg hnil))
    obtain ⟨A', c', rfl, hsl⟩ := Sl.own hown
    simp only [Nat.zero_add, List.nil_append] at hown
    have hb1 := ((Below.refl w.heap.size w).alloc (Nat.le_refl _) (.cells #[] 36)).grown hg (by simp) (fun k hk => by
      have hk' : (Value.slice (some ⟨w.heap.size, 0, none⟩) 0 0).ownBlock = some k := hk
      simp [Value.ownBlock] at hk'
      omega)
    go_wp2
    go_ret
    exact ⟨A', c', by simp, ⟨HN.out, vs, hown, HI.out.below hb1⟩, hb1⟩

set_option maxHeartbeats 4000000 in
theorem copied_any (A : Option Addr) (n c : Nat) (L : Lks) (w : World) (h : LkSl w A n c L) (hn : n ≤ 1000) (hM : ∀ b, (lkAt L b).length ≤ 9000) :
    Calls Try.prog 23 #[.slice A n c] w fun e w' => ∃ A' c', e = .returned (.slice A' n c') ∧ LkOwn w.heap.size w' A' n c' L ∧ Below w.heap.size w w' := by
  have hcl := Lib.hid (lclone_any A n c L w h hn)
  have HM := Lib.hid hM
  clear h hM
  go_enter Try.func23, Try.ntmps23
  go_wp2_with (go_at_call 42; go_must ((with_reducible refine hcl.out.mono ?_); rintro e w1 ⟨A1, c1, rfl, hO, hb1⟩; have O1 := Lib.hid hO; have B1 := Lib.hid hb1; clear hO hb1))
  have hcap := O1.out.cap
  go_loopw [8] (fun cc wr => ∃ i : Nat, i ≤ n ∧ cc = .int .i64 i ∧ Hid (LkOwn w.heap.size wr A1 n c1 L) ∧ Hid (Below w.heap.size w wr)) (fun cc _ => n - (intOf cc).toNat)
  case atStart => exact ⟨0, Nat.zero_le _, rfl, O1, B1⟩
  case round =>
    obtain ⟨i, hi, rfl, HO, HB⟩ := hrel
    by_cases hlt : i < n
    · have d1 : (i : Int) < (n : Int) := by omega
      have d2 : (i : Int) < (c1 : Int) := by omega
      obtain ⟨g, A', m, k, rfl, hg, hgl, hf, x0, hm, hw⟩ := HO.out.at hlt
      have hmM : m ≤ 9000 := by have := HM.out i; omega
      have hc := Lib.hid (clone_wnts A' m k (lkAt L i) wr hw hm (by omega))
      clear hw
      go_wp2_with (go_at_call 43; go_must ((with_reducible refine hc.out.mono ?_); rintro e w2 ⟨A2, k2, rfl, hO, hb2⟩; obtain ⟨g', A3, m3, k3, hA3, -, hgl2, hf2, x2, -, -⟩ := (HO.out.below hb2).at hlt; injection hA3 with hA3; injection hA3 with hA3; subst hA3; have O2 := Lib.hid ((HO.out.below hb2).set (by omega) (isWn.own hO) (i := i)); have B2 := Lib.hid ((HB.out.trans (hb2.mono HB.out.size)).setCell (p := ⟨g, i, none⟩) hg (.slice A2 m k2)); clear hO hb2))
      go_roundw
      case rel => exact ⟨i + 1, by omega, by go_num, Lib.hid (by have := O2.out; rwa [lk_same] at this), B2⟩
      case measure => simp [intOf]; omega
    · obtain rfl : i = n := by omega
      clear hlt
      go_wp2
      go_ret
      exact ⟨_, _, rfl, HO.out, HB.out⟩

/-! ### turns -/
theorem int_at {l : List Int} {i : Nat} (h : i < l.length) : ∃ x, l[i]? = some x ∧ x ∈ l := ⟨l[i], List.getElem?_eq_getElem h, List.getElem_mem _⟩
theorem turns_max {f : List Wnt → List Wnt} (hf : ∀ l, (f l).length ≤ l.length + 1) (bs : List Int) (L : Lks) {M : Nat} (hM : ∀ b, (lkAt L b).length ≤ M) : ∀ k b, (lkAt (turnsL f bs L k) b).length ≤ M + k
  | 0, b => hM b
  | k + 1, b => by
    have ih := turns_max hf bs L hM k
    rw [turnsL, turnL]
    generalize turnsL f bs L k = T at ih ⊢
    by_cases e : (bs[k]?.getD 0).toNat = b
    · by_cases hb : b < T.length
      · have h1 := ih b
        have h2 := hf (lkAt T b)
        rw [e]
        unfold lkAt at h1 h2 ⊢
        rw [List.getElem?_set_self hb, Option.getD_some]
        omega
      · unfold lkAt
        rw [List.getElem?_eq_none (by rw [List.length_set]; omega)]
        simp
    · have h1 := ih b
      unfold lkAt at h1 ⊢
      rw [List.getElem?_set_ne e]
      omega

set_option maxHeartbeats 8000000 in
theorem change_any (f : List Wnt → List Wnt) (hf : ∀ l, (f l).length ≤ l.length + 1) (fn : Nat) (lb : Array Value) (eg : ∀ args w, (callFunc fn args).run Try.prog w = .ok (.enter fn args) w)
    (bs : List Int) (ba : Option Addr) (nb bc : Nat) (L : Lks) (A : Option Addr) (n c B : Nat) (w0 w : World) (M : Nat) (h : LkOwn B w A n c L) (hB : B = w0.heap.size) (h0 : Below B w0 w) (hb : Ints w0 ba bc bs) (hN : bs.length = nb) (hz : nb ≤ 1000) (hin : ∀ x ∈ bs, 0 ≤ x ∧ x < (n : Int))
    (hM : ∀ b, (lkAt L b).length ≤ M) (hp : ∀ (A : Option Addr) (m k : Nat) (l : List Wnt) (W : World), Below B w0 W → Wnts W A k l → l.length = m → m ≤ M + nb → Calls Try.prog fn (#[.slice A m k] ++ lb) W (WnPost (f l) W)) :
    Calls Try.prog 24 #[.slice A n c, .slice ba nb bc, .func (.func fn) #[] lb] w fun e w' => (∃ v, e = .returned v) ∧ LkOwn B w' A n c (turnsL f bs L nb) ∧ Below B w0 w' := by
  have hbc : nb ≤ bc := by have := hb.2.1; omega
  have hcap := h.cap
  have H := Lib.hid h
  have H0 := Lib.hid h0
  have HI := Lib.hid (fun W (hW : Below B w0 W) => hb.below (w' := W) (by rw [← hB]; exact hW))
  have HN := Lib.hid hN
  have HX := Lib.hid hin
  have HP := Lib.hid hp
  have HM := Lib.hid (turns_max hf bs L hM)
  have hBz := Lib.hid (Nat.le_of_eq hB)
  clear h h0 hb hN hin hp hM hB
  go_enter Try.func24, Try.ntmps24
  go_wp2
  go_loopw [10] (fun cc wr => ∃ i : Nat, i ≤ nb ∧ cc = .int .i64 i ∧ Hid (LkOwn B wr A n c (turnsL f bs L i)) ∧ Hid (Below B w0 wr)) (fun cc _ => nb - (intOf cc).toNat)
  case atStart => exact ⟨0, Nat.zero_le _, rfl, H, H0⟩
  case round =>
    obtain ⟨i, hi, rfl, HO, HB⟩ := hrel
    by_cases hlt : i < nb
    · have d1 : (i : Int) < (nb : Int) := by omega
      have d2 : (i : Int) < (bc : Int) := by omega
      obtain ⟨bb, off, rfl, hbl, x0⟩ := (HI.out wr HB.out).cellAt (j := i) (by rw [HN.out]; exact hlt)
      obtain ⟨x, hx, hxm⟩ := int_at (l := bs) (i := i) (by rw [HN.out]; exact hlt)
      have hj := HX.out x hxm
      obtain ⟨j, hjj⟩ := Int.eq_ofNat_of_zero_le hj.1
      have hstep : turnsL f bs L (i + 1) = (turnsL f bs L i).set j (f (lkAt (turnsL f bs L i) j)) := by
        rw [turnsL, turnL, hx, Option.getD_some, hjj, Int.toNat_natCast]
      rw [hx, Option.getD_some, hjj] at x0
      rw [hjj] at hj
      have hjn : j < n := by omega
      have e1 : (j : Int) < (n : Int) := by omega
      have e2 : (j : Int) < (c : Int) := by omega
      have HS := Lib.hid hstep
      clear hstep hx hj hjj hxm
      obtain ⟨g, A', m, k, rfl, hg, hgl, hfz, y0, hm, hw⟩ := HO.out.at hjn
      have hmM : m ≤ M + nb := by have := HM.out i j; omega
      have hh := Lib.hid (fun W => lhas_any (some ⟨g, 0, none⟩) n c (j : Int) (by omega) e1 W)
      have hc := Lib.hid (HP.out A' m k _ wr HB.out hw hm hmM)
      clear hw hm
      go_wp2_with (first
        | (go_at_call 32; (with_reducible refine (hh.out _).mono ?_); go_must (rintro e w1 ⟨rfl, rfl⟩))
        | (go_at_fn fn; go_must (refine hc.out.mono ?_; rintro e w2 ⟨A2, m2, k2, rfl, hO, hb2⟩; obtain ⟨g', A3, m3, k3, hA3, -, hgl2, hf2, x2, -, -⟩ := (HO.out.below hb2).at hjn; injection hA3 with hA3; injection hA3 with hA3; subst hA3; have O2 := Lib.hid ((HO.out.below hb2).set (by omega) (isWn.own hO) (i := j)); have B2 := Lib.hid ((HB.out.trans (hb2.mono (Nat.le_trans hBz.out HB.out.size))).setCell (p := ⟨g, j, none⟩) hg (.slice A2 m2 k2)); clear hO hb2)))
      go_roundw
      case rel => exact ⟨i + 1, by omega, by go_num, Lib.hid (by rw [HS.out]; exact O2.out), B2⟩
      case measure => simp [intOf]; omega
    · obtain rfl : i = nb := by omega
      clear hlt
      go_wp2
      go_end0
      exact ⟨⟨_, rfl⟩, HO.out, HB.out⟩

/-! ### what is handed to change -/
theorem ask1_any (l : List Wnt) (A : Option Addr) (m k : Nat) (s : Int) (g : Nat) (w : World) (hg : w.cell? ⟨g, 0, none⟩ = some (.int .i64 s)) (h : Wnts w A k l) (hN : l.length = m) (hz : m ≤ 10000) :
    Calls Try.prog 25 #[.slice A m k, .pointer (some ⟨g, 0, none⟩)] w (WnPost (askN l s false) w) := by
  have ha := Lib.hid (ask_any l A m k s false w h hN hz)
  clear h hN
  go_enter Try.func25, Try.ntmps25
  go_wp2_with (go_at_call 26; go_must ((with_reducible refine ha.out.mono ?_); rintro e w1 ⟨A1, n1, c1, rfl, hO, hb⟩; have O1 := Lib.hid hO; have B1 := Lib.hid hb; clear hO hb))
  go_ret
  exact ⟨_, _, _, rfl, O1.out, B1.out⟩
theorem ask2_any (l : List Wnt) (A : Option Addr) (m k : Nat) (s : Int) (g : Nat) (w : World) (hg : w.cell? ⟨g, 0, none⟩ = some (.int .i64 s)) (h : Wnts w A k l) (hN : l.length = m) (hz : m ≤ 10000) :
    Calls Try.prog 27 #[.slice A m k, .pointer (some ⟨g, 0, none⟩)] w (WnPost (askN l s true) w) := by
  have ha := Lib.hid (ask_any l A m k s true w h hN hz)
  clear h hN
  go_enter Try.func27, Try.ntmps27
  go_wp2_with (go_at_call 26; go_must ((with_reducible refine ha.out.mono ?_); rintro e w1 ⟨A1, n1, c1, rfl, hO, hb⟩; have O1 := Lib.hid hO; have B1 := Lib.hid hb; clear hO hb))
  go_ret
  exact ⟨_, _, _, rfl, O1.out, B1.out⟩
theorem givel_any (l : List Wnt) (A : Option Addr) (m k : Nat) (s : Int) (g : Nat) (w : World) (hg : w.cell? ⟨g, 0, none⟩ = some (.int .i64 s)) (h : Wnts w A k l) (hN : l.length = m) (hz : m ≤ 10000) :
    Calls Try.prog 35 #[.slice A m k, .pointer (some ⟨g, 0, none⟩)] w (WnPost (giveN l s) w) := by
  have ha := Lib.hid (give_any l A m k s w h hN hz)
  clear h hN
  go_enter Try.func35, Try.ntmps35
  go_wp2_with (go_at_call 36; go_must ((with_reducible refine ha.out.mono ?_); rintro e w1 ⟨A1, n1, c1, rfl, hO, hb⟩; have O1 := Lib.hid hO; have B1 := Lib.hid hb; clear hO hb))
  go_ret
  exact ⟨_, _, _, rfl, O1.out, B1.out⟩
theorem egAsk1 : ∀ args w, (callFunc 25 args).run Try.prog w = .ok (.enter 25 args) w := enters_of Try.func25 (by kernel_rfl) rfl
theorem egAsk2 : ∀ args w, (callFunc 27 args).run Try.prog w = .ok (.enter 27 args) w := enters_of Try.func27 (by kernel_rfl) rfl
theorem egGive1 : ∀ args w, (callFunc 35 args).run Try.prog w = .ok (.enter 35 args) w := enters_of Try.func35 (by kernel_rfl) rfl

end Go.Proofs.Ytcffmkphfahapaa
