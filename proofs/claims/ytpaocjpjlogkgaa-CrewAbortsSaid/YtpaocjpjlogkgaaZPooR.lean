/-
  What foremanref16.Ready answers, in whatever memory, of tasks whose commands may be. No conditions but those that stand there.
-/
import Derived.Test.YtpaocjpjlogkgaaZPooF
import Derived.Test.YtpaocjpjlogkgaaZPooW
import Derived.Test.YtpaocjpjlogkgaaQLckRa
namespace Go.Proofs.Ytpaocjpjlogkgaa
open Go Go.RowKit
set_option maxRecDepth 100000
attribute [local go_sem] look findAt
attribute [local simp] depsOf isV Region.binds

def readyT (L : Lks) (t : TkL) : Bool := decide (t.wk < 0) && readyL L t.x.c t.s
/-- the numbers of those that are ready. -/
def readiesT (L : Lks) (l : List TkL) : List Int := (l.filter (readyT L)).map (·.s)
theorem readiesT_take {L : Lks} {l : List TkL} {i : Nat} {t : TkL} (ht : l[i]? = some t) : readiesT L (l.take (i + 1)) = if readyT L t = true then readiesT L (l.take i) ++ [t.s] else readiesT L (l.take i) := by
  unfold readiesT
  rw [List.take_add_one, ht]
  cases h : readyT L t <;> simp [h]
theorem infoI : ∃ i, Try.prog.info? 3 = some i ∧ i.zero = some (.int .i64 0) ∧ i.size = 1 ∧ i.bytes = 8 := by
  have h : (Try.prog.info? 3).map (fun i => (i.zero, i.size, i.bytes)) = some (some (.int .i64 0), 1, 8) := by kernel_rfl
  cases hi : Try.prog.info? 3 with
  | none => rw [hi] at h; cases h
  | some i =>
    rw [hi] at h
    simp only [Option.map_some, Option.some.injEq, Prod.mk.injEq] at h
    exact ⟨i, rfl, h.1, h.2.1, h.2.2⟩

/-- a row of one's own of numbers. -/
def OwnI (B : Nat) (w : World) (A : Option Addr) (n c : Nat) (l : List Int) : Prop := l.length = n ∧ w.ownsRow B 3 1 (.slice A n c) n (l.map (.int .i64))
theorem OwnI.below {B : Nat} {w w' : World} {A : Option Addr} {n c : Nat} {l : List Int} (h : OwnI B w A n c l) (hb : Below w.heap.size w w') : OwnI B w' A n c l := ⟨h.1, own_below h.2 hb⟩

set_option maxHeartbeats 8000000 in
set_option maxRecDepth 100000 in
theorem rready16_any (l : List TkL) (A : Option Addr) (n c : Nat) (u : Who) (WA : Option Addr) (nb wc : Nat) (w : World) (h : Tks w A c l) (hN : l.length = n) (hz : n ≤ 1000) (hl : LkSl w WA nb wc (lksW u nb)) (hu : u.length ≤ 1000) (hm : ∀ t ∈ l, MayBe t.x.c ∧ fitsT t.x.c nb) :
    Calls Try.prog 23 #[.slice A n c, .slice WA nb wc] w fun e w' => ∃ A' m k, e = .returned (.slice A' m k) ∧ OwnI w.heap.size w' A' m k (readiesT (lksW u nb) l) ∧ Below w.heap.size w w' := by
  obtain ⟨i0, hi0, hz0, hz1, hz2⟩ := infoI
  have H := Lib.hid h
  have HN := Lib.hid hN
  have HL := Lib.hid hl
  have HM := Lib.hid hm
  have hnc : n ≤ c := by have := h.cap; omega
  have ON : Hid (OwnI w.heap.size w none 0 0 (readiesT (lksW u nb) (l.take 0))) := Lib.hid ⟨by simp [readiesT], by simp [readiesT], .inl ⟨rfl, rfl⟩⟩
  obtain ⟨LL, hLL⟩ : ∃ LL, LL = lksW u nb := ⟨_, rfl⟩
  have HLL := Lib.hid hLL
  rw [← hLL] at ON ⊢
  clear h hN hl hm hLL
  go_enter Try.func23, Try.ntmps23
  go_wp2
  go_loopw [5, 6] (fun ou cc wr => ∃ (i m k : Nat) (A' : Option Addr), i ≤ n ∧ m ≤ i ∧ cc = .int .i64 i ∧ ou = .slice A' m k ∧ Hid (OwnI w.heap.size wr A' m k (readiesT LL (l.take i))) ∧ Hid (Below w.heap.size w wr)) (fun _ cc _ => n - (intOf cc).toNat)
  case atStart => exact ⟨0, 0, 0, none, Nat.zero_le _, Nat.le_refl _, rfl, rfl, ON, Lib.hid (Below.refl _ _)⟩
  case round =>
    obtain ⟨i, m, k, A', hin, hmi, rfl, rfl, HO, HB⟩ := hrel
    have hzw := HB.out.size
    by_cases hlt : i < n
    · have d1 : (i : Int) < (n : Int) := by omega
      have d2 : (i : Int) < (c : Int) := by omega
      obtain ⟨t, ht⟩ := tk_at (l := l) (i := i) (by rw [HN.out]; exact hlt)
      have htm := List.mem_of_getElem? ht
      obtain ⟨b, off, rfl, hat⟩ := (H.out.below HB.out).lies ht
      have HAT := Lib.hid hat
      have hT := readiesT_take (L := LL) ht
      by_cases hw : t.wk < 0
      · have e0 : decide (t.wk < 0) = true := decide_eq_true hw
        have hrd : Hid (∀ X, Below wr.heap.size wr X → Calls Try.prog 44 #[.slice WA nb wc, cmV t.x.ra t.x.nr t.x.rc t.x.wa t.x.nw t.x.wc t.x.aa t.x.na t.x.ac t.x.c.fuel t.x.ca t.x.nc t.x.cc, .int .i64 t.s] X fun e X' => e = .returned (.bool (readyL LL t.x.c t.s)) ∧ Below X.heap.size X X') := Lib.hid (fun X hX => by
          have hbx := bnext HB.out hX
          rw [HLL.out]
          exact rready_who t.x.c t.x.ra t.x.nr t.x.rc t.x.wa t.x.nw t.x.wc t.x.aa t.x.na t.x.ac t.x.c.fuel t.x.ca t.x.nc t.x.cc u WA nb wc t.s X (HL.out.below hbx) hu (CmL.lk ((H.out.2 t htm).cmd.below hbx) (HM.out t htm).1 (HM.out t htm).2))
        have hR : readyT LL t = readyL LL t.x.c t.s := by unfold readyT; rw [e0, Bool.true_and]
        rw [hR] at hT
        generalize readyL LL t.x.c t.s = r at *
        have HT := Lib.hid hT
        clear hat ht htm hT hR
        go_wp2
        try simp only [List.append_eq, List.cons_append, List.nil_append]
        refine wp_region_saysK 19 (fun x y => Below x.heap.size x y) (fun _ _ _ h k => bnext h k) wr (below_drew1 wr) (by kernel_rfl) (by kernel_rfl) (by kernel_rfl) (by kernel_rfl) (by rfl) ?_
        simp only [List.take_succ_cons, List.take_zero, List.drop_succ_cons, List.drop_zero]
        refine walkK_is ?_ (by first | exact gs0 rfl | exact gs1 rfl rfl rfl) (fun _ => Below.refl _ _) (fun u X hX hd => ?_) ?_
        rotate_left
        · obtain ⟨z0, z1, z2, z3, z4, z5, -, -, z6, -, -, z7⟩ := HAT.out X hX
          try simp at hd
          go_simp
          try rfl
        apply walkK_norm
        · first | (simp only [List.nil_append]; rfl) | simp only [List.nil_append]
        refine walkK_is ?_ (by first | exact gs0 rfl | exact gs1 rfl rfl rfl) (fun _ => Below.refl _ _) (fun u X hX hd => ?_) ?_
        rotate_left
        · obtain ⟨z0, z1, z2, z3, z4, z5, -, -, z6, -, -, z7⟩ := HAT.out X hX
          try simp at hd
          go_simp
          try rfl
        apply walkK_norm
        · first | (simp only [List.nil_append, List.cons_append]; rfl) | simp only [List.nil_append, List.cons_append]
        refine walkK_is ?_ (by first | exact gs0 rfl | exact gs1 rfl rfl rfl) (fun _ => Below.refl _ _) (fun u X hX hd => ?_) ?_
        rotate_left
        · obtain ⟨z0, z1, z2, z3, z4, z5, -, -, z6, -, -, z7⟩ := HAT.out X hX
          try simp at hd
          go_simp
          try rfl
        apply walkK_norm
        · first | (simp only [List.nil_append, List.cons_append]; rfl) | simp only [List.nil_append, List.cons_append]
        refine walkK_is ?_ (by first | exact gs0 rfl | exact gs1 rfl rfl rfl) (fun _ => Below.refl _ _) (fun u X hX hd => ?_) ?_
        rotate_left
        · obtain ⟨z0, z1, z2, z3, z4, z5, -, -, z6, -, -, z7⟩ := HAT.out X hX
          try simp at hd
          go_simp
          try rfl
        apply walkK_norm
        · first | (simp only [List.nil_append, List.cons_append]; rfl) | simp only [List.nil_append, List.cons_append]
        refine walkK_is ?_ (by first | exact gs0 rfl | exact gs1 rfl rfl rfl) (fun _ => Below.refl _ _) (fun u X hX hd => ?_) ?_
        rotate_left
        · obtain ⟨z0, z1, z2, z3, z4, z5, -, -, z6, -, -, z7⟩ := HAT.out X hX
          try simp at hd
          go_simp
          try rfl
        apply walkK_norm
        · first | (simp only [List.nil_append, List.cons_append]; rfl) | simp only [List.nil_append, List.cons_append]
        refine walkK_is ?_ (by first | exact gs0 rfl | exact gs1 rfl rfl rfl) (fun _ => Below.refl _ _) (fun u X hX hd => ?_) ?_
        rotate_left
        · obtain ⟨z0, z1, z2, z3, z4, z5, -, -, z6, -, -, z7⟩ := HAT.out X hX
          try simp at hd
          go_simp
          try rfl
        apply walkK_norm
        · first | (simp only [List.nil_append, List.cons_append]; rfl) | simp only [List.nil_append, List.cons_append]
        refine walkK_is ?_ (by first | exact gs0 rfl | exact gs1 rfl rfl rfl) (fun _ => Below.refl _ _) (fun u X hX hd => ?_) ?_
        rotate_left
        · obtain ⟨z0, z1, z2, z3, z4, z5, -, -, z6, -, -, z7⟩ := HAT.out X hX
          try simp at hd
          go_simp
          try rfl
        apply walkK_norm
        · first | (simp only [List.nil_append, List.cons_append]; rfl) | simp only [List.nil_append, List.cons_append]
        refine walkK_is ?_ (by first | exact gs0 rfl | exact gs1 rfl rfl rfl) (fun _ => Below.refl _ _) (fun u X hX hd => ?_) ?_
        rotate_left
        · obtain ⟨z0, z1, z2, z3, z4, z5, -, -, z6, -, -, z7⟩ := HAT.out X hX
          try simp at hd
          go_simp
          try rfl
        apply walkK_norm
        · first | (simp only [List.nil_append, List.cons_append]; rfl) | simp only [List.nil_append, List.cons_append]
        refine walkK_is ?_ (by first | exact gs0 rfl | exact gs1 rfl rfl rfl) (fun _ => Below.refl _ _) (fun u X hX hd => ?_) ?_
        rotate_left
        · obtain ⟨z0, z1, z2, z3, z4, z5, -, -, z6, -, -, z7⟩ := HAT.out X hX
          try simp at hd
          go_simp
          try rfl
        apply walkK_norm
        · first | (simp only [List.nil_append, List.cons_append]; rfl) | simp only [List.nil_append, List.cons_append]
        refine walkK_is ?_ (by first | exact gs0 rfl | exact gs1 rfl rfl rfl) (fun _ => Below.refl _ _) (fun u X hX hd => ?_) ?_
        rotate_left
        · obtain ⟨z0, z1, z2, z3, z4, z5, -, -, z6, -, -, z7⟩ := HAT.out X hX
          try simp at hd
          go_simp
          try rfl
        apply walkK_norm
        · first | (simp only [List.nil_append, List.cons_append]; rfl) | simp only [List.nil_append, List.cons_append]
        refine walkK_is ?_ (by first | exact gs0 rfl | exact gs1 rfl rfl rfl) (fun _ => Below.refl _ _) (fun u X hX hd => ?_) ?_
        rotate_left
        · obtain ⟨z0, z1, z2, z3, z4, z5, -, -, z6, -, -, z7⟩ := HAT.out X hX
          try simp at hd
          go_simp
          try rfl
        apply walkK_norm
        · first | (simp only [List.nil_append, List.cons_append]; rfl) | simp only [List.nil_append, List.cons_append]
        refine walkK_is ?_ (by first | exact gs0 rfl | exact gs1 rfl rfl rfl) (fun _ => Below.refl _ _) (fun u X hX hd => ?_) ?_
        rotate_left
        · obtain ⟨z0, z1, z2, z3, z4, z5, -, -, z6, -, -, z7⟩ := HAT.out X hX
          try simp at hd
          go_simp
          try rfl
        apply walkK_norm
        · first | (simp only [List.nil_append, List.cons_append]; rfl) | simp only [List.nil_append, List.cons_append]
        refine walkK_is ?_ (by first | exact gs0 rfl | exact gs1 rfl rfl rfl) (fun _ => Below.refl _ _) (fun u X hX hd => ?_) ?_
        rotate_left
        · obtain ⟨z0, z1, z2, z3, z4, z5, -, -, z6, -, -, z7⟩ := HAT.out X hX
          try simp at hd
          go_simp
          try rfl
        apply walkK_norm
        · first | (simp only [List.nil_append, List.cons_append]; rfl) | simp only [List.nil_append, List.cons_append]
        refine walkK_is ?_ (by first | exact gs0 rfl | exact gs1 rfl rfl rfl) (fun _ => Below.refl _ _) (fun u X hX hd => ?_) ?_
        rotate_left
        · obtain ⟨z0, z1, z2, z3, z4, z5, -, -, z6, -, -, z7⟩ := HAT.out X hX
          try simp at hd
          go_simp
          try rfl
        apply walkK_norm
        · first | (simp only [List.nil_append, List.cons_append]; rfl) | simp only [List.nil_append, List.cons_append]
        refine walkK_is ?_ (by first | exact gs0 rfl | exact gs1 rfl rfl rfl) (fun _ => Below.refl _ _) (fun u X hX hd => ?_) ?_
        rotate_left
        · obtain ⟨z0, z1, z2, z3, z4, z5, -, -, z6, -, -, z7⟩ := HAT.out X hX
          try simp at hd
          go_simp
          try rfl
        apply walkK_norm
        · first | (simp only [List.nil_append, List.cons_append]; rfl) | simp only [List.nil_append, List.cons_append]
        refine walkK_is ?_ (by first | exact gs0 rfl | exact gs1 rfl rfl rfl) (fun _ => Below.refl _ _) (fun u X hX hd => ?_) ?_
        rotate_left
        · obtain ⟨z0, z1, z2, z3, z4, z5, -, -, z6, -, -, z7⟩ := HAT.out X hX
          try simp at hd
          go_simp
          try rfl
        apply walkK_norm
        · first | (simp only [List.nil_append, List.cons_append]; rfl) | simp only [List.nil_append, List.cons_append]
        refine walkK_is ?_ (by first | exact gs0 rfl | exact gs1 rfl rfl rfl) (fun _ => Below.refl _ _) (fun u X hX hd => ?_) ?_
        rotate_left
        · obtain ⟨z0, z1, z2, z3, z4, z5, -, -, z6, -, -, z7⟩ := HAT.out X hX
          try simp at hd
          go_simp
          try rfl
        apply walkK_norm
        · first | (simp only [List.nil_append, List.cons_append]; rfl) | simp only [List.nil_append, List.cons_append]
        refine walkK_is ?_ (by first | exact gs0 rfl | exact gs1 rfl rfl rfl) (fun _ => Below.refl _ _) (fun u X hX hd => ?_) ?_
        rotate_left
        · obtain ⟨z0, z1, z2, z3, z4, z5, -, -, z6, -, -, z7⟩ := HAT.out X hX
          try simp at hd
          go_simp
          try rfl
        apply walkK_norm
        · first | (simp only [List.nil_append, List.cons_append]; rfl) | simp only [List.nil_append, List.cons_append]
        refine walkK_call (isV (.bool r)) 44 ?_ (by first | exact gs0 rfl | exact gs1 rfl rfl rfl) (fun _ _ _ _ h => h) (fun u X hX hd => ?_) (fun X hX => ?_) ?_
        rotate_left
        · obtain ⟨z0, z1, z2, z3, z4, z5, -, -, z6, -, -, z7⟩ := HAT.out X hX
          try simp at hd
          go_simp
          try rfl
        · exact (hrd.out X hX).mono fun e X' ⟨he, hb⟩ => ⟨_, he, hb, rfl⟩
        apply walkK_norm
        · first | (simp only [List.nil_append, List.cons_append]; rfl) | simp only [List.nil_append, List.cons_append]
        intro u X hX hsay
        simp only [sayAll, isV] at hsay
        obtain ⟨-, -, -, -, -, -, v6, -, -, -, -, -, -, -, -, -, -, -, v18, -⟩ := hsay
        simp only [putAll, Act.put, v6, v18, List.setIfInBounds_toArray, List.set_cons_succ, List.set_cons_zero, Nat.zero_add, Nat.reduceAdd]
        have BX := Lib.hid (HB.out.trans (hX.mono hzw))
        have OX := Lib.hid (HO.out.below hX)
        obtain ⟨z0, z1, z2, z3, z4, z5, -, -, z6, -, -, z7⟩ := HAT.out X hX
        cases r with
        | false =>
          rw [if_neg (by decide)] at HT
          have O2 : Hid (OwnI w.heap.size X A' m k (readiesT LL (l.take (i + 1)))) := Lib.hid (by rw [HT.out]; exact OX.out)
          clear v6 v18 hX
          go_wp2
          go_roundw
          case rel => exact ⟨i + 1, m, k, A', by omega, by omega, by go_num, rfl, O2, BX⟩
          case measure => simp [intOf]; omega
        | true =>
          rw [if_pos rfl] at HT
          have BA := below_alloc1 X (.cells #[.int .i64 t.s] 3)
          have O1 := Lib.hid (own_below OX.out.2 BA)
          have C1 := Lib.hid (BX.out.trans (BA.mono BX.out.size))
          have V1 := Lib.hid (Bk.new X 3 #[.int .i64 t.s])
          have Z1 := C1.out.size
          have HLm := Lib.hid OX.out.1
          generalize t.s = ts at *
          clear v6 v18 hX BA
          go_wp2_with (at_builtin; go_must (refine append_one rfl _ _ _ rfl w.heap.size 3 i0 _ 8 Try.underlying42 hi0 hz0 hz1 hz2 rfl _ m _ rfl O1.out X.heap.size (.int .i64 ts) rfl V1.out rfl (by unfold maxLen; omega) (by omega) Z1 ?_; intro v' w2 hown hgr; have C2 := Lib.hid (C1.out.grown hgr Z1 (fun b hb => own_ge O1.out hb)); obtain ⟨A2, k2, rfl, -⟩ := Sl.own hown; have O2 : Hid (OwnI w.heap.size w2 A2 (m + 1) k2 (readiesT LL (l.take (i + 1)))) := Lib.hid ⟨by rw [HT.out, List.length_append, HLm.out]; rfl, by rw [HT.out, List.map_append]; exact hown⟩; clear hown hgr))
          go_roundw
          case rel => exact ⟨i + 1, m + 1, k2, A2, by omega, by omega, by go_num, by rfl, O2, C2⟩
          case measure => simp [intOf]; omega
      · have e0 : decide (t.wk < 0) = false := decide_eq_false hw
        have hR : readyT LL t = false := by unfold readyT; rw [e0, Bool.false_and]
        rw [hR, if_neg (by decide)] at hT
        have HT := Lib.hid hT
        clear hat ht htm hT hR
        go_wp2
        try simp only [List.append_eq, List.cons_append, List.nil_append]
        refine wp_region_saysK 19 (fun x y => Below x.heap.size x y) (fun _ _ _ h k => bnext h k) wr (below_drew1 wr) (by kernel_rfl) (by kernel_rfl) (by kernel_rfl) (by kernel_rfl) (by rfl) ?_
        simp only [List.take_succ_cons, List.take_zero, List.drop_succ_cons, List.drop_zero]
        refine walkK_is ?_ (by first | exact gs0 rfl | exact gs1 rfl rfl rfl) (fun _ => Below.refl _ _) (fun u X hX hd => ?_) ?_
        rotate_left
        · obtain ⟨z0, z1, z2, z3, z4, z5, -, -, z6, -, -, z7⟩ := HAT.out X hX
          try simp at hd
          go_simp
          try rfl
        apply walkK_norm
        · first | (simp only [List.nil_append]; rfl) | simp only [List.nil_append]
        refine walkK_is ?_ (by first | exact gs0 rfl | exact gs1 rfl rfl rfl) (fun _ => Below.refl _ _) (fun u X hX hd => ?_) ?_
        rotate_left
        · obtain ⟨z0, z1, z2, z3, z4, z5, -, -, z6, -, -, z7⟩ := HAT.out X hX
          try simp at hd
          go_simp
          try rfl
        apply walkK_norm
        · first | (simp only [List.nil_append, List.cons_append]; rfl) | simp only [List.nil_append, List.cons_append]
        refine walkK_is ?_ (by first | exact gs0 rfl | exact gs1 rfl rfl rfl) (fun _ => Below.refl _ _) (fun u X hX hd => ?_) ?_
        rotate_left
        · obtain ⟨z0, z1, z2, z3, z4, z5, -, -, z6, -, -, z7⟩ := HAT.out X hX
          try simp at hd
          go_simp
          try rfl
        apply walkK_norm
        · first | (simp only [List.nil_append, List.cons_append]; rfl) | simp only [List.nil_append, List.cons_append]
        refine walkK_is ?_ (by first | exact gs0 rfl | exact gs1 rfl rfl rfl) (fun _ => Below.refl _ _) (fun u X hX hd => ?_) ?_
        rotate_left
        · obtain ⟨z0, z1, z2, z3, z4, z5, -, -, z6, -, -, z7⟩ := HAT.out X hX
          try simp at hd
          go_simp
          try rfl
        apply walkK_norm
        · first | (simp only [List.nil_append, List.cons_append]; rfl) | simp only [List.nil_append, List.cons_append]
        refine walkK_is ?_ (by first | exact gs0 rfl | exact gs1 rfl rfl rfl) (fun _ => Below.refl _ _) (fun u X hX hd => ?_) ?_
        rotate_left
        · obtain ⟨z0, z1, z2, z3, z4, z5, -, -, z6, -, -, z7⟩ := HAT.out X hX
          try simp at hd
          go_simp
          try rfl
        apply walkK_norm
        · first | (simp only [List.nil_append, List.cons_append]; rfl) | simp only [List.nil_append, List.cons_append]
        refine walkK_is ?_ (by first | exact gs0 rfl | exact gs1 rfl rfl rfl) (fun _ => Below.refl _ _) (fun u X hX hd => ?_) ?_
        rotate_left
        · obtain ⟨z0, z1, z2, z3, z4, z5, -, -, z6, -, -, z7⟩ := HAT.out X hX
          try simp at hd
          go_simp
          try rfl
        apply walkK_norm
        · first | (simp only [List.nil_append, List.cons_append]; rfl) | simp only [List.nil_append, List.cons_append]
        refine walkK_is ?_ (by first | exact gs0 rfl | exact gs1 rfl rfl rfl) (fun _ => Below.refl _ _) (fun u X hX hd => ?_) ?_
        rotate_left
        · obtain ⟨z0, z1, z2, z3, z4, z5, -, -, z6, -, -, z7⟩ := HAT.out X hX
          try simp at hd
          go_simp
          try rfl
        apply walkK_norm
        · first | (simp only [List.nil_append, List.cons_append]; rfl) | simp only [List.nil_append, List.cons_append]
        refine walkK_skip (st1 rfl rfl (by simp)) ?_
        apply walkK_norm
        · first | (simp only [List.nil_append, List.cons_append]; rfl) | simp only [List.nil_append, List.cons_append]
        refine walkK_skip (st1 rfl rfl (by simp)) ?_
        apply walkK_norm
        · first | (simp only [List.nil_append, List.cons_append]; rfl) | simp only [List.nil_append, List.cons_append]
        refine walkK_skip (st1 rfl rfl (by simp)) ?_
        apply walkK_norm
        · first | (simp only [List.nil_append, List.cons_append]; rfl) | simp only [List.nil_append, List.cons_append]
        refine walkK_skip (st1 rfl rfl (by simp)) ?_
        apply walkK_norm
        · first | (simp only [List.nil_append, List.cons_append]; rfl) | simp only [List.nil_append, List.cons_append]
        refine walkK_skip (st1 rfl rfl (by simp)) ?_
        apply walkK_norm
        · first | (simp only [List.nil_append, List.cons_append]; rfl) | simp only [List.nil_append, List.cons_append]
        refine walkK_skip (st1 rfl rfl (by simp)) ?_
        apply walkK_norm
        · first | (simp only [List.nil_append, List.cons_append]; rfl) | simp only [List.nil_append, List.cons_append]
        refine walkK_skip (st1 rfl rfl (by simp)) ?_
        apply walkK_norm
        · first | (simp only [List.nil_append, List.cons_append]; rfl) | simp only [List.nil_append, List.cons_append]
        refine walkK_skip (st1 rfl rfl (by simp)) ?_
        apply walkK_norm
        · first | (simp only [List.nil_append, List.cons_append]; rfl) | simp only [List.nil_append, List.cons_append]
        refine walkK_skip (st1 rfl rfl (by simp)) ?_
        apply walkK_norm
        · first | (simp only [List.nil_append, List.cons_append]; rfl) | simp only [List.nil_append, List.cons_append]
        refine walkK_skip (st1 rfl rfl (by simp)) ?_
        apply walkK_norm
        · first | (simp only [List.nil_append, List.cons_append]; rfl) | simp only [List.nil_append, List.cons_append]
        refine walkK_skip (st1 rfl rfl (by simp)) ?_
        apply walkK_norm
        · first | (simp only [List.nil_append, List.cons_append]; rfl) | simp only [List.nil_append, List.cons_append]
        refine walkK_skip (st1 rfl rfl (by simp)) ?_
        apply walkK_norm
        · first | (simp only [List.nil_append, List.cons_append]; rfl) | simp only [List.nil_append, List.cons_append]
        intro u X hX hsay
        simp only [sayAll, isV] at hsay
        obtain ⟨-, -, -, -, -, -, v6, -, -, -, -, -, -, -, -, -, -, -, v18, -⟩ := hsay
        simp only [putAll, Act.put, v6, v18, List.setIfInBounds_toArray, List.set_cons_succ, List.set_cons_zero, Nat.zero_add, Nat.reduceAdd]
        have BX := Lib.hid (HB.out.trans (hX.mono hzw))
        have O2 : Hid (OwnI w.heap.size X A' m k (readiesT LL (l.take (i + 1)))) := Lib.hid (by rw [HT.out]; exact HO.out.below hX)
        clear v6 v18 hX
        go_wp2
        go_roundw
        case rel => exact ⟨i + 1, m, k, A', by omega, by omega, by go_num, rfl, O2, BX⟩
        case measure => simp [intOf]; omega
    · obtain rfl : i = n := by omega
      have hO := HO.out
      rw [← HN.out, List.take_length] at hO
      have HO2 := Lib.hid hO
      clear hlt hO
      go_wp2
      go_ret
      exact ⟨_, _, _, rfl, HO2.out, HB.out⟩

end Go.Proofs.Ytpaocjpjlogkgaa
