/-
  Words and contracts of this claim, 2 texts laid into one, each under its own remark. No conditions but those that stand at each.
-/
import Derived.Test.YtpaocjpjlogkgaaGreatQShdM
import Derived.Laws.AppendOwnNone
import Derived.Deep.QuietTactic
import Derived.BigQuiet

/-
  What shade.Keep and foremanref13.Keep answer, in whatever memory. No conditions but those that stand there.
-/
namespace Go.Proofs.YtpaocjpjlogkgaaGreat
open Go.RowKit
set_option maxRecDepth 100000
attribute [local go_sem] look findAt
attribute [local simp] depsOf depsE isV Region.binds

theorem Bk.all9 {w : World} {g : Nat} {t : TypeId} {a b c d e f x y z : Value} (h : Bk w g t #[a, b, c, d, e, f, x, y, z]) :
    w.cell? ⟨g, 0, none⟩ = some a ∧ w.cell? ⟨g, 1, none⟩ = some b ∧ w.cell? ⟨g, 2, none⟩ = some c ∧ w.cell? ⟨g, 3, none⟩ = some d ∧ w.cell? ⟨g, 4, none⟩ = some e ∧ w.cell? ⟨g, 5, none⟩ = some f ∧ w.cell? ⟨g, 6, none⟩ = some x ∧ w.cell? ⟨g, 7, none⟩ = some y ∧ w.cell? ⟨g, 8, none⟩ = some z ∧ ∀ o, w.frozen? ⟨g, o, none⟩ = false :=
  ⟨h.cell 0, h.cell 1, h.cell 2, h.cell 3, h.cell 4, h.cell 5, h.cell 6, h.cell 7, h.cell 8, fun o => h.frozen o⟩

theorem own_var_ne {w : World} {B : Nat} {e t : TypeId} {s n c g b : Nat} {xs : List Value} {cs : Array Value} (h : w.ownsRow B e s (.slice (some ⟨g, 0, none⟩) n c) n xs) (hb : Bk w b t cs) (hne : t ≠ e) : b ≠ g := by
  rintro rfl
  rcases h.2 with ⟨h0, _⟩ | ⟨g', cap, cur, hv, _, hg, _⟩
  · cases h0
  · injection hv with hA _ _
    injection hA with hA
    injection hA with hA
    subst hA
    exact hb.ne hg hne rfl

theorem below_draw {B : Nat} {w W : World} (h : Below B w W) : Below B w W.drew := ⟨h.os, h.tape, h.output, h.size, h.block⟩

/-- an entry and a mark for it stored into rows of one's own. -/
theorem keep_stores {B : Nat} {W : World} {old : List Ent} {kept : List Bool} {go no oc gk kc : Nat} (h : MkOwn B W old kept (some ⟨go, 0, none⟩) no oc (some ⟨gk, 0, none⟩) no kc) {j : Nat} (hj : j < no) {e : Ent} (he : e.cells.length = 8) :
    MkOwn B ((W.setCells go (j * 9) (bkC (entI e)).toList).setCell ⟨gk, j, none⟩ (.bool true)) (old.set j e) (kept.set j true) (some ⟨go, 0, none⟩) no oc (some ⟨gk, 0, none⟩) no kc := by
  have hne : ∀ b, (Value.slice (some ⟨go, 0, none⟩) no oc).ownBlock = some b → (Value.slice (some ⟨gk, 0, none⟩) no kc).ownBlock ≠ some b := own_apart h.oo h.ok (by decide)
  have hgg : gk ≠ go := fun q => hne go rfl (by rw [← q]; rfl)
  have o1 := own_setCells (bkC (entI e)).toList (j * 9) h.oo
  rw [bkC_list, entsW_set h.e8 (by rw [h.lo]; exact hj) he] at o1
  have k1 : (W.setCells go (j * 9) (bkC (entI e)).toList).ownsRow B 4 1 (.slice (some ⟨gk, 0, none⟩) no kc) no (bsW kept) := own_keep h.ok fun k _ hk => heap_setCells _ _ _ k (by
    have : k = gk := by simpa [Value.ownBlock] using hk.symm
    omega)
  have k2 := (k1.stored j (.bool true)).1
  rw [← bkC_list] at o1
  refine ⟨by rw [List.length_set, h.lo], by rw [List.length_set, h.lk], h.e8.set j he, own_keep o1 fun k _ hk => Below.heap_setCell _ ⟨gk, j, none⟩ _ k (by
    have : k = go := by simpa [Value.ownBlock] using hk.symm
    show k ≠ gk
    omega), ?_⟩
  have := bsW_set kept j true
  simp only [setL] at this
  rw [← this]
  exact k2

/-- what the operations of the last statement leave. -/
def kpV (box j : Nat) (O K L : Value) (gl ol go : Nat) (E : Array Value) (_ : Unit) : Nat → Value
  | 0 => .pointer (some ⟨box, 7, none⟩)
  | 1 => O
  | 2 => .int .i64 (j : Int)
  | 3 => .pointer (some ⟨box, 8, none⟩)
  | 4 => K
  | 5 => .int .i64 (j : Int)
  | 6 => L
  | 7 => .int .i64 (j : Int)
  | 8 => .pointer (some ⟨gl, ol + j * 9, none⟩)
  | 9 => .agg E
  | 10 => .pointer (some ⟨go, j * 9, none⟩)
  | _ => undef
/-- memory while it is done: as it was, or with the entry stored. -/
def KpH (D S : World) (d : Nat → Bool) (_ : Unit) (X : World) : Prop := X = if d 11 = true then S else D
theorem KpH.is {D S : World} {d : Nat → Bool} {x : Unit} {X : World} (h : KpH D S d x X) {i : Nat} (hi : i ≠ 11) : KpH D S (updB d i) x X := by
  unfold KpH at h ⊢
  rw [updB_ne d (Ne.symm hi)]
  exact h
theorem KpH.or {D S : World} {d : Nat → Bool} {x : Unit} {X : World} (h : KpH D S d x X) : X = D ∨ X = S := by
  unfold KpH at h
  cases hd : d 11 with
  | true => rw [hd] at h; exact .inr h
  | false => rw [hd] at h; exact .inl h
theorem op_st_mid {ρ : Operand → Value} {o : Oper} {w : World} (t : TypeId) (g off : Nat) (E : Array Value) (hr : w.there g off E.size) (hi : (Tryz.prog.info? t).map (·.size) = some E.size) (h1 : E.all (·.oneCell') = true) (x y : Operand) (ho : o.op = .store t x y) (hx : ρ x = .pointer (some ⟨g, off, none⟩)) (hy : ρ y = .agg E) :
    (execOp ρ o).run Tryz.prog w = .ok .skip (w.setCells g off E.toList) := by
  have hl := run_storeVar_mid (P := Tryz.prog) w g off t E hr hi h1
  unfold execOp
  simp only [ho, hx, hy, Instr.storeAt, Instr.sureAddr, Sem.run_bind, Sem.run_pure, Result.andThen_ok, hl]

section
variable (on : Bool) (a1 a2 a3 a4 a5 a6 : Int) (oA : Option Addr) (no oc : Nat) (kA : Option Addr) (kc : Nat)

set_option maxHeartbeats 16000000 in
theorem keep_any (old : List Ent) (kept : List Bool) (l : List Ent) (lA : Option Addr) (ln lc : Nat) (i : Int) (w : World) (hM : MkIn w old kept oA no oc kA no kc) (hL : Ents w lA lc l) (h8 : Eight l) (hln : l.length = ln) (hno : no ≤ 1000) :
    Calls Tryz.prog 114 #[.agg (mkC on a1 a2 a3 a4 a5 a6 (.slice oA no oc) (.slice kA no kc)), .slice lA ln lc, .int .i64 i] w (MkPost on a1 a2 a3 a4 a5 a6 no (keepS ⟨on, old, kept⟩ l i) w) := by
  have cl1 := Lib.hid (fun (W : World) (hW : Below w.heap.size w W) => rowsV_call (B := w.heap.size) hW.size (clone_ents oA no oc _ W (hM.so.below hW) hno (entsW_one old)))
  have cl2 := Lib.hid (fun (W : World) (hW : Below w.heap.size w W) => rowsV_call (B := w.heap.size) hW.size (clone_bools kA no kc _ W (hM.sk.below hW) hno (bsW_one kept)))
  obtain ⟨wr, hW⟩ : ∃ W, W = (w.alloc (.cells (mkC on a1 a2 a3 a4 a5 a6 (.slice oA no oc) (.slice kA no kc)) 32)).alloc (.cells mkZ 32) := ⟨_, rfl⟩
  have B0 : Hid (Below w.heap.size w wr) := Lib.hid (by rw [hW]; exact kB_below _ _ _ _)
  have X0 : Hid (Bk wr w.heap.size 32 (mkC on a1 a2 a3 a4 a5 a6 (.slice oA no oc) (.slice kA no kc))) := Lib.hid (by rw [hW]; exact kB_box _ _ _ _)
  have R0 : Hid (Bk wr (w.heap.size + 1) 32 mkZ) := Lib.hid (by rw [hW]; exact kB_res _ _ _ _)
  have S0 : Hid (w.heap.size + 1 + 1 ≤ wr.heap.size) := Lib.hid (by rw [hW]; simp)
  have hQ : Hid (∀ X, Below wr.heap.size wr X → X.cell? ⟨w.heap.size, 7, none⟩ = some (.slice oA no oc) ∧ X.cell? ⟨w.heap.size, 8, none⟩ = some (.slice kA no kc)) := Lib.hid (fun X hX => ⟨(X0.out.below hX).cell 7, (X0.out.below hX).cell 8⟩)
  have HM := Lib.hid hM
  have HL := Lib.hid hL
  have H8 := Lib.hid h8
  have hlc : ln ≤ lc := by have := hL.2.1; omega
  clear hM hL h8
  go_enter Tryz.func114, Tryz.ntmps114
  go_wp2
  rw [← hW]
  clear hW
  try simp only [List.append_eq, List.cons_append, List.nil_append]
  refine wp_region_saysK 7 (fun x y => Below x.heap.size x y) (fun _ _ _ h k => bnext h k) wr (below_drew1 wr) (by kernel_rfl) (by kernel_rfl) (by kernel_rfl) (by kernel_rfl) (by rfl) ?_
  simp only [List.take_succ_cons, List.take_zero, List.drop_succ_cons, List.drop_zero]
  refine walkK_is ?_ (by first | exact gs0 rfl | exact gs1 rfl rfl rfl) (fun _ => Below.refl _ _) (fun u X hX hd => ?_) ?_
  rotate_left
  · obtain ⟨q7, q8⟩ := hQ.out X hX
    try simp at hd
    go_simp
    try rfl
  apply walkK_norm
  · first | (simp only [List.nil_append]; rfl) | simp only [List.nil_append]
  refine walkK_is ?_ (by first | exact gs0 rfl | exact gs1 rfl rfl rfl) (fun _ => Below.refl _ _) (fun u X hX hd => ?_) ?_
  rotate_left
  · obtain ⟨q7, q8⟩ := hQ.out X hX
    try simp at hd
    go_simp
    try rfl
  apply walkK_norm
  · first | (simp only [List.nil_append, List.cons_append]; rfl) | simp only [List.nil_append, List.cons_append]
  refine walkK_call (rowsV w.heap.size 76 9 no (entsW old)) 131 ?_ (by first | exact gs0 rfl | exact gs1 rfl rfl rfl) (fun v x y hb h => rowsV_keep v x y hb h) (fun u X hX hd => ?_) (fun X hX => ?_) ?_
  rotate_left
  · obtain ⟨q7, q8⟩ := hQ.out X hX
    try simp at hd
    go_simp
    try rfl
  · exact cl1.out X (bnext B0.out hX)
  apply walkK_norm
  · first | (simp only [List.nil_append, List.cons_append]; rfl) | simp only [List.nil_append, List.cons_append]
  refine walkK_is ?_ (by first | exact gs0 rfl | exact gs1 rfl rfl rfl) (fun _ => Below.refl _ _) (fun u X hX hd => ?_) ?_
  rotate_left
  · obtain ⟨q7, q8⟩ := hQ.out X hX
    try simp at hd
    go_simp
    try rfl
  apply walkK_norm
  · first | (simp only [List.nil_append, List.cons_append]; rfl) | simp only [List.nil_append, List.cons_append]
  refine walkK_is ?_ (by first | exact gs0 rfl | exact gs1 rfl rfl rfl) (fun _ => Below.refl _ _) (fun u X hX hd => ?_) ?_
  rotate_left
  · obtain ⟨q7, q8⟩ := hQ.out X hX
    try simp at hd
    go_simp
    try rfl
  apply walkK_norm
  · first | (simp only [List.nil_append, List.cons_append]; rfl) | simp only [List.nil_append, List.cons_append]
  refine walkK_call (rowsV w.heap.size 4 1 no (bsW kept)) 132 ?_ (by first | exact gs0 rfl | exact gs1 rfl rfl rfl) (fun v x y hb h => rowsV_keep v x y hb h) (fun u X hX hd => ?_) (fun X hX => ?_) ?_
  rotate_left
  · obtain ⟨q7, q8⟩ := hQ.out X hX
    try simp at hd
    go_simp
    try rfl
  · exact cl2.out X (bnext B0.out hX)
  apply walkK_norm
  · first | (simp only [List.nil_append, List.cons_append]; rfl) | simp only [List.nil_append, List.cons_append]
  refine walkK_is ?_ (by first | exact gs0 rfl | exact gs1 rfl rfl rfl) (fun _ => Below.refl _ _) (fun u X hX hd => ?_) ?_
  rotate_left
  · obtain ⟨q7, q8⟩ := hQ.out X hX
    try simp at hd
    go_simp
    try rfl
  apply walkK_norm
  · first | (simp only [List.nil_append, List.cons_append]; rfl) | simp only [List.nil_append, List.cons_append]
  intro u X hX hsay
  simp only [sayAll, isV, rowsV] at hsay
  obtain ⟨v0, v1, ⟨oA', oc', v2, ho⟩, v3, v4, ⟨kA', kc', v5, hk⟩, v6, -⟩ := hsay
  simp only [putAll, Act.put, v0, v1, v2, v3, v4, v5, v6, List.setIfInBounds_toArray, List.set_cons_succ, List.set_cons_zero]
  clear v0 v1 v2 v3 v4 v5 v6 cl1 cl2 hQ
  have B1 := Lib.hid (bnext B0.out hX)
  have X1 := Lib.hid (X0.out.below hX)
  have R1 := Lib.hid (R0.out.below hX)
  have B3 := Lib.hid (Below.setCell (p := ⟨w.heap.size, 7, none⟩) B1.out (Nat.le_refl _) (.slice oA' no oc'))
  have B4 := Lib.hid (Below.setCell (p := ⟨w.heap.size, 8, none⟩) B3.out (Nat.le_refl _) (.slice kA' no kc'))
  have X3 := Lib.hid (X1.out.set 7 (.slice oA' no oc'))
  have X4 : Hid (Bk ((X.setCell ⟨w.heap.size, 7, none⟩ (.slice oA' no oc')).setCell ⟨w.heap.size, 8, none⟩ (.slice kA' no kc')) w.heap.size 32 (mkC on a1 a2 a3 a4 a5 a6 (.slice oA' no oc') (.slice kA' no kc'))) := Lib.hid (by have := X3.out.set 8 (.slice kA' no kc'); simpa using this)
  have R3 := Lib.hid (R1.out.far (p := ⟨w.heap.size, 7, none⟩) (by simp) (.slice oA' no oc'))
  have R4 := Lib.hid (R3.out.far (p := ⟨w.heap.size, 8, none⟩) (by simp) (.slice kA' no kc'))
  have O4 := Lib.hid (own_varCell (own_varCell ho X1.out (by decide) 7 (.slice oA' no oc')) X3.out (by decide) 8 (.slice kA' no kc'))
  have K4 := Lib.hid (own_varCell (own_varCell hk X1.out (by decide) 7 (.slice oA' no oc')) X3.out (by decide) 8 (.slice kA' no kc'))
  have M4 : Hid (MkOwn w.heap.size ((X.setCell ⟨w.heap.size, 7, none⟩ (.slice oA' no oc')).setCell ⟨w.heap.size, 8, none⟩ (.slice kA' no kc')) old kept oA' no oc' kA' no kc') := Lib.hid ⟨HM.out.lo, HM.out.lk, HM.out.e8, O4.out, K4.out⟩
  have hlk := HM.out.lk
  obtain ⟨c0, c1, c2, c3, c4, c5, c6, c7, c8, cf⟩ := X1.out.all9
  have cl := X1.out.lt
  clear ho hk X3 R3 B3 O4 K4 HM B0 X0 R0 S0 R1 hX
  cases on with
  | false =>
    have hks : keepS ⟨false, old, kept⟩ l i = ⟨false, old, kept⟩ := by
      rw [keepS, if_neg]
      rintro ⟨h, -⟩
      cases h
    clear hln hlk
    go_wp2_with (first
      | (with_reducible refine ld_mk w.heap.size X4.out _ rfl rfl rfl ?_)
      | (with_reducible refine st_mk (w.heap.size + 1) R4.out rfl rfl rfl _ _ rfl rfl rfl rfl ?_))
    exact bodyPost_ret (v := .agg (mkC false a1 a2 a3 a4 a5 a6 (.slice oA' no oc') (.slice kA' no kc'))) (results_cell_row rfl _ _ (w.heap.size + 1) _ _ (0, 0) _ rfl (Bk.setRow R4.out _) Tryz.underlying32 rfl infoMk) rfl ⟨_, _, _, _, rfl, by rw [hks]; exact M4.out.varRow R4.out (by decide) (by decide) _, below_row B4.out (by omega) _⟩
  | true =>
    by_cases hi : 0 ≤ i ∧ i < (ln : Int)
    · obtain ⟨j, rfl⟩ : ∃ j : Nat, i = (j : Int) := ⟨i.toNat, by omega⟩
      have hj : j < ln := by omega
      have hhas := Lib.hid (fun W => hasE_any lA ln lc (j : Int) true W ⟨fun _ => by omega, fun _ => rfl⟩)
      by_cases hjo : j < no
      · have hfit := Lib.hid (fun W => fits_is true a1 a2 a3 a4 a5 a6 oA' no oc' kA' kc' (j : Int) true W ⟨fun _ => by omega, fun _ => rfl⟩)
        obtain ⟨go, curo, rfl, -, -, hco, -, -, -⟩ := own_pos M4.out.oo (by omega)
        obtain ⟨gk, curk, rfl, -, -, hck, -, -, -⟩ := own_pos M4.out.ok (by omega)
        obtain ⟨b, off, hboff, hbl, hv⟩ := M4.out.inn.sk.bool (j := j) hjo
        obtain ⟨rfl, rfl⟩ : gk = b ∧ 0 = off := by injection hboff with h; injection h with h1 h2; exact ⟨h1, h2⟩
        clear hboff
        rw [Nat.zero_add] at hv
        have HV := Lib.hid hv
        clear hv
        have d1 : (j : Int) < (ln : Int) := by omega
        have d2 : (j : Int) < (lc : Int) := by omega
        have d3 : (j : Int) < (no : Int) := by omega
        have d4 : (j : Int) < (kc' : Int) := by omega
        have d5 : (j : Int) < (oc' : Int) := by omega
        cases hkj : kept[j]?.getD false with
        | true =>
          have hks : keepS ⟨true, old, kept⟩ l (j : Int) = ⟨true, old, kept⟩ := by
            rw [keepS, if_neg]
            rintro ⟨-, -, -, -, h⟩
            rw [Int.toNat_natCast] at h; simp only at h; rw [h] at hkj; cases hkj
          go_wp2_with (first
            | (go_at_call 133; go_must ((with_reducible refine (hhas.out _).mono ?_); rintro e w1 ⟨rfl, rfl⟩))
            | (refine wpList_load_at 32 w.heap.size 0 (load_mk X4.out) _ rfl rfl rfl ?_)
            | (go_at_call 134; go_must ((with_reducible refine (hfit.out _).mono ?_); rintro e w5 ⟨rfl, hb5⟩; have B5 := Lib.hid (bnext B4.out hb5); have X5 := Lib.hid (X4.out.below hb5); have R5 := Lib.hid (R4.out.below hb5); have M5 := Lib.hid (M4.out.below hb5); obtain ⟨f0, f1, f2, f3, f4, f5, f6, f7, f8, ff⟩ := X5.out.all9; have fl := X5.out.lt; have V5 := (hb5.cell (p := ⟨gk, j, none⟩) hbl).trans HV.out; rw [hkj] at V5; clear hb5))
            | (with_reducible refine ld_mk w.heap.size X5.out _ rfl rfl rfl ?_)
            | (with_reducible refine st_mk (w.heap.size + 1) R5.out rfl rfl rfl _ _ rfl rfl rfl rfl ?_))
          exact bodyPost_ret (v := .agg (mkC true a1 a2 a3 a4 a5 a6 (.slice (some ⟨go, 0, none⟩) no oc') (.slice (some ⟨gk, 0, none⟩) no kc'))) (results_cell_row rfl _ _ (w.heap.size + 1) _ _ (0, 0) _ rfl (Bk.setRow R5.out _) Tryz.underlying32 rfl infoMk) rfl ⟨_, _, _, _, rfl, by rw [hks]; exact M5.out.varRow R5.out (by decide) (by decide) _, below_row B5.out (by omega) _⟩
        | false =>
          have hks : keepS ⟨true, old, kept⟩ l (j : Int) = ⟨true, old.set j (l[j]?.getD entZ), kept.set j true⟩ := by
            have hk : keepsS ⟨true, old, kept⟩ l (j : Int) := ⟨rfl, by omega, by omega, by show (j : Int) < (kept.length : Int); omega, by
              show kept[(j : Int).toNat]? = some false
              rw [Int.toNat_natCast]
              rw [List.getElem?_eq_getElem (by omega)] at hkj ⊢
              simpa using hkj⟩
            rw [keepS, if_pos hk]
            simp only [Int.toNat_natCast]
          have HKS := Lib.hid hks
          clear hks
          obtain ⟨gl, ol, rfl, hgl, hll⟩ := HL.out.load H8.out (i := j) (by omega)
          obtain ⟨E, hE⟩ : ∃ E : Array Value, E = bkC (entI (l[j]?.getD entZ)) := ⟨_, rfl⟩
          have HLE : Hid (∀ X, Below w.heap.size w X → (loadVar 76 ⟨gl, ol + j * 9, none⟩).run Tryz.prog X = .ok (.agg E) X) := Lib.hid (fun X hX => by rw [hE]; exact (hll X hX).1)
          have HE8 := Lib.hid (H8.out.at j)
          have hEE := Lib.hid hE
          have E9 : E.size = 9 := by rw [hE, bkC_size, entI_length HE8.out]
          have EI : (Tryz.prog.info? 76).map (·.size) = some E.size := by rw [E9]; exact infoEnt9
          have EA : E.all (·.oneCell') = true := by rw [hE]; simp [bkC, Value.oneCell']
          clear hE hll
          go_wp2_with (first
            | (go_at_call 133; go_must ((with_reducible refine (hhas.out _).mono ?_); rintro e w1 ⟨rfl, rfl⟩))
            | (refine wpList_load_at 32 w.heap.size 0 (load_mk X4.out) _ rfl rfl rfl ?_)
            | (go_at_call 134; go_must ((with_reducible refine (hfit.out _).mono ?_); rintro e w5 ⟨rfl, hb5⟩; have B5 := Lib.hid (bnext B4.out hb5); have X5 := Lib.hid (X4.out.below hb5); have R5 := Lib.hid (R4.out.below hb5); have M5 := Lib.hid (M4.out.below hb5); obtain ⟨f0, f1, f2, f3, f4, f5, f6, f7, f8, ff⟩ := X5.out.all9; have fl := X5.out.lt; have V5 := (hb5.cell (p := ⟨gk, j, none⟩) hbl).trans HV.out; rw [hkj] at V5; clear hb5)))
          have hD : Hid (Below w.heap.size w w5.drew) := Lib.hid (below_draw B5.out)
          have XD : Hid (Bk w5.drew w.heap.size 32 (mkC true a1 a2 a3 a4 a5 a6 (.slice (some ⟨go, 0, none⟩) no oc') (.slice (some ⟨gk, 0, none⟩) no kc'))) := Lib.hid (X5.out.heap rfl)
          have RD : Hid (Bk w5.drew (w.heap.size + 1) 32 mkZ) := Lib.hid (R5.out.heap rfl)
          have OD : Hid (MkOwn w.heap.size w5.drew old kept (some ⟨go, 0, none⟩) no oc' (some ⟨gk, 0, none⟩) no kc') := Lib.hid ⟨M5.out.lo, M5.out.lk, M5.out.e8, own_heap M5.out.oo rfl, own_heap M5.out.ok rfl⟩
          have hgo : w.heap.size ≠ go := own_var_ne OD.out.oo XD.out (by decide)
          have hgr : w.heap.size + 1 ≠ go := own_var_ne OD.out.oo RD.out (by decide)
          have hgk : w.heap.size ≠ gk := own_var_ne OD.out.ok XD.out (by decide)
          have hgs : w.heap.size + 1 ≠ gk := own_var_ne OD.out.ok RD.out (by decide)
          have hgg : go ≠ gk := fun q => own_apart OD.out.oo OD.out.ok (by decide) go rfl (by rw [q]; rfl)
          have hBg : w.heap.size ≤ go := own_ge OD.out.oo rfl
          have hBk : w.heap.size ≤ gk := own_ge OD.out.ok rfl
          obtain ⟨gp, curo, hgp, -, hko, -, -, hso, -⟩ := own_pos OD.out.oo (by omega)
          obtain rfl : go = gp := by injection hgp with hgp; injection hgp
          obtain ⟨gq, curk, hgq, -, hkk, -, -, hsk, -⟩ := own_pos OD.out.ok (by omega)
          obtain rfl : gk = gq := by injection hgq with hgq; injection hgq
          obtain ⟨D, hDe⟩ : ∃ D, D = w5.drew := ⟨_, rfl⟩
          rw [← hDe] at hD XD RD OD hko hkk
          obtain ⟨S, hSe⟩ : ∃ S, S = D.setCells go (j * 9) E.toList := ⟨_, rfl⟩
          have hS : Hid (Below w.heap.size w S) := Lib.hid (by rw [hSe]; exact below_setCells hD.out hBg _ _)
          have XS : Hid (Bk S w.heap.size 32 (mkC true a1 a2 a3 a4 a5 a6 (.slice (some ⟨go, 0, none⟩) no oc') (.slice (some ⟨gk, 0, none⟩) no kc'))) := Lib.hid (by rw [hSe]; exact XD.out.setCells hgo _ _)
          have RS : Hid (Bk S (w.heap.size + 1) 32 mkZ) := Lib.hid (by rw [hSe]; exact RD.out.setCells hgr _ _)
          have hQ : Hid (∀ X, X = D ∨ X = S → X.cell? ⟨w.heap.size, 7, none⟩ = some (.slice (some ⟨go, 0, none⟩) no oc') ∧ X.cell? ⟨w.heap.size, 8, none⟩ = some (.slice (some ⟨gk, 0, none⟩) no kc')) := Lib.hid (by
            rintro X (rfl | rfl)
            · exact ⟨XD.out.cell 7, XD.out.cell 8⟩
            · exact ⟨XS.out.cell 7, XS.out.cell 8⟩)
          have hLQ : Hid (∀ X, X = D ∨ X = S → (loadVar 76 ⟨gl, ol + j * 9, none⟩).run Tryz.prog X = .ok (.agg E) X) := Lib.hid (by
            rintro X (rfl | rfl)
            · exact HLE.out _ hD.out
            · exact HLE.out _ hS.out)
          have TH : Hid (D.there go (j * 9) E.size) := Lib.hid (hko.there (by rw [hso, E9]; omega))
          have FIN := Lib.hid (keep_stores (j := j) OD.out hjo HE8.out)
          rw [← hEE.out, ← hSe] at FIN
          have SKB : Hid (S.cell? ⟨gk, j, none⟩ = curk[j]? ∧ S.frozen? ⟨gk, j, none⟩ = false ∧ (curk[j]?).isSome = true ∧ gk < S.heap.size) := Lib.hid (by
            have hk2 : Bk S gk 4 curk := by rw [hSe]; exact Bk.setCells hkk (Ne.symm hgg) _ _
            refine ⟨hk2.cell j, hk2.frozen j, ?_, hk2.lt⟩
            rw [Array.getElem?_eq_getElem (by omega)]
            rfl)
          clear hko hkk hso hsk OD
          try simp only [List.append_eq, List.cons_append, List.nil_append]
          refine wp_region_saysE 12 (kpV w.heap.size j (.slice (some ⟨go, 0, none⟩) no oc') (.slice (some ⟨gk, 0, none⟩) no kc') (.slice (some ⟨gl, ol, none⟩) ln lc) gl ol go E) (KpH D S) () (by rw [hDe]; rfl) (by kernel_rfl) (by kernel_rfl) (by kernel_rfl) (by kernel_rfl) (by rfl) ?_ ?_
          · simp only [List.take_succ_cons, List.take_zero]
            refine walkE_is (fun d x u X _ hh _ => hh.is (by decide)) (fun d x u X hh hd => ?_) ?_
            · obtain ⟨q7, q8⟩ := hQ.out X hh.or
              clear hd
              go_simp
              try simp [hd]
              try rfl
            refine walkE_is (fun d x u X _ hh _ => hh.is (by decide)) (fun d x u X hh hd => ?_) ?_
            · obtain ⟨q7, q8⟩ := hQ.out X hh.or
              simp [kpV] at hd
              go_simp
              try simp [hd]
              try rfl
            refine walkE_is (fun d x u X _ hh _ => hh.is (by decide)) (fun d x u X hh hd => ?_) ?_
            · obtain ⟨q7, q8⟩ := hQ.out X hh.or
              clear hd
              go_simp
              try simp [hd]
              try rfl
            refine walkE_is (fun d x u X _ hh _ => hh.is (by decide)) (fun d x u X hh hd => ?_) ?_
            · obtain ⟨q7, q8⟩ := hQ.out X hh.or
              clear hd
              go_simp
              try simp [hd]
              try rfl
            refine walkE_is (fun d x u X _ hh _ => hh.is (by decide)) (fun d x u X hh hd => ?_) ?_
            · obtain ⟨q7, q8⟩ := hQ.out X hh.or
              simp [kpV] at hd
              go_simp
              try simp [hd]
              try rfl
            refine walkE_is (fun d x u X _ hh _ => hh.is (by decide)) (fun d x u X hh hd => ?_) ?_
            · obtain ⟨q7, q8⟩ := hQ.out X hh.or
              clear hd
              go_simp
              try simp [hd]
              try rfl
            refine walkE_is (fun d x u X _ hh _ => hh.is (by decide)) (fun d x u X hh hd => ?_) ?_
            · obtain ⟨q7, q8⟩ := hQ.out X hh.or
              clear hd
              go_simp
              try simp [hd]
              try rfl
            refine walkE_is (fun d x u X _ hh _ => hh.is (by decide)) (fun d x u X hh hd => ?_) ?_
            · obtain ⟨q7, q8⟩ := hQ.out X hh.or
              clear hd
              go_simp
              try simp [hd]
              try rfl
            refine walkE_is (fun d x u X _ hh _ => hh.is (by decide)) (fun d x u X hh hd => ?_) ?_
            · obtain ⟨q7, q8⟩ := hQ.out X hh.or
              simp [kpV] at hd
              go_simp
              try simp [hd]
              try rfl
            refine walkE_is (fun d x u X _ hh _ => hh.is (by decide)) (fun d x u X hh hd => ?_) ?_
            · simp [kpV] at hd
              exact op_load_at 76 gl (ol + j * 9) (hLQ.out X hh.or) _ rfl (by simp [look, findAt, hd])
            refine walkE_is (fun d x u X _ hh _ => hh.is (by decide)) (fun d x u X hh hd => ?_) ?_
            · obtain ⟨q7, q8⟩ := hQ.out X hh.or
              simp [kpV] at hd
              go_simp
              try simp [hd]
              try rfl
            refine walkE_store (fun x => rfl) (fun d x u X h1 hh hd => ?_) ?_
            · simp [kpV] at hd
              have hX : X = D := by
                unfold KpH at hh
                rw [h1] at hh
                exact hh
              subst hX
              exact ⟨_, op_st_mid 76 go (j * 9) E TH.out EI EA _ _ rfl (by simp [look, findAt, hd]) (by simp [look, findAt, hd]), by unfold KpH; rw [updB_self, hSe]; rfl⟩
            exact trivial
          · intro d x X hd hh
            have hX : X = S := by
              have := hd 11 (by decide)
              unfold KpH at hh
              rw [this] at hh
              exact hh
            subst hX
            clear hSe hDe hD XD RD TH hQ hLQ hh hd
            have Xf : Hid (Bk (X.setCell ⟨gk, j, none⟩ (.bool true)) w.heap.size 32 (mkC true a1 a2 a3 a4 a5 a6 (.slice (some ⟨go, 0, none⟩) no oc') (.slice (some ⟨gk, 0, none⟩) no kc'))) := Lib.hid (XS.out.far (p := ⟨gk, j, none⟩) hgk _)
            have Rf : Hid (Bk (X.setCell ⟨gk, j, none⟩ (.bool true)) (w.heap.size + 1) 32 mkZ) := Lib.hid (RS.out.far (p := ⟨gk, j, none⟩) hgs _)
            have Bf : Hid (Below w.heap.size w (X.setCell ⟨gk, j, none⟩ (.bool true))) := Lib.hid (Below.setCell (p := ⟨gk, j, none⟩) hS.out hBk _)
            obtain ⟨k1, k2, k3, k4⟩ := SKB.out
            obtain ⟨cv, hcv⟩ := Option.isSome_iff_exists.1 k3
            rw [hcv] at k1
            clear k3 hcv
            simp only [putAll, Act.put, kpV, List.take_succ_cons, List.take_zero, List.drop_succ_cons, List.drop_zero, List.setIfInBounds_toArray, List.set_cons_succ, List.set_cons_zero]
            go_wp2_with (first
              | (with_reducible refine ld_mk w.heap.size Xf.out _ rfl rfl rfl ?_)
              | (with_reducible refine st_mk (w.heap.size + 1) Rf.out rfl rfl rfl _ _ rfl rfl rfl rfl ?_))
            exact bodyPost_ret (v := .agg (mkC true a1 a2 a3 a4 a5 a6 (.slice (some ⟨go, 0, none⟩) no oc') (.slice (some ⟨gk, 0, none⟩) no kc'))) (results_cell_row rfl _ _ (w.heap.size + 1) _ _ (0, 0) _ rfl (Bk.setRow Rf.out _) Tryz.underlying32 rfl infoMk) rfl ⟨_, _, _, _, rfl, by rw [HKS.out]; exact FIN.out.varRow Rf.out (by decide) (by decide) _, below_row Bf.out (by omega) _⟩
      · have hfit := Lib.hid (fun W => fits_is true a1 a2 a3 a4 a5 a6 oA' no oc' kA' kc' (j : Int) false W ⟨(fun h => by cases h), fun h => absurd h.2 (by omega)⟩)
        have hks : keepS ⟨true, old, kept⟩ l (j : Int) = ⟨true, old, kept⟩ := by
          rw [keepS, if_neg]
          rintro ⟨-, -, -, h, -⟩
          simp only at h; omega
        go_wp2_with (first
          | (go_at_call 133; go_must ((with_reducible refine (hhas.out _).mono ?_); rintro e w1 ⟨rfl, rfl⟩))
          | (refine wpList_load_at 32 w.heap.size 0 (load_mk X4.out) _ rfl rfl rfl ?_)
          | (go_at_call 134; go_must ((with_reducible refine (hfit.out _).mono ?_); rintro e w5 ⟨rfl, hb5⟩; have B5 := Lib.hid (bnext B4.out hb5); have X5 := Lib.hid (X4.out.below hb5); have R5 := Lib.hid (R4.out.below hb5); have M5 := Lib.hid (M4.out.below hb5); obtain ⟨f0, f1, f2, f3, f4, f5, f6, f7, f8, ff⟩ := X5.out.all9; have fl := X5.out.lt; clear hb5))
          | (with_reducible refine ld_mk w.heap.size X5.out _ rfl rfl rfl ?_)
          | (with_reducible refine st_mk (w.heap.size + 1) R5.out rfl rfl rfl _ _ rfl rfl rfl rfl ?_))
        exact bodyPost_ret (v := .agg (mkC true a1 a2 a3 a4 a5 a6 (.slice oA' no oc') (.slice kA' no kc'))) (results_cell_row rfl _ _ (w.heap.size + 1) _ _ (0, 0) _ rfl (Bk.setRow R5.out _) Tryz.underlying32 rfl infoMk) rfl ⟨_, _, _, _, rfl, by rw [hks]; exact M5.out.varRow R5.out (by decide) (by decide) _, below_row B5.out (by omega) _⟩
    · have hhas := Lib.hid (fun W => hasE_any lA ln lc i false W ⟨(fun h => by cases h), fun h => absurd h hi⟩)
      have hks : keepS ⟨true, old, kept⟩ l i = ⟨true, old, kept⟩ := by
        rw [keepS, if_neg]
        rintro ⟨-, h1, h2, -, -⟩
        exact hi ⟨h1, by omega⟩
      go_wp2_with (first
        | (go_at_call 133; go_must ((with_reducible refine (hhas.out _).mono ?_); rintro e w1 ⟨rfl, rfl⟩))
        | (with_reducible refine ld_mk w.heap.size X4.out _ rfl rfl rfl ?_)
        | (with_reducible refine st_mk (w.heap.size + 1) R4.out rfl rfl rfl _ _ rfl rfl rfl rfl ?_))
      exact bodyPost_ret (v := .agg (mkC true a1 a2 a3 a4 a5 a6 (.slice oA' no oc') (.slice kA' no kc'))) (results_cell_row rfl _ _ (w.heap.size + 1) _ _ (0, 0) _ rfl (Bk.setRow R4.out _) Tryz.underlying32 rfl infoMk) rfl ⟨_, _, _, _, rfl, by rw [hks]; exact M4.out.varRow R4.out (by decide) (by decide) _, below_row B4.out (by omega) _⟩

end
end Go.Proofs.YtpaocjpjlogkgaaGreat

/-
  What foremanref13.Same answers of marks that read the same: true, in whatever memory. No conditions but those that stand there.
-/
namespace Go.Proofs.YtpaocjpjlogkgaaGreat
open Go.RowKit
set_option maxRecDepth 100000

section
variable (on : Bool) (a1 a2 a3 a4 a5 a6 : Int) (oA : Option Addr) (no oc : Nat) (kA : Option Addr) (kc : Nat) (oB : Option Addr) (od : Nat) (kB' : Option Addr) (kd : Nat)

set_option maxHeartbeats 8000000 in
theorem rsameM_yes (old : List Ent) (kept : List Bool) (w : World) (hM : MkIn w old kept oA no oc kA no kc) (hN : MkIn w old kept oB no od kB' no kd) (hz : no ≤ 1000) :
    Calls Tryz.prog 32 #[.agg (mkC on a1 a2 a3 a4 a5 a6 (.slice oA no oc) (.slice kA no kc)), .agg (mkC on a1 a2 a3 a4 a5 a6 (.slice oB no od) (.slice kB' no kd))] w fun e w' => e = .returned (.bool true) ∧ Below w.heap.size w w' := by
  have h1 : no ≤ oc := hM.so.2.1
  have h2 : no ≤ kc := hM.sk.2.1
  have h3 : no ≤ od := hN.so.2.1
  have h4 : no ≤ kd := hN.sk.2.1
  have H8 := Lib.hid hM.e8
  have HN := Lib.hid hM.lo
  have HK := Lib.hid hM.lk
  obtain ⟨wz, hW⟩ : ∃ W, W = (w.alloc (.cells (mkC on a1 a2 a3 a4 a5 a6 (.slice oA no oc) (.slice kA no kc)) 32)).alloc (.cells (mkC on a1 a2 a3 a4 a5 a6 (.slice oB no od) (.slice kB' no kd)) 32) := ⟨_, rfl⟩
  have B0 : Hid (Below w.heap.size w wz) := Lib.hid (by rw [hW]; exact bnext (below_alloc1 _ _) (below_alloc1 _ _))
  have X0 : Hid (Bk wz w.heap.size 32 (mkC on a1 a2 a3 a4 a5 a6 (.slice oA no oc) (.slice kA no kc))) := Lib.hid (by rw [hW]; exact (Bk.new w _ _).alloc _)
  have Y0 : Hid (Bk wz (w.heap.size + 1) 32 (mkC on a1 a2 a3 a4 a5 a6 (.slice oB no od) (.slice kB' no kd))) := Lib.hid (by
    rw [hW]
    have := Bk.new (w.alloc (.cells (mkC on a1 a2 a3 a4 a5 a6 (.slice oA no oc) (.slice kA no kc)) 32)) 32 (mkC on a1 a2 a3 a4 a5 a6 (.slice oB no od) (.slice kB' no kd))
    rwa [World.size_alloc] at this)
  have HM := Lib.hid (hM.below B0.out)
  have HM' := Lib.hid (hN.below B0.out)
  clear hM hN
  go_enter Tryz.func32, Tryz.ntmps32
  go_wp2
  rw [← hW]
  clear hW
  go_loopw [5] (fun cc wr => ∃ k : Nat, k ≤ no ∧ cc = .int .i64 k ∧ Hid (Below wz.heap.size wz wr)) (fun cc _ => no - (intOf cc).toNat)
  case atStart => exact ⟨0, Nat.zero_le _, rfl, Lib.hid (Below.refl _ _)⟩
  case round =>
    obtain ⟨k, hk, rfl, HB⟩ := hrel
    have XB := Lib.hid (X0.out.below HB.out)
    have YB := Lib.hid (Y0.out.below HB.out)
    obtain ⟨c0, c1, c2, c3, c4, c5, c6, c7, c8, cf⟩ := XB.out.all9
    have cl := XB.out.lt
    obtain ⟨e0, e1, e2, e3, e4, e5, e6, e7, e8, ef⟩ := YB.out.all9
    have el := YB.out.lt
    by_cases hlt : k < no
    · have d1 : (k : Int) < (no : Int) := by omega
      have d2 : (k : Int) < (oc : Int) := by omega
      have d3 : (k : Int) < (od : Int) := by omega
      obtain ⟨g, off, rfl, hg, hl⟩ := HM.out.ents.load H8.out (i := k) (by rw [HN.out]; exact hlt)
      obtain ⟨g', off', rfl, hg', hl'⟩ := HM'.out.ents.load H8.out (i := k) (by rw [HN.out]; exact hlt)
      have L : Hid (∀ w', (∃ n, w' = wr.drewN n) → (loadVar 76 ⟨g, off + k * 9, none⟩).run Tryz.prog w' = .ok (.agg (bkC (entI (old[k]?.getD entZ)))) w') := Lib.hid (by
        rintro _ ⟨q, rfl⟩
        exact (hl _ (bnext HB.out (drewN_below _ _))).1)
      have L' : Hid (∀ w', (∃ n, w' = wr.drewN n) → (loadVar 76 ⟨g', off' + k * 9, none⟩).run Tryz.prog w' = .ok (.agg (bkC (entI (old[k]?.getD entZ)))) w') := Lib.hid (by
        rintro _ ⟨q, rfl⟩
        exact (hl' _ (bnext HB.out (drewN_below _ _))).1)
      have NE : Hid (∀ W, (binOp .neq 76 (.agg (bkC (entI (old[k]?.getD entZ)))) (.agg (bkC (entI (old[k]?.getD entZ))))).run Tryz.prog W = .ok (.bool false) W) := Lib.hid (fun W => by rw [neq_ent W (H8.out.at k) (H8.out.at k), decide_eq_true rfl]; rfl)
      clear hl hl'
      generalize bkC (entI (old[k]?.getD entZ)) = cs at *
      go_wp2
      try simp only [List.append_eq, List.cons_append, List.nil_append]
      refine wp_region_quiet_lit (by kernel_rfl) (by kernel_rfl) ?_
      repeat (first
        | (go_big_quiet_want; (first | refine quiet_load_at _ g (off + k * 9) L.out _ rfl rfl ?_ | refine quiet_load_at _ g' (off' + k * 9) L'.out _ rfl rfl ?_ | refine quiet_neq_at _ false eqGuardEnt NE.out _ _ _ rfl rfl rfl ?_); go_simp; go_big_quiet_on)
        | go_big_quiet_step (fail))
      refine wpQuiet_nil ?_
      rintro _ ⟨nq, rfl⟩
      go_wp2
      go_roundw
      case rel => exact ⟨k + 1, by omega, by go_num, Lib.hid (bnext HB.out (drewN_below _ _))⟩
      case measure => simp [intOf]; omega
    · obtain rfl : k = no := by omega
      clear hlt
      obtain ⟨k0, hk0⟩ : ∃ k0, k0 = k := ⟨_, rfl⟩
      subst hk0
      go_wp2
      go_loopw [6] (fun cc wr => ∃ k : Nat, k ≤ k0 ∧ cc = .int .i64 k ∧ Hid (Below wz.heap.size wz wr)) (fun cc _ => k0 - (intOf cc).toNat)
      case atStart => exact ⟨0, Nat.zero_le _, rfl, HB⟩
      case round =>
        clear HB XB YB c0 c1 c2 c3 c4 c5 c6 c7 c8 cf cl e0 e1 e2 e3 e4 e5 e6 e7 e8 ef el
        obtain ⟨k, hk, rfl, HB⟩ := hrel
        have XB := Lib.hid (X0.out.below HB.out)
        have YB := Lib.hid (Y0.out.below HB.out)
        obtain ⟨c0, c1, c2, c3, c4, c5, c6, c7, c8, cf⟩ := XB.out.all9
        have cl := XB.out.lt
        obtain ⟨e0, e1, e2, e3, e4, e5, e6, e7, e8, ef⟩ := YB.out.all9
        have el := YB.out.lt
        by_cases hlt : k < k0
        · have d1 : (k : Int) < (k0 : Int) := by omega
          have d2 : (k : Int) < (kc : Int) := by omega
          have d3 : (k : Int) < (kd : Int) := by omega
          obtain ⟨b, off, rfl, hb, hv⟩ := (HM.out.below HB.out).sk.bool (j := k) hlt
          obtain ⟨b', off', rfl, hb', hv'⟩ := (HM'.out.below HB.out).sk.bool (j := k) hlt
          generalize kept[k]?.getD false = q at *
          go_wp2
          try simp only [List.append_eq, List.cons_append, List.nil_append]
          refine wp_region_quiet_lit (by kernel_rfl) (by kernel_rfl) ?_
          repeat (first
            | go_big_quiet_step (fail))
          refine wpQuiet_nil ?_
          rintro _ ⟨nq, rfl⟩
          go_wp2
          go_roundw
          case rel => exact ⟨k + 1, by omega, by go_num, Lib.hid (bnext HB.out (drewN_below _ _))⟩
          case measure => simp [intOf]; omega
        · obtain rfl : k = k0 := by omega
          clear hlt
          go_wp2
          go_ret
          exact ⟨rfl, bnext B0.out HB.out⟩

end
end Go.Proofs.YtpaocjpjlogkgaaGreat
