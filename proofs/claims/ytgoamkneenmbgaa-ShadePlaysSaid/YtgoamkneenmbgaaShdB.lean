/-
  What shade.Begin and foremanref13.Begin answer, in whatever memory. No conditions but those that stand there.
-/
import Derived.Test.YtgoamkneenmbgaaShdA
import Derived.Test.YtgoamkneenmbgaaSaysE
import Derived.OwnWalk
namespace Go.Proofs.Ytgoamkneenmbgaa
open Go.RowKit
attribute [local go_sem] look findAt
attribute [local simp] depsOf depsE isV Region.binds

section
variable {ops : Array Oper} {rest : List Oper} {o : Oper} {a : Act} {w : World} {Q : Exit → Act → World → Prop}
theorem wp_make_ents (B n : Nat) (hn : n ≤ 1000) (hB : B ≤ w.heap.size) (l c : Operand) (hgd : o.guard = none) (ho : o.op = .makeSlice 22 l c) (hl : a.eval l = .int .i64 (n : Int)) (hc : a.eval c = .int .i64 (n : Int))
    (h : ∀ A k w', w'.ownsRow B 34 9 (.slice A n k) n (entsW (List.replicate n entZ)) → Below w.heap.size w w' → wpList Try.prog ops Q rest (a.put o.dst (.slice A n k)) w') : wpList Try.prog ops Q (o :: rest) a w := by
  obtain ⟨i0, hi, hz0, hz1, hz2⟩ := infoEntZ
  refine wpList_make_full _ hgd _ _ _ ho B 34 i0 (.agg (bkC (entI entZ))) 9 Try.underlying22 hi hz0 hz1 .i64 .i64 _ _ n hl hc rfl rfl (by rw [hz2]; omega) (by unfold maxLen; omega) hB fun w' h1 h2 => ?_
  rw [show (Value.agg (bkC (entI entZ))).cells = bkC (entI entZ) from rfl, made_ents] at h1
  exact h _ _ w' h1 (bfresh h2)
theorem wp_make_bools (B n : Nat) (hn : n ≤ 1000) (hB : B ≤ w.heap.size) (l c : Operand) (hgd : o.guard = none) (ho : o.op = .makeSlice 23 l c) (hl : a.eval l = .int .i64 (n : Int)) (hc : a.eval c = .int .i64 (n : Int))
    (h : ∀ A k w', w'.ownsRow B 4 1 (.slice A n k) n (bsW (List.replicate n false)) → Below w.heap.size w w' → wpList Try.prog ops Q rest (a.put o.dst (.slice A n k)) w') : wpList Try.prog ops Q (o :: rest) a w := by
  obtain ⟨i0, hi, hz0, hz1, hz2⟩ := infoBool
  refine wpList_make_full _ hgd _ _ _ ho B 4 i0 (.bool false) 1 Try.underlying23 hi hz0 hz1 .i64 .i64 _ _ n hl hc rfl rfl (by rw [hz2]; omega) (by unfold maxLen; omega) hB fun w' h1 h2 => ?_
  rw [show (Value.bool false).cells = #[.bool false] from rfl, made_bools] at h1
  exact h _ _ w' h1 (bfresh h2)
end
theorem exec_make_ents (ρ : Operand → Value) (w : World) (o : Oper) (B n : Nat) (hn : n ≤ 1000) (hB : B ≤ w.heap.size) (l c : Operand) (ho : o.op = .makeSlice 22 l c) (hl : ρ l = .int .i64 (n : Int)) (hc : ρ c = .int .i64 (n : Int)) :
    ∃ v w', (execOp ρ o).run Try.prog w = .ok (.value v) w' ∧ Below w.heap.size w w' ∧ rowsV B 34 9 n (entsW (List.replicate n entZ)) v w' := by
  obtain ⟨i0, hi, hz0, hz1, hz2⟩ := infoEntZ
  obtain ⟨w', hr, h1, h2⟩ := run_make_full (P := Try.prog) w B 22 34 i0 (.agg (bkC (entI entZ))) 9 Try.underlying22 hi hz0 hz1 .i64 .i64 n (by rw [hz2]; omega) (by unfold maxLen; omega) hB
  rw [show (Value.agg (bkC (entI entZ))).cells = bkC (entI entZ) from rfl, made_ents] at h1
  refine ⟨_, w', ?_, bfresh h2, _, _, rfl, h1⟩
  unfold execOp
  simp only [ho, hl, hc, hr, Sem.run_bind, Sem.run_pure, Result.andThen_ok]
theorem exec_make_bools (ρ : Operand → Value) (w : World) (o : Oper) (B n : Nat) (hn : n ≤ 1000) (hB : B ≤ w.heap.size) (l c : Operand) (ho : o.op = .makeSlice 23 l c) (hl : ρ l = .int .i64 (n : Int)) (hc : ρ c = .int .i64 (n : Int)) :
    ∃ v w', (execOp ρ o).run Try.prog w = .ok (.value v) w' ∧ Below w.heap.size w w' ∧ rowsV B 4 1 n (bsW (List.replicate n false)) v w' := by
  obtain ⟨i0, hi, hz0, hz1, hz2⟩ := infoBool
  obtain ⟨w', hr, h1, h2⟩ := run_make_full (P := Try.prog) w B 23 4 i0 (.bool false) 1 Try.underlying23 hi hz0 hz1 .i64 .i64 n (by rw [hz2]; omega) (by unfold maxLen; omega) hB
  rw [show (Value.bool false).cells = #[.bool false] from rfl, made_bools] at h1
  refine ⟨_, w', ?_, bfresh h2, _, _, rfl, h1⟩
  unfold execOp
  simp only [ho, hl, hc, hr, Sem.run_bind, Sem.run_pure, Result.andThen_ok]

/-- a mark that was begun, or kept: its lists are its own. -/
def MkPost (on : Bool) (a1 a2 a3 a4 a5 a6 : Int) (no : Nat) (M : Mrk) (w : World) (e : Ending) (w' : World) : Prop :=
  ∃ oA oc kA kc, e = .returned (.agg (mkC on a1 a2 a3 a4 a5 a6 (.slice oA no oc) (.slice kA no kc))) ∧ MkOwn w.heap.size w' M.old M.kept oA no oc kA no kc ∧ Below w.heap.size w w'

abbrev mkZ : Array Value := mkC false 0 0 0 0 0 0 (.slice none 0 0) (.slice none 0 0)
theorem nought_eight (n : Nat) : Eight (List.replicate n entZ) := fun e he => by
  rw [(List.mem_replicate.1 he).2]
  rfl
theorem own_begin {B n : Nat} {W : World} {oA : Option Addr} {oc : Nat} {kA : Option Addr} {kc : Nat} (h1 : W.ownsRow B 34 9 (.slice oA n oc) n (entsW (List.replicate n entZ))) (h2 : W.ownsRow B 4 1 (.slice kA n kc) n (bsW (List.replicate n false))) :
    MkOwn B W (beginS n).old (beginS n).kept oA n oc kA n kc :=
  ⟨by simp [beginS], by simp [beginS], by simpa [beginS] using nought_eight n, by simpa [beginS] using h1, by simpa [beginS] using h2⟩

/-- where the lists of a mark that is begun come to lie. -/
structure BgE where
  oA : Option Addr
  oc : Nat
  kA : Option Addr
  kc : Nat
/-- what each operation leaves. -/
def bgV (n box : Nat) (x : BgE) : Nat → Value
  | 0 => .int .i64 (n : Int)
  | 1 => .int .i64 (n : Int)
  | 2 => .slice x.oA n x.oc
  | 3 => .int .i64 (n : Int)
  | 4 => .int .i64 (n : Int)
  | 5 => .slice x.kA n x.kc
  | 6 => .pointer (some ⟨box, 0, none⟩)
  | 8 => .pointer (some ⟨box, 7, none⟩)
  | _ => undef
/-- what holds once those of d have come up. -/
structure BgH (w : World) (n : Nat) (on : Bool) (a1 a2 a3 a4 a5 a6 : Int) (O K : Value) (d : Nat → Bool) (x : BgE) (X : World) : Prop where
  below : Below w.heap.size w X
  room : w.heap.size + 1 + 1 ≤ X.heap.size
  o9 : d 9 = true → d 2 = true
  box : Bk X w.heap.size 25 (mkC (if d 7 = true then true else on) a1 a2 a3 a4 a5 a6 (if d 9 = true then .slice x.oA n x.oc else O) K)
  res : Bk X (w.heap.size + 1) 25 mkZ
  old : d 2 = true → X.ownsRow w.heap.size 34 9 (.slice x.oA n x.oc) n (entsW (List.replicate n entZ))
  kept : d 5 = true → X.ownsRow w.heap.size 4 1 (.slice x.kA n x.kc) n (bsW (List.replicate n false))

section
variable {w : World} {n : Nat} {on : Bool} {a1 a2 a3 a4 a5 a6 : Int} {O K : Value} {d : Nat → Bool} {x : BgE} {X : World}
theorem BgH.is (h : BgH w n on a1 a2 a3 a4 a5 a6 O K d x X) {i : Nat} (hi : i = 0 ∨ i = 1 ∨ i = 3 ∨ i = 4 ∨ i = 6 ∨ i = 8) : BgH w n on a1 a2 a3 a4 a5 a6 O K (updB d i) x X := by
  obtain ⟨b, r, o9, bx, rs, ol, kp⟩ := h
  rcases hi with rfl | rfl | rfl | rfl | rfl | rfl <;> exact ⟨b, r, o9, bx, rs, ol, kp⟩
theorem BgH.step2 (h : BgH w n on a1 a2 a3 a4 a5 a6 O K d x X) (hf : d 2 = false) {A : Option Addr} {k : Nat} {X' : World} (ho : X'.ownsRow w.heap.size 34 9 (.slice A n k) n (entsW (List.replicate n entZ))) (hb : Below X.heap.size X X') :
    BgH w n on a1 a2 a3 a4 a5 a6 O K (updB d 2) { x with oA := A, oc := k } X' := by
  obtain ⟨b, r, o9, bx, rs, ol, kp⟩ := h
  have n9 : d 9 = false := by cases hq : d 9 with | false => rfl | true => rw [o9 hq] at hf; cases hf
  refine ⟨bnext b hb, Nat.le_trans r hb.size, fun _ => rfl, ?_, rs.below hb, fun _ => ho, fun q => own_below (kp q) hb⟩
  have := bx.below hb
  rw [n9] at this
  show Bk X' w.heap.size 25 (mkC (if d 7 = true then true else on) a1 a2 a3 a4 a5 a6 (if d 9 = true then _ else O) K)
  rw [n9]
  exact this
theorem bgV_same2 (hf : d 2 = false) {box : Nat} {A : Option Addr} {k : Nat} : ∀ j, d j = true → bgV n box { x with oA := A, oc := k } j = bgV n box x j := by
  intro j hj
  match j, hj with
  | 0, _ => rfl
  | 1, _ => rfl
  | 2, hj => rw [hf] at hj; cases hj
  | 3, _ => rfl
  | 4, _ => rfl
  | 5, _ => rfl
  | 6, _ => rfl
  | 7, _ => rfl
  | 8, _ => rfl
  | (j + 9), _ => rfl
theorem BgH.step5 (h : BgH w n on a1 a2 a3 a4 a5 a6 O K d x X) {A : Option Addr} {k : Nat} {X' : World} (ho : X'.ownsRow w.heap.size 4 1 (.slice A n k) n (bsW (List.replicate n false))) (hb : Below X.heap.size X X') :
    BgH w n on a1 a2 a3 a4 a5 a6 O K (updB d 5) { x with kA := A, kc := k } X' := by
  obtain ⟨b, r, o9, bx, rs, ol, kp⟩ := h
  exact ⟨bnext b hb, Nat.le_trans r hb.size, o9, bx.below hb, rs.below hb, fun q => own_below (ol q) hb, fun _ => ho⟩
theorem bgV_same5 (hf : d 5 = false) {box : Nat} {A : Option Addr} {k : Nat} : ∀ j, d j = true → bgV n box { x with kA := A, kc := k } j = bgV n box x j := by
  intro j hj
  match j, hj with
  | 0, _ => rfl
  | 1, _ => rfl
  | 2, _ => rfl
  | 3, _ => rfl
  | 4, _ => rfl
  | 5, hj => rw [hf] at hj; cases hj
  | 6, _ => rfl
  | 7, _ => rfl
  | 8, _ => rfl
  | (j + 9), _ => rfl
theorem BgH.step7 (h : BgH w n on a1 a2 a3 a4 a5 a6 O K d x X) : BgH w n on a1 a2 a3 a4 a5 a6 O K (updB d 7) x (X.setCell ⟨w.heap.size, 0, none⟩ (.bool true)) := by
  obtain ⟨b, r, o9, bx, rs, ol, kp⟩ := h
  refine ⟨Below.setCell (p := ⟨w.heap.size, 0, none⟩) b (Nat.le_refl _) _, by simpa using r, o9, ?_, rs.far (p := ⟨w.heap.size, 0, none⟩) (by simp) _, fun q => own_varCell (ol q) bx (by decide) 0 _, fun q => own_varCell (kp q) bx (by decide) 0 _⟩
  have := bx.set 0 (.bool true)
  simpa [updB] using this
theorem BgH.step9 (h : BgH w n on a1 a2 a3 a4 a5 a6 O K d x X) (h2 : d 2 = true) : BgH w n on a1 a2 a3 a4 a5 a6 O K (updB d 9) x (X.setCell ⟨w.heap.size, 7, none⟩ (.slice x.oA n x.oc)) := by
  obtain ⟨b, r, o9, bx, rs, ol, kp⟩ := h
  refine ⟨Below.setCell (p := ⟨w.heap.size, 7, none⟩) b (Nat.le_refl _) _, by simpa using r, fun _ => h2, ?_, rs.far (p := ⟨w.heap.size, 7, none⟩) (by simp) _, fun q => own_varCell (ol q) bx (by decide) 7 _, fun q => own_varCell (kp q) bx (by decide) 7 _⟩
  have := bx.set 7 (.slice x.oA n x.oc)
  simpa [updB] using this
end
/-- an operation that makes a list of noughts, as one of many. -/
theorem new_ents {E : Type} {V : E → Nat → Value} {Hh : E → World → Prop} {same : E → Prop} {i : Nat} (ρ : Operand → Value) (w : World) (o : Oper) (B n : Nat) (hn : n ≤ 1000) (hB : B ≤ w.heap.size) (l c : Operand) (ho : o.op = .makeSlice 22 l c) (hl : ρ l = .int .i64 (n : Int)) (hc : ρ c = .int .i64 (n : Int))
    (K : ∀ A k w', Below w.heap.size w w' → w'.ownsRow B 34 9 (.slice A n k) n (entsW (List.replicate n entZ)) → ∃ x', V x' i = .slice A n k ∧ same x' ∧ Hh x' w') : ∃ w' x', (execOp ρ o).run Try.prog w = .ok (.value (V x' i)) w' ∧ same x' ∧ Hh x' w' := by
  obtain ⟨v, w', hr, hb, A, k, rfl, h⟩ := exec_make_ents ρ w o B n hn hB l c ho hl hc
  obtain ⟨x', e, h1, h2⟩ := K A k w' hb h
  exact ⟨w', x', by rw [e]; exact hr, h1, h2⟩
theorem new_bools {E : Type} {V : E → Nat → Value} {Hh : E → World → Prop} {same : E → Prop} {i : Nat} (ρ : Operand → Value) (w : World) (o : Oper) (B n : Nat) (hn : n ≤ 1000) (hB : B ≤ w.heap.size) (l c : Operand) (ho : o.op = .makeSlice 23 l c) (hl : ρ l = .int .i64 (n : Int)) (hc : ρ c = .int .i64 (n : Int))
    (K : ∀ A k w', Below w.heap.size w w' → w'.ownsRow B 4 1 (.slice A n k) n (bsW (List.replicate n false)) → ∃ x', V x' i = .slice A n k ∧ same x' ∧ Hh x' w') : ∃ w' x', (execOp ρ o).run Try.prog w = .ok (.value (V x' i)) w' ∧ same x' ∧ Hh x' w' := by
  obtain ⟨v, w', hr, hb, A, k, rfl, h⟩ := exec_make_bools ρ w o B n hn hB l c ho hl hc
  obtain ⟨x', e, h1, h2⟩ := K A k w' hb h
  exact ⟨w', x', by rw [e]; exact hr, h1, h2⟩

section
variable (on : Bool) (a1 a2 a3 a4 a5 a6 : Int) (O K : Value)

/-- the end of it: three fields are stored, the mark is handed back. -/
theorem begin_tail {w w2 : World} {n : Nat} {oA : Option Addr} {oc : Nat} {kA : Option Addr} {kc : Nat} (hb : Below w.heap.size w w2)
    (h1 : w2.ownsRow w.heap.size 34 9 (.slice oA n oc) n (entsW (List.replicate n entZ))) (h2 : w2.ownsRow w.heap.size 4 1 (.slice kA n kc) n (bsW (List.replicate n false))) (ds : Array Value) (hr : Bk w2 (w.heap.size + 1) 25 ds) (V : Array Value) :
    MkOwn w.heap.size (w2.setRow (w.heap.size + 1) V) (beginS n).old (beginS n).kept oA n oc kA n kc ∧ Below w.heap.size w (w2.setRow (w.heap.size + 1) V) :=
  ⟨(own_begin h1 h2).varRow hr (by decide) (by decide) V, below_row hb (by omega) V⟩

set_option maxHeartbeats 4000000 in
theorem begin_any (n : Nat) (hn : n ≤ 1000) (w : World) :
    Calls Try.prog 8 #[.agg (mkC on a1 a2 a3 a4 a5 a6 O K), .int .i64 (n : Int)] w (MkPost true a1 a2 a3 a4 a5 a6 n (beginS n) w) := by
  have d1 : decide ((n : Int) < 0) = false := decide_eq_false (by omega)
  have d2 : decide ((29417584 : Int) < (n : Int)) = false := decide_eq_false (by omega)
  have B0 := Lib.hid (kB_below (mkC true a1 a2 a3 a4 a5 a6 O K) mkZ 25 w)
  have X0 := Lib.hid (kB_box (mkC true a1 a2 a3 a4 a5 a6 O K) mkZ 25 w)
  have R0 := Lib.hid (kB_res (mkC true a1 a2 a3 a4 a5 a6 O K) mkZ 25 w)
  go_enter Try.func8, Try.ntmps8
  go_wp2_with (first
    | (refine wp_make_ents w.heap.size n hn B0.out.size _ _ rfl rfl rfl rfl ?_; go_must (intro oA oc w1 ho hb1; have B1 := Lib.hid (bnext B0.out hb1); have X1 := Lib.hid (X0.out.below hb1); have R1 := Lib.hid (R0.out.below hb1); have O1 := Lib.hid (own_varCell ho X1.out (by decide) 7 (.slice oA n oc)); have B1' := Lib.hid (B1.out.setCell (p := ⟨w.heap.size, 7, none⟩) (Nat.le_refl _) (.slice oA n oc)); have X1' : Hid (Bk (w1.setCell ⟨w.heap.size, 7, none⟩ (.slice oA n oc)) w.heap.size 25 (mkC true a1 a2 a3 a4 a5 a6 (.slice oA n oc) K)) := Lib.hid (by have := X1.out.set 7 (.slice oA n oc); simpa using this); have R1' := Lib.hid (R1.out.far (p := ⟨w.heap.size, 7, none⟩) (by simp) (.slice oA n oc)); obtain ⟨c0, c7, c8, cf⟩ := X1.out.nine; have cl := X1.out.lt; clear ho hb1))
    | (refine wp_make_bools w.heap.size n hn B1'.out.size _ _ rfl rfl rfl rfl ?_; go_must (intro kA kc w2 ho hb1; have B2 := Lib.hid (bnext B1'.out hb1); have X2 := Lib.hid (X1'.out.below hb1); have R2 := Lib.hid (R1'.out.below hb1); have O2 := Lib.hid (own_below O1.out hb1); have K2 := Lib.hid ho; have X3 : Hid (Bk (w2.setCell ⟨w.heap.size, 8, none⟩ (.slice kA n kc)) w.heap.size 25 (mkC true a1 a2 a3 a4 a5 a6 (.slice oA n oc) (.slice kA n kc))) := Lib.hid (by have := X2.out.set 8 (.slice kA n kc); simpa using this); have R3 := Lib.hid (R2.out.far (p := ⟨w.heap.size, 8, none⟩) (by simp) (.slice kA n kc)); have B3 := Lib.hid (Below.setCell (p := ⟨w.heap.size, 8, none⟩) B2.out (Nat.le_refl _) (.slice kA n kc)); have O3 := Lib.hid (own_varCell O2.out X2.out (by decide) 8 (.slice kA n kc)); have K3 := Lib.hid (own_varCell K2.out X2.out (by decide) 8 (.slice kA n kc)); clear c0 c7 c8 cf cl; obtain ⟨c0, c7, c8, cf⟩ := X2.out.nine; have cl := X2.out.lt; clear ho hb1))
    | (with_reducible refine ld_mk w.heap.size X3.out _ rfl rfl rfl ?_)
    | (with_reducible refine st_mk (w.heap.size + 1) R3.out rfl rfl rfl _ _ rfl rfl rfl rfl ?_))
  obtain ⟨t1, t2⟩ := begin_tail B3.out O3.out K3.out _ R3.out (mkC true a1 a2 a3 a4 a5 a6 (.slice oA n oc) (.slice kA n kc))
  exact bodyPost_ret (v := .agg (mkC true a1 a2 a3 a4 a5 a6 (.slice oA n oc) (.slice kA n kc))) (results_cell_row rfl _ _ (w.heap.size + 1) _ _ (0, 0) _ rfl (Bk.setRow R3.out _) Try.underlying25 rfl infoMk) rfl ⟨oA, oc, kA, kc, rfl, t1, t2⟩

set_option maxHeartbeats 4000000 in
theorem begin_neg (w : World) :
    Calls Try.prog 8 #[.agg (mkC on a1 a2 a3 a4 a5 a6 O K), .int .i64 (-1)] w (MkPost true a1 a2 a3 a4 a5 a6 0 (beginS 0) w) := by
  have B0 := Lib.hid (kB_below (mkC true a1 a2 a3 a4 a5 a6 O K) mkZ 25 w)
  have X0 := Lib.hid (kB_box (mkC true a1 a2 a3 a4 a5 a6 O K) mkZ 25 w)
  have R0 := Lib.hid (kB_res (mkC true a1 a2 a3 a4 a5 a6 O K) mkZ 25 w)
  go_enter Try.func8, Try.ntmps8
  go_wp2_with (first
    | (refine wp_make_ents w.heap.size 0 (by decide) B0.out.size _ _ rfl rfl rfl rfl ?_; go_must (intro oA oc w1 ho hb1; have B1 := Lib.hid (bnext B0.out hb1); have X1 := Lib.hid (X0.out.below hb1); have R1 := Lib.hid (R0.out.below hb1); have O1 := Lib.hid (own_varCell ho X1.out (by decide) 7 (.slice oA 0 oc)); have B1' := Lib.hid (B1.out.setCell (p := ⟨w.heap.size, 7, none⟩) (Nat.le_refl _) (.slice oA 0 oc)); have X1' : Hid (Bk (w1.setCell ⟨w.heap.size, 7, none⟩ (.slice oA 0 oc)) w.heap.size 25 (mkC true a1 a2 a3 a4 a5 a6 (.slice oA 0 oc) K)) := Lib.hid (by have := X1.out.set 7 (.slice oA 0 oc); simpa using this); have R1' := Lib.hid (R1.out.far (p := ⟨w.heap.size, 7, none⟩) (by simp) (.slice oA 0 oc)); obtain ⟨c0, c7, c8, cf⟩ := X1.out.nine; have cl := X1.out.lt; clear ho hb1))
    | (refine wp_make_bools w.heap.size 0 (by decide) B1'.out.size _ _ rfl rfl rfl rfl ?_; go_must (intro kA kc w2 ho hb1; have B2 := Lib.hid (bnext B1'.out hb1); have X2 := Lib.hid (X1'.out.below hb1); have R2 := Lib.hid (R1'.out.below hb1); have O2 := Lib.hid (own_below O1.out hb1); have K2 := Lib.hid ho; have X3 : Hid (Bk (w2.setCell ⟨w.heap.size, 8, none⟩ (.slice kA 0 kc)) w.heap.size 25 (mkC true a1 a2 a3 a4 a5 a6 (.slice oA 0 oc) (.slice kA 0 kc))) := Lib.hid (by have := X2.out.set 8 (.slice kA 0 kc); simpa using this); have R3 := Lib.hid (R2.out.far (p := ⟨w.heap.size, 8, none⟩) (by simp) (.slice kA 0 kc)); have B3 := Lib.hid (Below.setCell (p := ⟨w.heap.size, 8, none⟩) B2.out (Nat.le_refl _) (.slice kA 0 kc)); have O3 := Lib.hid (own_varCell O2.out X2.out (by decide) 8 (.slice kA 0 kc)); have K3 := Lib.hid (own_varCell K2.out X2.out (by decide) 8 (.slice kA 0 kc)); clear c0 c7 c8 cf cl; obtain ⟨c0, c7, c8, cf⟩ := X2.out.nine; have cl := X2.out.lt; clear ho hb1))
    | (with_reducible refine ld_mk w.heap.size X3.out _ rfl rfl rfl ?_)
    | (with_reducible refine st_mk (w.heap.size + 1) R3.out rfl rfl rfl _ _ rfl rfl rfl rfl ?_))
  obtain ⟨t1, t2⟩ := begin_tail B3.out O3.out K3.out _ R3.out (mkC true a1 a2 a3 a4 a5 a6 (.slice oA 0 oc) (.slice kA 0 kc))
  exact bodyPost_ret (v := .agg (mkC true a1 a2 a3 a4 a5 a6 (.slice oA 0 oc) (.slice kA 0 kc))) (results_cell_row rfl _ _ (w.heap.size + 1) _ _ (0, 0) _ rfl (Bk.setRow R3.out _) Try.underlying25 rfl infoMk) rfl ⟨oA, oc, kA, kc, rfl, t1, t2⟩

set_option maxHeartbeats 8000000 in
theorem rbegin_any (n : Nat) (hn : n ≤ 1000) (w : World) :
    Calls Try.prog 9 #[.agg (mkC on a1 a2 a3 a4 a5 a6 O K), .int .i64 (n : Int)] w (MkPost true a1 a2 a3 a4 a5 a6 n (beginS n) w) := by
  obtain ⟨wr, hW⟩ : ∃ W, W = (w.alloc (.cells (mkC on a1 a2 a3 a4 a5 a6 O K) 25)).alloc (.cells mkZ 25) := ⟨_, rfl⟩
  have B0 : Hid (Below w.heap.size w wr) := Lib.hid (by rw [hW]; exact kB_below _ _ _ _)
  have X0 : Hid (Bk wr w.heap.size 25 (mkC on a1 a2 a3 a4 a5 a6 O K)) := Lib.hid (by rw [hW]; exact kB_box _ _ _ _)
  have R0 : Hid (Bk wr (w.heap.size + 1) 25 mkZ) := Lib.hid (by rw [hW]; exact kB_res _ _ _ _)
  have S0 : Hid (w.heap.size + 1 + 1 ≤ wr.heap.size) := Lib.hid (by rw [hW]; simp)
  go_enter Try.func9, Try.ntmps9
  go_wp2
  rw [← hW]
  clear hW
  try simp only [List.append_eq, List.cons_append, List.nil_append]
  have hD := below_drew1 wr
  refine wp_region_saysE 10 (bgV n w.heap.size) (BgH w n on a1 a2 a3 a4 a5 a6 O K) ⟨none, 0, none, 0⟩ ⟨bnext B0.out hD, Nat.le_trans S0.out hD.size, (fun h => by cases h), X0.out.below hD, R0.out.below hD, (fun h => by cases h), fun h => by cases h⟩ (by kernel_rfl) (by kernel_rfl) (by kernel_rfl) (by kernel_rfl) (by rfl) ?_ ?_
  · clear hD B0 X0 R0 S0
    simp only [List.take_succ_cons, List.take_zero]
    refine walkE_is (fun d x u X _ hh _ => hh.is (by simp)) (fun d x u X hh hd => ?_) ?_
    · clear hd
      go_simp
      try simp [hd]
      try rfl
    refine walkE_is (fun d x u X _ hh _ => hh.is (by simp)) (fun d x u X hh hd => ?_) ?_
    · simp [bgV] at hd
      go_simp
      try simp [hd]
      show Value.int .i64 _ = Value.int .i64 (n : Int)
      congr 1
      split <;> omega
    refine walkE_new (fun d x u X h1 hh hd => ?_) ?_
    · simp [bgV] at hd
      refine new_ents _ X _ w.heap.size n hn hh.below.size _ _ rfl (by simp [look, findAt, hd]) (by simp [look, findAt, hd]) fun A k w' hb ho => ⟨{ x with oA := A, oc := k }, rfl, bgV_same2 h1, hh.step2 h1 ho hb⟩
    refine walkE_is (fun d x u X _ hh _ => hh.is (by simp)) (fun d x u X hh hd => ?_) ?_
    · clear hd
      go_simp
      try simp [hd]
      try rfl
    refine walkE_is (fun d x u X _ hh _ => hh.is (by simp)) (fun d x u X hh hd => ?_) ?_
    · simp [bgV] at hd
      go_simp
      try simp [hd]
      show Value.int .i64 _ = Value.int .i64 (n : Int)
      congr 1
      split <;> omega
    refine walkE_new (fun d x u X h1 hh hd => ?_) ?_
    · simp [bgV] at hd
      refine new_bools _ X _ w.heap.size n hn hh.below.size _ _ rfl (by simp [look, findAt, hd]) (by simp [look, findAt, hd]) fun A k w' hb ho => ⟨{ x with kA := A, kc := k }, rfl, bgV_same5 h1, hh.step5 ho hb⟩
    refine walkE_is (fun d x u X _ hh _ => hh.is (by simp)) (fun d x u X hh hd => ?_) ?_
    · clear hd
      go_simp
      try simp [hd]
      try rfl
    refine walkE_store (fun x => rfl) (fun d x u X h1 hh hd => ?_) ?_
    · simp [bgV] at hd
      have c := hh.box.cell 0
      have cf := hh.box.frozen 0
      have cl := hh.box.lt
      refine ⟨_, ?_, hh.step7⟩
      go_simp
      try simp [hd, c, cf]
    refine walkE_is (fun d x u X _ hh _ => hh.is (by simp)) (fun d x u X hh hd => ?_) ?_
    · clear hd
      go_simp
      try simp [hd]
      try rfl
    refine walkE_store (fun x => rfl) (fun d x u X h1 hh hd => ?_) ?_
    · simp [bgV] at hd
      have c := hh.box.cell 7
      have cf := hh.box.frozen 7
      have cl := hh.box.lt
      refine ⟨_, ?_, hh.step9 (by simp [hd])⟩
      go_simp
      try simp [hd, c, cf]
    exact trivial
  · intro d x X hd hh
    clear B0 X0 R0 S0 hD
    have e2 := hd 2 (by decide)
    have e5 := hd 5 (by decide)
    have e7 := hd 7 (by decide)
    have e9 := hd 9 (by decide)
    obtain ⟨oA, oc, kA, kc⟩ := x
    have X1 : Hid (Bk X w.heap.size 25 (mkC true a1 a2 a3 a4 a5 a6 (.slice oA n oc) K)) := Lib.hid (by have := hh.box; rw [e7, e9] at this; exact this)
    have X4 : Hid (Bk (X.setCell ⟨w.heap.size, 8, none⟩ (.slice kA n kc)) w.heap.size 25 (mkC true a1 a2 a3 a4 a5 a6 (.slice oA n oc) (.slice kA n kc))) := Lib.hid (by have := X1.out.set 8 (.slice kA n kc); simpa using this)
    have R4 := Lib.hid (hh.res.far (p := ⟨w.heap.size, 8, none⟩) (by simp) (.slice kA n kc))
    have B4 := Lib.hid (Below.setCell (p := ⟨w.heap.size, 8, none⟩) hh.below (Nat.le_refl _) (.slice kA n kc))
    have O4 := Lib.hid (own_varCell (hh.old e2) X1.out (by decide) 8 (.slice kA n kc))
    have K4 := Lib.hid (own_varCell (hh.kept e5) X1.out (by decide) 8 (.slice kA n kc))
    obtain ⟨c0, c7, c8, cf⟩ := X1.out.nine
    have cl := X1.out.lt
    clear hh hd e2 e5 e7 e9
    simp only [putAll, Act.put, bgV, List.take_succ_cons, List.take_zero, List.drop_succ_cons, List.drop_zero, List.setIfInBounds_toArray, List.set_cons_succ, List.set_cons_zero]
    go_wp2_with (first
      | (with_reducible refine ld_mk w.heap.size X4.out _ rfl rfl rfl ?_)
      | (with_reducible refine st_mk (w.heap.size + 1) R4.out rfl rfl rfl _ _ rfl rfl rfl rfl ?_))
    obtain ⟨t1, t2⟩ := begin_tail B4.out O4.out K4.out _ R4.out (mkC true a1 a2 a3 a4 a5 a6 (.slice oA n oc) (.slice kA n kc))
    exact bodyPost_ret (v := .agg (mkC true a1 a2 a3 a4 a5 a6 (.slice oA n oc) (.slice kA n kc))) (results_cell_row rfl _ _ (w.heap.size + 1) _ _ (0, 0) _ rfl (Bk.setRow R4.out _) Try.underlying25 rfl infoMk) rfl ⟨oA, oc, kA, kc, rfl, t1, t2⟩

end
end Go.Proofs.Ytgoamkneenmbgaa
