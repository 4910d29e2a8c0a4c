/-
  awake of layer 13's laws: true, in whatever memory.
-/
import Derived.Test.YtgoamkneenmbgaaShdC
namespace Go.Proofs.Ytgoamkneenmbgaa
open Go.RowKit

def e13 (s : Int) : Ent := ⟨[0, 0, 0, 0, 0, 0, 0, 0], s⟩
abbrev l13 : List Ent := [e13 1, e13 2]
abbrev n13 : List Ent := [e13 1, e13 9]
abbrev o13 : List Ent := [entZ, e13 2]
abbrev cells13 (a b : Int) : Array Value := #[.int .i64 0, .int .i64 0, .int .i64 0, .int .i64 0, .int .i64 0, .int .i64 0, .int .i64 0, .int .i64 0, .int .i64 a, .int .i64 0, .int .i64 0, .int .i64 0, .int .i64 0, .int .i64 0, .int .i64 0, .int .i64 0, .int .i64 0, .int .i64 b]
theorem ents13 {a b : Int} {w : World} {g : Nat} (hk : Bk w g 34 (cells13 a b)) : Ents w (some ⟨g, 0, none⟩) 2 [e13 a, e13 b] := by
  refine ⟨rfl, Nat.le_refl _, fun h => (by cases h), fun _ => ⟨_, _, rfl, hk.lt, fun j hj => ?_⟩⟩
  have hj : j < 18 := hj
  rw [Nat.zero_add, hk.cell j]
  rcases j with _ | _ | _ | _ | _ | _ | _ | _ | _ | _ | _ | _ | _ | _ | _ | _ | _ | _ | j
  all_goals first | rfl | omega
theorem eight13 (a b : Int) : Eight [e13 a, e13 b] := by intro e he; simp at he; rcases he with rfl | rfl <;> rfl
theorem keep13a : keepS ⟨true, (beginS 2).old, (beginS 2).kept⟩ l13 1 = ⟨true, o13, [false, true]⟩ := by kernel_rfl
theorem keep13b : keepS ⟨true, o13, [false, true]⟩ n13 1 = ⟨true, o13, [false, true]⟩ := by kernel_rfl
theorem see13a : seeS ⟨true, o13, [false, true]⟩ n13 1 = e13 2 := by kernel_rfl
theorem see13b : seeS ⟨true, o13, [false, true]⟩ n13 0 = e13 1 := by kernel_rfl
theorem see13c : seeS ⟨false, [], []⟩ n13 1 = e13 9 := by kernel_rfl
theorem see13d : seeS ⟨true, o13, [false, true]⟩ n13 2 = entZ := by kernel_rfl
theorem mk_none (w : World) : MkIn w [] [] none 0 0 none 0 0 := ⟨rfl, rfl, (fun e he => by simp at he), ⟨rfl, Nat.le_refl _, fun _ => ⟨rfl, rfl⟩, fun h => absurd h (by omega)⟩, ⟨rfl, Nat.le_refl _, fun _ => ⟨rfl, rfl⟩, fun h => absurd h (by omega)⟩⟩

/-- a variable more: a mark. -/
theorem varK_below (w : World) (cs : Array Value) : Below w.heap.size w ((w.alloc (.cells mkZ 25)).setRow w.heap.size cs) := below_row (below_alloc1 _ _) (Nat.le_refl _) _
theorem varK_bk (w : World) (cs : Array Value) : Bk ((w.alloc (.cells mkZ 25)).setRow w.heap.size cs) w.heap.size 25 cs := Bk.setRow (Bk.new _ _ _) _

abbrev m13 (oA : Option Addr) (oc : Nat) (kA : Option Addr) (kc : Nat) : Array Value := mkC true 0 5 0 0 0 0 (.slice oA 2 oc) (.slice kA 2 kc)

theorem eq13 (W : World) : (binOp .eql 34 (.agg (bkC (entI entZ))) (.agg (bkC (entI entZ)))).run Try.prog W = .ok (.bool true) W := by
  rw [eql_ent W entZ_eight entZ_eight, decide_eq_true rfl]

theorem wpList_eqop_at {ops : Array Oper} {rest : List Oper} {o : Oper} {a : Act} {w : World} {Q : Exit → Act → World → Prop} {cs cs' : Array Value} (op : BinOp) (hop : op = .eql ∨ op = .neq) (ty : TypeId) (r : Bool) (hg : Try.prog.eqGuardType Try.prog.depth ty = false) (hl : (binOp op ty (.agg cs) (.agg cs')).run Try.prog w = .ok (.bool r) w) (x y : Operand) (t : TypeId)
    (ho : o.op = .binOp op ty x y t) (hx : a.eval x = .agg cs) (hy : a.eval y = .agg cs') (hw : Region.wanted o (yielded ops a.tmps) = true) (h : wpList Try.prog ops Q rest (a.put o.dst (.bool r)) w) : wpList Try.prog ops Q (o :: rest) a w :=
  BigFrame.wpList_want hw fun K hK => by
    unfold Oper.wp execOp
    rcases hop with rfl | rfl <;>
    · simp only [ho, hx, hy, Sem.run_bind, run_eqGuard_agg w _ _ _ _ _ _ hg, Sem.run_pure, Result.andThen_ok, hl]
      exact hK _ _ h

set_option maxRecDepth 100000 in
set_option maxHeartbeats 8000000 in
theorem awake13 (w : World) : Calls Try.prog 7 #[] w fun e w' => e = .returned (.bool true) ∧ Below w.heap.size w w' := by
  have hbe : Hid (∀ W : World, Calls Try.prog 8 #[.agg (mkC false 0 5 0 0 0 0 (.slice none 0 0) (.slice none 0 0)), .int .i64 2] W (MkPost true 0 5 0 0 0 0 2 (beginS 2) W)) := Lib.hid (fun W => begin_any false 0 5 0 0 0 0 _ _ 2 (by decide) W)
  have hbn : Hid (∀ W : World, Calls Try.prog 8 #[.agg (mkC false 0 0 0 0 0 0 (.slice none 0 0) (.slice none 0 0)), .int .i64 (-1)] W (MkPost true 0 0 0 0 0 0 0 (beginS 0) W)) := Lib.hid (fun W => begin_neg false 0 0 0 0 0 0 _ _ W)
  have hk1 : Hid (∀ (W : World) (oA : Option Addr) (oc : Nat) (kA : Option Addr) (kc : Nat) (lA : Option Addr) (lc : Nat), MkIn W (beginS 2).old (beginS 2).kept oA 2 oc kA 2 kc → Ents W lA lc l13 → Calls Try.prog 10 #[.agg (m13 oA oc kA kc), .slice lA 2 lc, .int .i64 1] W (MkPost true 0 5 0 0 0 0 2 ⟨true, o13, [false, true]⟩ W)) := Lib.hid (fun W oA oc kA kc lA lc h1 h2 => by
    have := keep_any true 0 5 0 0 0 0 oA 2 oc kA kc _ _ l13 lA 2 lc 1 W h1 h2 (eight13 1 2) rfl (by decide)
    rwa [keep13a] at this)
  have hk2 : Hid (∀ (W : World) (oA : Option Addr) (oc : Nat) (kA : Option Addr) (kc : Nat) (lA : Option Addr) (lc : Nat), MkIn W o13 [false, true] oA 2 oc kA 2 kc → Ents W lA lc n13 → Calls Try.prog 10 #[.agg (m13 oA oc kA kc), .slice lA 2 lc, .int .i64 1] W (MkPost true 0 5 0 0 0 0 2 ⟨true, o13, [false, true]⟩ W)) := Lib.hid (fun W oA oc kA kc lA lc h1 h2 => by
    have := keep_any true 0 5 0 0 0 0 oA 2 oc kA kc _ _ n13 lA 2 lc 1 W h1 h2 (eight13 1 9) rfl (by decide)
    rwa [keep13b] at this)
  have hs1 : Hid (∀ (W : World) (oA : Option Addr) (oc : Nat) (kA : Option Addr) (kc : Nat) (lA : Option Addr) (lc : Nat), MkIn W o13 [false, true] oA 2 oc kA 2 kc → Ents W lA lc n13 → Calls Try.prog 13 #[.agg (m13 oA oc kA kc), .slice lA 2 lc, .int .i64 1] W fun e w' => e = .returned (.agg #[.int .i64 0, .int .i64 0, .int .i64 0, .int .i64 0, .int .i64 0, .int .i64 0, .int .i64 0, .int .i64 0, .int .i64 2]) ∧ Below W.heap.size W w') := Lib.hid (fun W oA oc kA kc lA lc h1 h2 => by
    have := see_any true 0 5 0 0 0 0 oA 2 oc kA kc _ _ n13 lA 2 lc 1 W h1 h2 (eight13 1 9) rfl
    rwa [see13a] at this)
  have hs2 : Hid (∀ (W : World) (oA : Option Addr) (oc : Nat) (kA : Option Addr) (kc : Nat) (lA : Option Addr) (lc : Nat), MkIn W o13 [false, true] oA 2 oc kA 2 kc → Ents W lA lc n13 → Calls Try.prog 13 #[.agg (m13 oA oc kA kc), .slice lA 2 lc, .int .i64 0] W fun e w' => e = .returned (.agg #[.int .i64 0, .int .i64 0, .int .i64 0, .int .i64 0, .int .i64 0, .int .i64 0, .int .i64 0, .int .i64 0, .int .i64 1]) ∧ Below W.heap.size W w') := Lib.hid (fun W oA oc kA kc lA lc h1 h2 => by
    have := see_any true 0 5 0 0 0 0 oA 2 oc kA kc _ _ n13 lA 2 lc 0 W h1 h2 (eight13 1 9) rfl
    rwa [see13b] at this)
  have hs3 : Hid (∀ (W : World) (lA : Option Addr) (lc : Nat), Ents W lA lc n13 → Calls Try.prog 13 #[.agg (mkC false 0 0 0 0 0 0 (.slice none 0 0) (.slice none 0 0)), .slice lA 2 lc, .int .i64 1] W fun e w' => e = .returned (.agg #[.int .i64 0, .int .i64 0, .int .i64 0, .int .i64 0, .int .i64 0, .int .i64 0, .int .i64 0, .int .i64 0, .int .i64 9]) ∧ Below W.heap.size W w') := Lib.hid (fun W lA lc h2 => by
    have := see_any false 0 0 0 0 0 0 none 0 0 none 0 _ _ n13 lA 2 lc 1 W (mk_none W) h2 (eight13 1 9) rfl
    rwa [see13c] at this)
  have hs4 : Hid (∀ (W : World) (oA : Option Addr) (oc : Nat) (kA : Option Addr) (kc : Nat) (lA : Option Addr) (lc : Nat), MkIn W o13 [false, true] oA 2 oc kA 2 kc → Ents W lA lc n13 → Calls Try.prog 13 #[.agg (m13 oA oc kA kc), .slice lA 2 lc, .int .i64 2] W fun e w' => e = .returned (.agg #[.int .i64 0, .int .i64 0, .int .i64 0, .int .i64 0, .int .i64 0, .int .i64 0, .int .i64 0, .int .i64 0, .int .i64 0]) ∧ Below W.heap.size W w') := Lib.hid (fun W oA oc kA kc lA lc h1 h2 => by
    have := see_any true 0 5 0 0 0 0 oA 2 oc kA kc _ _ n13 lA 2 lc 2 W h1 h2 (eight13 1 9) rfl
    rwa [see13d] at this)
  have heq := Lib.hid eq13
  have hf1 : ∀ (x : Int) (W : World), (Instr.field 34 (.agg #[.int .i64 0, .int .i64 0, .int .i64 0, .int .i64 0, .int .i64 0, .int .i64 0, .int .i64 0, .int .i64 0, .int .i64 x]) 1).run Try.prog W = .ok (.int .i64 x) W := fun x W => by kernel_rfl
  have hf2 : ∀ (O K : Value) (W : World), (Instr.field 25 (.agg #[.bool true, .int .i64 0, .int .i64 0, .int .i64 0, .int .i64 0, .int .i64 0, .int .i64 0, O, K]) 7).run Try.prog W = .ok O W := fun O K W => by kernel_rfl
  have nA : True := trivial
  have nB : True := trivial
  have nC : True := trivial
  have B0 := Lib.hid (below_alloc1 w (.cells (cells13 1 2) 34))
  have L0 := Lib.hid (ents13 (Bk.new w 34 (cells13 1 2)))
  go_enter Try.func7, Try.ntmps7
  go_wp2_with (first
    | (go_at_call 8; clear nA; go_must ((with_reducible refine (hbe.out _).mono ?_); rintro e w1 ⟨oA, oc, kA, kc, rfl, hM, hb⟩; have L1 := Lib.hid ((L0.out.below hb).below (varK_below w1 (m13 oA oc kA kc))); have B1 := Lib.hid (bnext (bnext B0.out hb) (varK_below w1 (m13 oA oc kA kc))); have M1 := Lib.hid (hM.below (varK_below w1 (m13 oA oc kA kc))); have V1 := Lib.hid (varK_bk w1 (m13 oA oc kA kc)); have N1 := Lib.hid (Bk.new w1 25 mkZ); have Z1 : w.heap.size ≤ w1.heap.size := (bnext B0.out hb).size; clear hM hb))
    | (with_reducible refine st_mk w1.heap.size N1.out rfl rfl rfl _ _ rfl rfl rfl rfl ?_)
    | (with_reducible refine ld_mk w1.heap.size V1.out _ rfl rfl rfl ?_)
    | (go_at_call 10; clear nB; go_must ((with_reducible refine (hk1.out _ _ _ _ _ _ _ M1.out.inn L1.out).mono ?_); rintro e w2 ⟨oA2, oc2, kA2, kc2, rfl, hM, hb⟩; have U2 := Lib.hid (V1.out.below hb); have M2 := Lib.hid ((hM.varRow U2.out (by decide) (by decide) (m13 oA2 oc2 kA2 kc2)).below (below_alloc1 _ (.cells (cells13 1 9) 34))); have V2 := Lib.hid (Bk.setRow U2.out (m13 oA2 oc2 kA2 kc2)); have V3 := Lib.hid (V2.out.alloc (.cells (cells13 1 9) 34)); have B2 := Lib.hid (bnext (below_row (bnext B1.out hb) Z1 (m13 oA2 oc2 kA2 kc2)) (below_alloc1 _ (.cells (cells13 1 9) 34))); have E2 : Hid (Bk ((w2.setRow w1.heap.size (m13 oA2 oc2 kA2 kc2)).alloc (.cells (cells13 1 9) 34)) w2.heap.size 34 (cells13 1 9)) := Lib.hid (by have := Bk.new (w2.setRow w1.heap.size (m13 oA2 oc2 kA2 kc2)) 34 (cells13 1 9); simpa using this); have L2 := Lib.hid (ents13 E2.out); clear hM hb))
    | (with_reducible refine st_mk w1.heap.size U2.out rfl rfl rfl _ _ rfl rfl rfl rfl ?_)
    | (with_reducible refine ld_mk w1.heap.size V3.out _ rfl rfl rfl ?_)
    | (go_at_call 10; go_must ((with_reducible refine (hk2.out _ _ _ _ _ _ _ M2.out.inn L2.out).mono ?_); rintro e w4 ⟨oA4, oc4, kA4, kc4, rfl, hM, hb⟩; obtain ⟨gk, cur, rfl, -⟩ := own_pos hM.ok (by decide); have U4 := Lib.hid (V3.out.below hb); have M4 := Lib.hid (hM.varRow U4.out (by decide) (by decide) (m13 oA4 oc4 (some ⟨gk, 0, none⟩) kc4)); have V4 := Lib.hid (Bk.setRow U4.out (m13 oA4 oc4 (some ⟨gk, 0, none⟩) kc4)); have B4 := Lib.hid (below_row (bnext B2.out hb) Z1 (m13 oA4 oc4 (some ⟨gk, 0, none⟩) kc4)); have L4 := Lib.hid (ents13 ((E2.out.below hb).farRow (U4.out.ne (E2.out.below hb) (by decide)) (m13 oA4 oc4 (some ⟨gk, 0, none⟩) kc4))); obtain ⟨b1, of1, hA1, -, hv1⟩ := M4.out.inn.sk.bool (j := 1) (by decide); obtain ⟨b0, of0, hA0, -, hv0⟩ := M4.out.inn.sk.bool (j := 0) (by decide); injection hA1 with hA1; injection hA1 with hA1 hA2; injection hA0 with hA0; injection hA0 with hA0 hA3; subst hA1; subst hA2; subst hA0; subst hA3; have hk4 : 2 ≤ kc4 := M4.out.inn.sk.2.1; simp only [List.getElem?_cons_zero, List.getElem?_cons_succ, Option.getD_some] at hv1 hv0; obtain ⟨c0, c1, c2, c3, c4, c5, c6, c7, c8, cf⟩ := V4.out.all9; have cl := V4.out.lt; clear hM hb))
    | (with_reducible refine st_mk w1.heap.size U4.out rfl rfl rfl _ _ rfl rfl rfl rfl ?_)
    | (refine wpList_load_at 25 w1.heap.size 0 (load_mk V4.out) _ rfl rfl rfl ?_)
    | (go_at_call 13; with_reducible refine (hs1.out _ _ _ _ _ _ _ M4.out.inn L4.out).mono ?_; go_must (rintro e w5 ⟨rfl, hb⟩; have L5 := Lib.hid (L4.out.below hb); have M5 := Lib.hid (M4.out.below hb); have V5 := Lib.hid (V4.out.below hb); have B5 := Lib.hid (bnext B4.out hb); clear hb))
    | (refine wpList_load_at 25 w1.heap.size 0 (load_mk V5.out) _ rfl rfl rfl ?_)
    | (go_at_call 13; with_reducible refine (hs2.out _ _ _ _ _ _ _ M5.out.inn L5.out).mono ?_; go_must (rintro e w6 ⟨rfl, hb⟩; have L6 := Lib.hid (L5.out.below hb); have M6 := Lib.hid (M5.out.below hb); have V6 := Lib.hid (V5.out.below hb); have B6 := Lib.hid (bnext B5.out hb); clear hb))
    | (refine wpList_load_at 25 w1.heap.size 0 (load_mk V6.out) _ rfl rfl rfl ?_)
    | (go_at_call 13; with_reducible refine (hs3.out _ _ _ L6.out).mono ?_; go_must (rintro e w7 ⟨rfl, hb⟩; have L7 := Lib.hid (L6.out.below hb); have M7 := Lib.hid (M6.out.below hb); have V7 := Lib.hid (V6.out.below hb); have B7 := Lib.hid (bnext B6.out hb); clear hb))
    | (refine wpList_load_at 25 w1.heap.size 0 (load_mk V7.out) _ rfl rfl rfl ?_)
    | (go_at_call 13; with_reducible refine (hs4.out _ _ _ _ _ _ _ M7.out.inn L7.out).mono ?_; go_must (rintro e w8 ⟨rfl, hb⟩; have L8 := Lib.hid (L7.out.below hb); have M8 := Lib.hid (M7.out.below hb); have V8 := Lib.hid (V7.out.below hb); have B8 := Lib.hid (bnext B7.out hb); clear hb))
    | (refine wpList_eqop_at .eql (.inl rfl) 34 true eqGuardEnt (heq.out _) _ _ _ rfl rfl rfl rfl ?_)
    | (go_at_call 8; go_must ((with_reducible refine (hbn.out _).mono ?_); rintro e w9 ⟨oA9, oc9, kA9, kc9, rfl, -, hb⟩; have B9 := Lib.hid (bnext B8.out hb); clear hb)))
  go_ret
  exact ⟨rfl, B9.out⟩

end Go.Proofs.Ytgoamkneenmbgaa
