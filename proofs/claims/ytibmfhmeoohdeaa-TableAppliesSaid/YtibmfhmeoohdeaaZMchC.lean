/-
  What machine.at (of ints, instructions, blocks, where the place is there), truth and made answer, in whatever memory. No conditions but those that stand there.
-/
import Derived.Test.YtibmfhmeoohdeaaZMchA
import Derived.Test.YtibmfhmeoohdeaaZMchB
import Derived.Test.YtibmfhmeoohdeaaZAsmW
namespace Go.Proofs.Ytibmfhmeoohdeaa
open Go.RowKit

/-- blocks' cells, one behind the other. -/
def blksW (own : Blks) : List Value := own.flatMap fun b => b.map (Value.int .i64)

theorem blksW_length : ∀ (own : Blks), (∀ b ∈ own, b.length = 8) → (blksW own).length = own.length * 8
  | [], _ => rfl
  | b :: l, h => by
    have ih := blksW_length l (fun x hx => h x (by simp [hx]))
    have hb := h b (by simp)
    unfold blksW at ih ⊢
    rw [List.flatMap_cons, List.length_append, List.length_map, ih, List.length_cons, hb]
    omega

theorem blksW_at : ∀ (own : Blks), (∀ b ∈ own, b.length = 8) → ∀ i, i < own.length → ∀ j, j < 8 → (blksW own)[i * 8 + j]? = some (.int .i64 ((own[i]?.getD [])[j]?.getD 0))
  | [], _, i, hi, _, _ => by simp at hi
  | b :: l, h, 0, _, j, hj => by
    have hb := h b (by simp)
    unfold blksW
    rw [List.flatMap_cons, List.getElem?_append_left (by simp; omega)]
    simp [show j < b.length by omega]
  | b :: l, h, i + 1, hi, j, hj => by
    have hb := h b (by simp)
    have ih := blksW_at l (fun x hx => h x (by simp [hx])) i (by simpa using hi) j hj
    unfold blksW at ih ⊢
    rw [List.flatMap_cons, List.getElem?_append_right (by simp; omega), List.length_map, show (i + 1) * 8 + j - b.length = i * 8 + j by omega, ih]
    simp

theorem blksW_one (own : Blks) : ∀ u ∈ blksW own, u.oneCell' = true := by
  intro u hu
  obtain ⟨b, _, hb⟩ := List.mem_flatMap.1 hu
  obtain ⟨x, _, rfl⟩ := List.mem_map.1 hb
  rfl

/-- a slice of blocks. -/
def Blocks (w : World) (A : Option Addr) (c : Nat) (own : Blks) : Prop := Sl w 8 A own.length c (blksW own)

theorem Blocks.below {w w' : World} {A : Option Addr} {c : Nat} {l : Blks} (h : Blocks w A c l) (hb : Below w.heap.size w w') : Blocks w' A c l := Sl.below h hb

/-- where a block lies in it. -/
theorem Blocks.range {w : World} {A : Option Addr} {c : Nat} {own : Blks} (h : Blocks w A c own) (h8 : ∀ b ∈ own, b.length = 8) {i : Nat} (hi : i < own.length) :
    ∃ b off, A = some ⟨b, off, none⟩ ∧ b < w.heap.size ∧ w.rangeAt b (off + i * 8) ((own[i]?.getD []).map (.int .i64)) := by
  obtain ⟨b, off, rfl, hb, hc⟩ := h.2.2.2 (by omega)
  refine ⟨b, off, rfl, hb, fun j v hv => ?_⟩
  have hl : (own[i]?.getD []).length = 8 := by
    rw [List.getElem?_eq_getElem hi]
    exact h8 _ (List.getElem_mem _)
  have hj : j < 8 := by
    rcases Nat.lt_or_ge j 8 with h1 | h1
    · exact h1
    · rw [List.getElem?_eq_none (by rw [List.length_map]; omega)] at hv; cases hv
  rw [Nat.add_assoc, hc (i * 8 + j) (by omega), blksW_at own h8 i hi j hj]
  rw [List.getElem?_map, List.getElem?_eq_getElem (by omega)] at hv
  simp only [Option.map_some, Option.some.injEq] at hv
  rw [← hv, List.getElem?_eq_getElem (by omega)]
  simp

theorem res2_row {fn : Func} {p q : Tmp} {ty : TypeId} (h : fn.results = #[.cell p ty, .tmp q]) (tmps : Array Value) (w : World) (g : Nat) (cs : Array Value) (x : Value)
    (hp : tmps.getD p undef = .pointer (some ⟨g, 0, none⟩)) (hq : tmps.getD q undef = x) (hl : (loadVar ty ⟨g, 0, none⟩).run Try.prog w = .ok (.agg cs) w) :
    (results fn tmps).run Try.prog w = .ok (.tuple #[.agg cs, x]) w := by
  have hp' : tmps[p]?.getD undef = .pointer (some ⟨g, 0, none⟩) := by simpa using hp
  have hq' : tmps[q]?.getD undef = x := by simpa using hq
  simp [results, h, hp', hq', asAddr, hl]

theorem res2_mach {fn : Func} {p q : Tmp} (hf : fn.results = #[.cell p 54, .tmp q]) (tmps : Array Value) (w : World) (g : Nat) {pc fuel : Int} {S : Value} {r0 r1 r2 r3 : Int} {O : Value} {ov : Bool} {e0 : Int} (x : Value)
    (hp : tmps.getD p undef = .pointer (some ⟨g, 0, none⟩)) (hq : tmps.getD q undef = x) (hk : Bk w g 54 (mC pc fuel S r0 r1 r2 r3 O ov e0)) : (results fn tmps).run Try.prog w = .ok (.tuple #[.agg (mC pc fuel S r0 r1 r2 r3 O ov e0), x]) w :=
  res2_row hf tmps w g _ x hp hq (run_loadVar_row w g _ _ _ (0, 0) _ hk Try.underlying54 rfl infoMc)

theorem atInt_in (b off n c i : Nat) (v : Int) (w : World) (hi : i < n) (hc : n ≤ c) (hv : w.cell? ⟨b, off + i, none⟩ = some (.int .i64 v)) :
    Calls Try.prog 54 #[.slice (some ⟨b, off, none⟩) n c, .int .i64 (i : Int)] w fun e w' => e = .returned (.tuple #[.int .i64 v, .bool true]) ∧ w = w' := by
  have d1 : (i : Int) < (n : Int) := by omega
  have d2 : (i : Int) < (c : Int) := by omega
  have d3 : decide ((n : Int) ≤ (i : Int)) = false := decide_eq_false (by omega)
  go_enter Try.func54, Try.ntmps54
  go_wp2
  go_ret2
  exact ⟨rfl, rfl⟩

theorem atIns_in (l : List Ins) (A : Option Addr) (c i : Nat) (w : World) (h : Inss w A c l) (hi : i < l.length) :
    Calls Try.prog 43 #[.slice A l.length c, .int .i64 (i : Int)] w fun e w' => e = .returned (.tuple #[.agg #[.int .i64 (insAt l i).op, .int .i64 (insAt l i).a, .int .i64 (insAt l i).b], .bool true]) ∧ Below w.heap.size w w' := by
  have hc := h.2.1
  have d1 : (i : Int) < (l.length : Int) := by omega
  have d2 : (i : Int) < (c : Int) := by omega
  obtain ⟨b, off, rfl, hbl, x0, x1, x2⟩ := h.cellAt (j := i) hi
  have hB := Lib.hid ((Below.refl w.heap.size w).alloc (Nat.le_refl _) (.cells #[.int .i64 (insAt l i).op, .int .i64 (insAt l i).a, .int .i64 (insAt l i).b] 51))
  generalize insAt l i = x at *
  generalize l.length = n at *
  clear h
  go_enter Try.func43, Try.ntmps43
  go_wp2
  exact bodyPost_ret (v := .tuple #[.agg #[.int .i64 x.op, .int .i64 x.a, .int .i64 x.b], .bool true]) (by simp [results, Try.results43, go_sem]) rfl ⟨rfl, hB.out⟩

theorem atBlk_in (own : Blks) (A : Option Addr) (c i : Nat) (w : World) (h : Blocks w A c own) (h8 : ∀ b ∈ own, b.length = 8) (hi : i < own.length) :
    Calls Try.prog 55 #[.slice A own.length c, .int .i64 (i : Int)] w fun e w' => e = .returned (.tuple #[.agg (bkC (own[i]?.getD [])), .bool true]) ∧ Below w.heap.size w w' := by
  have hc := h.2.1
  have d1 : (i : Int) < (own.length : Int) := by omega
  have d2 : (i : Int) < (c : Int) := by omega
  obtain ⟨b, off, rfl, hbl, hr⟩ := h.range h8 (i := i) hi
  have hl : (own[i]?.getD []).length = 8 := by
    rw [List.getElem?_eq_getElem hi]
    exact h8 _ (List.getElem_mem _)
  generalize own[i]?.getD [] = x at *
  generalize own.length = n at *
  have hR := Lib.hid (hr : w.rangeAt b (off + i * 8) (x.map (.int .i64)))
  have hB := Lib.hid ((Below.refl w.heap.size w).alloc (Nat.le_refl _) (.cells (bkC (List.replicate 8 0)) 43))
  have hN := Lib.hid (Bk.new w 43 (bkC (List.replicate 8 0)))
  rw [bkC_noughts] at hB hN
  have i8 : (Try.prog.info? 43).map (·.size) = some (x.map (Value.int .i64)).length := by rw [List.length_map, hl]; exact infoBlk8
  have i8' := infoBlk hl
  have s8 : (bkC x).size = 8 := by rw [bkC_size, hl]
  clear h h8 hr
  go_enter Try.func55, Try.ntmps55
  go_wp2_with (first
    | (refine wpList_load_mid rfl 43 _ rfl b (off + i * 8) rfl _ _ (World.rangeAt_alloc hR.out _) Try.underlying43 rfl i8 ?_)
    | (refine wpList_store_row rfl 43 _ _ rfl w.heap.size (bkC x) rfl rfl 43 _ hN.out i8' (by rw [s8]; rfl) (bkC_all x) ?_))
  exact bodyPost_ret (v := .tuple #[.agg (bkC x), .bool true]) (res2_row rfl _ _ w.heap.size _ _ rfl rfl (load_blk hl (Bk.setRow hN.out _))) rfl ⟨rfl, below_row hB.out (Nat.le_refl _) _⟩

theorem truth_any (b : Bool) (w : World) : Calls Try.prog 60 #[.bool b] w fun e w' => e = .returned (.int .i64 (if b then 1 else 0)) ∧ w = w' := by
  cases b
  · go_enter Try.func60, Try.ntmps60
    go_wp2
    go_ret
    exact ⟨rfl, rfl⟩
  · go_enter Try.func60, Try.ntmps60
    go_wp2
    go_ret
    exact ⟨rfl, rfl⟩

end Go.Proofs.Ytibmfhmeoohdeaa
