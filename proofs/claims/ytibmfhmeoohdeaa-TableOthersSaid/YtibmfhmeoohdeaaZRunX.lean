/-
  Blocks that are the same in the cells that a command gets, filled in one by one; a single cell of a list of blocks; the first so many of a slice. No conditions but those that stand there.
-/
import Derived.Test.YtibmfhmeoohdeaaZMchC
import Derived.Test.YtibmfhmeoohdeaaQStr
import Derived.Lib.Agree
namespace Go.Proofs.Ytibmfhmeoohdeaa
open Go Go.RowKit

/-- the first instructions' cells are the same. -/
structure Filled (c : Cmd) (own : Blks) (i : Nat) (xs : Blks) : Prop where
  len : xs.length = own.length
  cells : ∀ b ∈ xs, b.length = 8
  gets : ∀ j, j < i → (insAt c.code j).op = 4 → getC (own[(insAt c.code j).a.toNat]?.getD []) (insAt c.code j).b = getC (xs[(insAt c.code j).a.toNat]?.getD []) (insAt c.code j).b

theorem Filled.start {c : Cmd} {own xs : Blks} (h : xs.length = own.length) (h8 : ∀ b ∈ xs, b.length = 8) : Filled c own 0 xs := ⟨h, h8, fun _ hj => absurd hj (by omega)⟩

theorem Filled.skip {c : Cmd} {own xs : Blks} {i : Nat} (h : Filled c own i xs) (ho : (insAt c.code i).op ≠ 4) : Filled c own (i + 1) xs :=
  ⟨h.len, h.cells, fun j hj hop => by
    by_cases e : j = i
    · subst e
      exact absurd hop ho
    · exact h.gets j (by omega) hop⟩

theorem Filled.put {c : Cmd} {own xs : Blks} {i : Nat} (h : Filled c own i xs) {a b : Nat} (hx : insAt c.code i = ⟨4, a, b⟩) (ha : a < own.length) (hb : b < 8) :
    Filled c own (i + 1) (xs.set a (putC (xs[a]?.getD []) b (getC (own[a]?.getD []) b))) := by
  have hxa : a < xs.length := by rw [h.len]; exact ha
  have h8 : (xs[a]?.getD []).length = 8 := by
    rw [List.getElem?_eq_getElem hxa]
    exact h.cells _ (List.getElem_mem _)
  refine ⟨by rw [List.length_set]; exact h.len, fun y hy => ?_, fun j hj hop => ?_⟩
  · rcases List.mem_or_eq_of_mem_set hy with hy | rfl
    · exact h.cells y hy
    · rw [putC_length, h8]
  · by_cases e : j = i
    · subst e
      rw [hx]
      simp only [Int.toNat_natCast]
      rw [List.getElem?_set_self hxa, Option.getD_some, getC_putC h8, if_pos ⟨rfl, by omega⟩]
    · have ih := h.gets j (by omega) hop
      by_cases ea : (insAt c.code j).a.toNat = a
      · rw [ea] at ih ⊢
        rw [List.getElem?_set_self hxa, Option.getD_some, getC_putC h8]
        split
        · next q => rw [q.1]
        · exact ih
      · rw [List.getElem?_set_ne (Ne.symm ea)]
        exact ih

theorem Filled.agree {c : Cmd} {own xs : Blks} (h : Filled c own c.code.length xs) (h8 : ∀ b ∈ own, b.length = 8) : Agree c own xs :=
  ⟨h.len.symm, h8, h.cells, fun x hx hop => by
    obtain ⟨j, hj, rfl⟩ := List.getElem_of_mem hx
    have e : insAt c.code j = c.code[j] := by rw [insAt, List.getElem?_eq_getElem hj]; rfl
    have := h.gets j hj (by rw [e]; exact hop)
    rw [e] at this
    exact this⟩

/-- a single cell of a list of blocks. -/
theorem blksW_put (own : Blks) (h8 : ∀ b ∈ own, b.length = 8) {a b : Nat} (ha : a < own.length) (hb : b < 8) (v : Int) : (blksW own).set (a * 8 + b) (.int .i64 v) = blksW (own.set a (putC (own[a]?.getD []) b v)) := by
  have hl8 : (own[a]?.getD []).length = 8 := by
    rw [List.getElem?_eq_getElem ha]
    exact h8 _ (List.getElem_mem _)
  have h8' : ∀ x ∈ own.set a (putC (own[a]?.getD []) b v), x.length = 8 := fun x hx => by
    rcases List.mem_or_eq_of_mem_set hx with hx | rfl
    · exact h8 x hx
    · rw [putC_length, hl8]
  have hl := blksW_length own h8
  have hl' := blksW_length _ h8'
  rw [List.length_set] at hl'
  apply List.ext_getElem?
  intro i
  by_cases hi : i < own.length * 8
  · have hp : i / 8 < own.length := by omega
    have hq : i % 8 < 8 := by omega
    have e : i / 8 * 8 + i % 8 = i := by omega
    have e1 := blksW_at own h8 (i / 8) hp (i % 8) hq
    have e2 := blksW_at _ h8' (i / 8) (by simpa using hp) (i % 8) hq
    rw [e] at e1 e2
    rw [e2]
    by_cases hij : i / 8 = a
    · rw [hij, List.getElem?_set_self ha, Option.getD_some]
      by_cases hib : i % 8 = b
      · rw [show a * 8 + b = i by omega, List.getElem?_set_self (by omega), hib]
        simp [putC, show (b : Int) < 8 by omega, hl8, hb]
      · rw [List.getElem?_set_ne (by omega), e1, hij]
        congr 2
        unfold putC
        split
        · rw [List.getElem?_set_ne (by omega)]
        · rfl
    · rw [List.getElem?_set_ne (by omega), List.getElem?_set_ne (Ne.symm hij), e1]
  · rw [List.getElem?_eq_none (by rw [List.length_set]; omega), List.getElem?_eq_none (by omega)]

theorem blksW_take (own : Blks) (h8 : ∀ b ∈ own, b.length = 8) (k : Nat) (hk : k ≤ own.length) : (blksW own).take (k * 8) = blksW (own.take k) := by
  have h8' : ∀ x ∈ own.take k, x.length = 8 := fun x hx => h8 x (List.mem_of_mem_take hx)
  have h8d : ∀ x ∈ own.drop k, x.length = 8 := fun x hx => h8 x (List.mem_of_mem_drop hx)
  have e : blksW own = blksW (own.take k) ++ blksW (own.drop k) := by
    unfold blksW
    rw [← List.flatMap_append, List.take_append_drop]
  have hl := blksW_length _ h8'
  rw [List.length_take, Nat.min_eq_left hk] at hl
  rw [e, List.take_append_of_le_length (by omega), List.take_of_length_le (by omega)]

/-- the first so many of a slice. -/
theorem Sl.take {w : World} {size n c k : Nat} {A : Option Addr} {xs : List Value} (h : Sl w size A n c xs) (hk : k ≤ n) : Sl w size A k c (xs.take (k * size)) := by
  have hle : k * size ≤ n * size := Nat.mul_le_mul_right _ hk
  refine ⟨by rw [List.length_take, h.1]; omega, Nat.le_trans hk h.2.1, fun e => ?_, fun h0 => ?_⟩
  · have := h.2.2.1 e
    omega
  · obtain ⟨b, off, e, hb, hc⟩ := h.2.2.2 (by omega)
    exact ⟨b, off, e, hb, fun j hj => by rw [hc j (by omega), List.getElem?_take, if_pos hj]⟩

theorem run_slice_to {P : Program} (w : World) (t e : TypeId) (i : TypeInfo) (hu : P.underlying t = some (.slice e)) (hi : P.info? e = some i) (A : Option Addr) (n c k : Nat) (hk : k ≤ c) :
    (Instr.sliceAt t (.slice A n c) none (some (.int .i64 (k : Int))) none).run P w = .ok (.slice A k c) w := by
  have hm : ¬ c < k := by omega
  cases A with
  | none => simp [Instr.sliceAt, Instr.slice, Instr.sliceBounds, Instr.sliceBound, run_underlying hu, asIntOf, sizeOf, typeInfo, hi, go_sem, hm]
  | some a => simp [Instr.sliceAt, Instr.slice, Instr.sliceBounds, Instr.sliceBound, run_underlying hu, asIntOf, sizeOf, typeInfo, hi, go_sem, hm]

theorem wpList_slice_to {P : Program} {ops : Array Oper} {rest : List Oper} {o : Oper} {a : Act} {w : World} {Q : Exit → Act → World → Prop} (x y : Operand) (t e : TypeId) (i : TypeInfo) (hu : P.underlying t = some (.slice e)) (hi : P.info? e = some i)
    (A : Option Addr) (n c k : Nat) (hk : k ≤ c) (ho : o.op = .slice t x none (some y) none) (hx : a.eval x = .slice A n c) (hy : a.eval y = .int .i64 (k : Int)) (hw : Region.wanted o (yielded ops a.tmps) = true) (h : wpList P ops Q rest (a.put o.dst (.slice A k c)) w) : wpList P ops Q (o :: rest) a w :=
  BigFrame.wpList_want hw fun K hK => by
    unfold Oper.wp execOp
    simp only [ho, hx, hy, Option.map_some, Option.map_none, Sem.run_bind, run_slice_to w t e i hu hi A n c k hk, Sem.run_pure, Result.andThen_ok]
    exact hK _ _ h

end Go.Proofs.Ytibmfhmeoohdeaa
