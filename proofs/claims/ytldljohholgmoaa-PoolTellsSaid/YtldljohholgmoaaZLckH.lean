/-
  Lists of lists in memory, made; a command whose blocks are there. They name no function of the program. No conditions but those that stand there.
-/
import Derived.Test.YtldljohholgmoaaQWords
import Derived.Test.YtldljohholgmoaaQStr
namespace Go.Proofs.Ytldljohholgmoaa
open Go.RowKit

theorem infoLk : ∃ i, Try.prog.info? 62 = some i ∧ i.zero = some (.slice none 0 0) ∧ i.size = 1 ∧ i.bytes = 24 := by
  have h : (Try.prog.info? 62).map (fun i => (i.zero, i.size, i.bytes)) = some (some (.slice none 0 0), 1, 24) := by kernel_rfl
  cases hi : Try.prog.info? 62 with
  | none => rw [hi] at h; cases h
  | some i =>
    rw [hi] at h
    simp only [Option.map_some, Option.some.injEq, Prod.mk.injEq] at h
    exact ⟨i, rfl, h.1, h.2.1, h.2.2⟩

theorem infoLk3 : (Try.prog.info? 62).map (fun i => (i.zero, i.size, i.bytes)) = some (some (.slice none 0 0), 1, 24) := by kernel_rfl

theorem makeLk (w : World) (n : Nat) (h : n ≤ 1000) :
    (Instr.makeSlice 28 (.int .i64 (n : Int)) (.int .i64 (n : Int))).run Try.prog w = .ok (.slice (some ⟨w.heap.size, 0, none⟩) n n) (w.alloc (.cells (madeCells #[.slice none 0 0] n) 62)) :=
  run_make_row' 28 62 _ 24 Try.underlying28 infoLk3 rfl .i64 .i64 n (by omega) (by omega) w

/-- lists that were just made. -/
theorem LkOwn.made (w : World) (n : Nat) (hn : n ≤ 1000) : LkOwn w.heap.size (w.alloc (.cells (madeCells #[.slice none 0 0] n) 62)) (some ⟨w.heap.size, 0, none⟩) n n (List.replicate n []) := by
  refine ⟨by simp, List.replicate n (.slice none 0 0), ⟨by simp, .inr ⟨w.heap.size, n, _, rfl, Nat.le_refl _, heap_alloc_new w _, Nat.le_refl _, by unfold maxLen; omega, ?_, ?_⟩⟩, LkIn.nil _ n⟩
  · rw [← Array.length_toList, toList_madeCells_one]; simp
  · rw [toList_madeCells_one]; simp

/-- where an element of a row of one's own lies. -/
theorem LkOwn.at {B : Nat} {w : World} {A : Option Addr} {n c : Nat} {L : List (List Wnt)} (h : LkOwn B w A n c L) {i : Nat} (hi : i < n) :
    ∃ g A' n' c', A = some ⟨g, 0, none⟩ ∧ B ≤ g ∧ g < w.heap.size ∧ (∀ o, w.frozen? ⟨g, o, none⟩ = false) ∧ w.cell? ⟨g, i, none⟩ = some (.slice A' n' c') ∧ (lkAt L i).length = n' ∧ Wnts w A' c' (lkAt L i) := by
  obtain ⟨g, cs, rfl, hg, hk, -⟩ := h.pos (by omega)
  obtain ⟨g', off, A', n', c', hA, hl, hc, h1, h2, -⟩ := h.sl.at hi
  injection hA with hA
  injection hA with hA hO
  subst hA
  subst hO
  rw [Nat.zero_add] at hc
  exact ⟨g, A', n', c', rfl, hg, hl, fun o => hk.frozen o, hc, h1, h2⟩

theorem LkOwn.cap {B : Nat} {w : World} {A : Option Addr} {n c : Nat} {L : List (List Wnt)} (h : LkOwn B w A n c L) : n ≤ c := h.sl.cap

theorem lk_same (L : Lks) (i : Nat) : L.set i (lkAt L i) = L := by
  unfold lkAt
  by_cases h : i < L.length
  · rw [List.getElem?_eq_getElem h]
    exact List.set_getElem_self h
  · exact List.set_eq_of_length_le (by omega)

theorem int_at {l : List Int} {i : Nat} (h : i < l.length) : ∃ x, l[i]? = some x ∧ x ∈ l := ⟨l[i], List.getElem?_eq_getElem h, List.getElem_mem _⟩

theorem turns_max {f : List Wnt → List Wnt} (hf : ∀ l, (f l).length ≤ l.length + 1) (bs : List Int) (L : Lks) {M : Nat} (hM : ∀ b, (lkAt L b).length ≤ M) : ∀ k b, (lkAt (turnsL f bs L k) b).length ≤ M + k
  | 0, b => hM b
  | k + 1, b => by
    have ih := turns_max hf bs L hM k
    rw [turnsL, turnL]
    generalize turnsL f bs L k = T at ih ⊢
    by_cases e : (bs[k]?.getD 0).toNat = b
    · by_cases hb : b < T.length
      · have h1 := ih b
        have h2 := hf (lkAt T b)
        rw [e]
        unfold lkAt at h1 h2 ⊢
        rw [List.getElem?_set_self hb, Option.getD_some]
        omega
      · unfold lkAt
        rw [List.getElem?_eq_none (by rw [List.length_set]; omega)]
        simp
    · have h1 := ih b
      unfold lkAt at h1 ⊢
      rw [List.getElem?_set_ne e]
      omega

/-- a command's blocks in memory; all of them are there. -/
structure CmLk (w : World) (c : Cmd) (ra : Option Addr) (nr rc : Nat) (wa : Option Addr) (nw wc n : Nat) : Prop where
  lr : c.reads.length = nr
  lw : c.writes.length = nw
  reads : Ints w ra rc c.reads
  writes : Ints w wa wc c.writes
  br : nr ≤ 8
  bw : nw ≤ 8
  inr : ∀ x ∈ c.reads, 0 ≤ x ∧ x < (n : Int)
  inw : ∀ x ∈ c.writes, 0 ≤ x ∧ x < (n : Int)

theorem CmLk.below {w w' : World} {c : Cmd} {ra : Option Addr} {nr rc : Nat} {wa : Option Addr} {nw wc n : Nat} (h : CmLk w c ra nr rc wa nw wc n) (hb : Below w.heap.size w w') : CmLk w' c ra nr rc wa nw wc n :=
  ⟨h.lr, h.lw, h.reads.below hb, h.writes.below hb, h.br, h.bw, h.inr, h.inw⟩

/-- lists as they are told. -/
def GrL (L : Lks) : Prop := ∀ b, ∃ K : Keys, lkAt L b = grK K

theorem GrL.has {L : Lks} (h : GrL L) (b : Nat) (s : Int) : hasO (lkAt L b) s = hasS (lkAt L b) s := by
  obtain ⟨K, hK⟩ := h b
  rw [hK, hasO_gr]

theorem lksW_gr (w : Who) (n : Nat) : GrL (lksW w n) := fun b => by
  by_cases h : b < n
  · exact ⟨_, lksW_at w h⟩
  · refine ⟨[], ?_⟩
    unfold lkAt
    rw [List.getElem?_eq_none (by rw [lksW_length]; omega)]
    simp [gr_nil]

theorem readyL_eq (L : Lks) (c : Cmd) (s : Int) : readyL L c s = (!(c.reads.any fun x => !hasS (lkAt L x.toNat) s) && !(c.writes.any fun x => !hasS (lkAt L x.toNat) s)) := by
  unfold readyL blocksN
  rw [List.all_append, List.not_any_eq_all_not, List.not_any_eq_all_not]
  simp

end Go.Proofs.Ytldljohholgmoaa
