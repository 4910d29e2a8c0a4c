/-
  Commands that are pending, on plain numbers: added, found, taken out; those that are ready; and a command run whole, commands one by one. No conditions but those that stand there.
-/
import Derived.Test.YtldljohholgmoaaQStr
namespace Go.Proofs.Ytldljohholgmoaa

structure Tsk where
  seq : Int
  cmd : Cmd
  m : Mac
  own : Blks
  worker : Int

def addP (l : List Tsk) (c : Cmd) (s : Int) : List Tsk := l ++ [⟨s, c, newM c, [], -1⟩]
def findP (l : List Tsk) (s : Int) : Option Nat := l.findIdx? fun t => decide (t.seq = s)
def ofP (l : List Tsk) (w : Int) : Option Nat := l.findIdx? fun t => decide (0 ≤ w ∧ t.worker = w)
def withoutP (l : List Tsk) (i : Nat) : List Tsk := l.take i ++ l.drop (i + 1)
/-- who waits. -/
def whoP (l : List Tsk) : Who := l.map fun t => (t.seq, t.cmd)
def readyB (w : Who) (s : Int) (c : Cmd) : Bool := (blocksN c).all fun b => hasS (grK (lineOf w b.toNat)) s
def readiesP (l : List Tsk) (w : Who) : List Int := (l.filter fun t => decide (t.worker < 0) && readyB w t.seq t.cmd).map (·.seq)
def fuelP (l : List Tsk) : Int := (l.map (·.m.fuel)).sum

theorem blocks_nonneg {c : Cmd} (h : setsN c) {x : Int} (hx : x ∈ blocksN c) : 0 ≤ x := by
  rcases List.mem_append.1 hx with hx | hx
  · exact risesT_ge h.1 x hx
  · exact risesT_ge h.2.1 x hx

theorem readyB_iff {w : Who} {s : Int} {c : Cmd} (h : setsN c) : readyB w s c = true ↔ readyN w s c := by
  unfold readyB readyN
  rw [List.all_eq_true]
  constructor
  · intro q b hb
    have := q _ hb
    rwa [Int.toNat_natCast] at this
  · intro q x hx
    obtain ⟨b, rfl⟩ := Int.eq_ofNat_of_zero_le (blocks_nonneg h hx)
    rw [Int.toNat_natCast]
    exact q b hx

theorem whoP_add (l : List Tsk) (c : Cmd) (s : Int) : whoP (addP l c s) = whoP l ++ [(s, c)] := by simp [whoP, addP]
theorem whoP_set {l : List Tsk} {i : Nat} {t u : Tsk} (h : l[i]? = some t) (h1 : u.seq = t.seq) (h2 : u.cmd = t.cmd) : whoP (l.set i u) = whoP l := by
  unfold whoP
  apply List.ext_getElem?
  intro j
  rw [List.getElem?_map, List.getElem?_map]
  by_cases e : i = j
  · subst e
    have hi : i < l.length := (List.getElem?_eq_some_iff.1 h).1
    rw [List.getElem?_set_self hi, h]
    simp [h1, h2]
  · rw [List.getElem?_set_ne e]

/-- numbers rise. -/
def risesW (w : Who) : Prop := w.Pairwise fun a b => a.1 < b.1

theorem rises_one {w : Who} (h : risesW w) {x y : Int × Cmd} (hx : x ∈ w) (hy : y ∈ w) (e : x.1 = y.1) : x = y := by
  unfold risesW at h
  induction w with
  | nil => simp at hx
  | cons z w ih =>
    rw [List.pairwise_cons] at h
    rcases List.mem_cons.1 hx with hx | hx <;> rcases List.mem_cons.1 hy with hy | hy
    · rw [hx, hy]
    · have := h.1 y hy
      rw [hx] at e
      omega
    · have := h.1 x hx
      rw [hy] at e
      omega
    · exact ih h.2 hx hy

/-- without one: all but its number. -/
theorem whoP_without {l : List Tsk} (h : risesW (whoP l)) {i : Nat} {t : Tsk} (ht : l[i]? = some t) : whoP (withoutP l i) = (whoP l).filter fun x => decide (x.1 ≠ t.seq) := by
  obtain ⟨hi, hit⟩ := List.getElem?_eq_some_iff.1 ht
  have hs : l = l.take i ++ t :: l.drop (i + 1) := by
    conv => lhs; rw [← List.take_append_drop i l, List.drop_eq_getElem_cons hi, hit]
  have hw : whoP l = whoP (l.take i) ++ (t.seq, t.cmd) :: whoP (l.drop (i + 1)) := by
    conv => lhs; rw [hs]
    simp [whoP]
  have hr := h
  unfold risesW at hr
  rw [hw, List.pairwise_append, List.pairwise_cons] at hr
  obtain ⟨-, ⟨h2, -⟩, h3⟩ := hr
  have f1 : (whoP (l.take i)).filter (fun x => decide (x.1 ≠ t.seq)) = whoP (l.take i) := by
    rw [List.filter_eq_self]
    intro x hx
    have := h3 x hx (t.seq, t.cmd) (List.mem_cons_self ..)
    simp only at this
    simp
    omega
  have f2 : (whoP (l.drop (i + 1))).filter (fun x => decide (x.1 ≠ t.seq)) = whoP (l.drop (i + 1)) := by
    rw [List.filter_eq_self]
    intro x hx
    have := h2 x hx
    simp only at this
    simp
    omega
  rw [hw, List.filter_append, List.filter_cons_of_neg (by simp), f1, f2]
  simp [whoP, withoutP]

theorem whoP_mem {l : List Tsk} {t : Tsk} (h : t ∈ l) : (t.seq, t.cmd) ∈ whoP l := List.mem_map.2 ⟨t, h, rfl⟩

/-! ### whole commands, one by one -/
def cmd0 : Cmd := ⟨[], [], [], 0, []⟩
def cmAt (cs : List Cmd) (k : Nat) : Cmd := cs[k]?.getD cmd0

theorem cmAt_lt {cs : List Cmd} {k : Nat} (h : k < cs.length) : cmAt cs k = cs[k] := by simp [cmAt, h]
theorem cmAt_mem {cs : List Cmd} {k : Nat} (h : k < cs.length) : cmAt cs k ∈ cs := by
  rw [cmAt_lt h]
  exact List.getElem_mem _

def wholeM (c : Cmd) (own : Blks) : Mac × Blks := stepsM c (c.fuel.toNat + 1) (newM c, own)

/-- blocks behind so many commands. -/
def serT (cs : List Cmd) (b0 : List Ent) : Nat → List Ent
  | 0 => b0
  | k + 1 => applyT (serT cs b0 k) (cmAt cs k) ((k : Int) + 1) (wholeM (cmAt cs k) (loadT (serT cs b0 k) (cmAt cs k)))

structure Rst where
  seq : Int
  told : Nat
  out : List Int

/-- what a command tells, one by one. -/
def resT (cs : List Cmd) (b0 : List Ent) (k : Nat) : Rst :=
  ⟨(k : Int) + 1, (wholeM (cmAt cs k) (loadT (serT cs b0 k) (cmAt cs k))).1.told, (wholeM (cmAt cs k) (loadT (serT cs b0 k) (cmAt cs k))).1.out⟩

theorem ser_length (cs : List Cmd) (b0 : List Ent) : ∀ k, (serT cs b0 k).length = b0.length
  | 0 => rfl
  | k + 1 => by rw [serT, apply_length, ser_length cs b0 k]

/-- blocks of eight numbers each. -/
def goodT (l : List Ent) : Prop := ∀ e ∈ l, e.cells.length = 8

theorem load_good {l : List Ent} {c : Cmd} (h : goodT l) (hs : setsN c) (hf : fitsT c l.length) : ∀ b ∈ loadT l c, b.length = 8 := by
  intro b hb
  obtain ⟨x, hx, rfl⟩ := List.mem_map.1 hb
  have h0 := blocks_nonneg hs hx
  have hl : x < l.length := by
    rcases List.mem_append.1 hx with hx | hx
    · exact hf.1 x hx
    · exact hf.2 x hx
  rw [List.getElem?_eq_getElem (show x.toNat < l.length by omega)]
  exact h _ (List.getElem_mem _)

theorem store_good {l : List Ent} {c : Cmd} {own : Blks} {s : Int} (h : goodT l) (h8 : ∀ b ∈ own, b.length = 8) (hn : own.length = c.reads.length + c.writes.length) : goodT (storeT l c own s) := by
  have key : ∀ i, i ≤ c.writes.length → goodT (stT l c own s i) := by
    intro i
    induction i with
    | zero => exact fun _ => h
    | succ i ih =>
      intro hi e he
      rw [stT] at he
      rcases List.mem_or_eq_of_mem_set he with he | rfl
      · exact ih (by omega) e he
      · show (own[c.reads.length + i]?.getD []).length = 8
        rw [List.getElem?_eq_getElem (by omega)]
        exact h8 _ (List.getElem_mem _)
  exact key _ (Nat.le_refl _)

/-- a whole command: over, with blocks as many as its own. -/
theorem whole_is {c : Cmd} {own : Blks} (hm : MayBe c) (hn : own.length = c.reads.length + c.writes.length) (h8 : ∀ b ∈ own, b.length = 8) :
    (wholeM c own).1.over = true ∧ (∀ b ∈ (wholeM c own).2, b.length = 8) ∧ (wholeM c own).2.length = c.reads.length + c.writes.length := by
  obtain ⟨d, hd⟩ := hm.depths
  obtain ⟨-, -, -, -, f5, f6⟩ := hm.few
  have h0 := new_ok hm hd hn h8
  obtain ⟨n, hn1, he⟩ := ends hm hd c.fuel.toNat (newM c, own) h0 (by show c.fuel = _; omega)
  have hk := steps_ok hm hd (r := (newM c, own)) h0 (c.fuel.toNat + 1)
  refine ⟨?_, hk.cells, hk.many⟩
  obtain ⟨j, hj⟩ := Nat.exists_eq_add_of_le hn1
  unfold wholeM
  rw [hj, steps_add, steps_over he.over]
  exact he.over

/-- over behind so many steps: as behind all. -/
theorem whole_over {c : Cmd} {own : Blks} (hm : MayBe c) (hn : own.length = c.reads.length + c.writes.length) (h8 : ∀ b ∈ own, b.length = 8) {k : Nat} (h : (stepsM c k (newM c, own)).1.over = true) : stepsM c k (newM c, own) = wholeM c own :=
  over_same h (whole_is hm hn h8).1

theorem ser_good {cs : List Cmd} {b0 : List Ent} (hcs : ∀ c ∈ cs, MayBe c ∧ fitsT c b0.length) (h : goodT b0) : ∀ k, k ≤ cs.length → goodT (serT cs b0 k)
  | 0, _ => h
  | k + 1, hk => by
    have ih := ser_good hcs h k (by omega)
    obtain ⟨hm, hf⟩ := hcs _ (cmAt_mem (show k < cs.length by omega))
    rw [← ser_length cs b0 k] at hf
    obtain ⟨-, w2, w3⟩ := whole_is hm (load_length (l := serT cs b0 k)) (load_good ih hm.sets hf)
    rw [serT, applyT]
    split
    · exact store_good ih w2 w3
    · exact ih

/-- a block that nobody of those between writes. -/
theorem ser_other {cs : List Cmd} {b0 : List Ent} (hcs : ∀ c ∈ cs, MayBe c ∧ fitsT c b0.length) {b i : Nat} : ∀ j, i ≤ j → j ≤ cs.length → (∀ k, i ≤ k → k < j → (b : Int) ∉ (cmAt cs k).writes) → (serT cs b0 j)[b]? = (serT cs b0 i)[b]?
  | j, hij, hj, h => by
    by_cases e : i = j
    · rw [e]
    · obtain ⟨k, rfl⟩ : ∃ k, j = k + 1 := ⟨j - 1, by omega⟩
      rw [serT, applyT]
      have ih := ser_other hcs (b := b) (i := i) k (by omega) (by omega) (fun q h1 h2 => h q h1 (by omega))
      split
      · rw [store_other (hcs _ (cmAt_mem (show k < cs.length by omega))).1.sets (h k (by omega) (by omega))]
        exact ih
      · exact ih

end Go.Proofs.Ytldljohholgmoaa
