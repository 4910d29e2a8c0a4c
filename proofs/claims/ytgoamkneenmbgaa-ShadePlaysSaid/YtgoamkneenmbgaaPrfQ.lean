/-
  Which commands may be, on plain numbers: what changes nothing; straight programs; ways through a program that may be. No conditions but those that stand there.
-/
import Derived.Test.YtgoamkneenmbgaaPrfP
namespace Go.Proofs.Ytgoamkneenmbgaa

/-- rising from 0 on. -/
def risesN : List Int → Int → Prop
  | [], _ => True
  | x :: l, z => z ≤ x ∧ risesN l (x + 1)
instance risesDec : (l : List Int) → (z : Int) → Decidable (risesN l z)
  | [], _ => inferInstanceAs (Decidable True)
  | x :: l, _ => have := risesDec l (x + 1); inferInstanceAs (Decidable (_ ∧ _))

def boundsN (c : Cmd) (x : Ins) : Prop :=
  (x.op = 2 ∨ x.op = 3 → 0 ≤ x.a ∧ x.a < 4) ∧
  (x.op = 4 → 0 ≤ x.a ∧ x.a < (c.reads.length : Int) + c.writes.length ∧ 0 ≤ x.b ∧ x.b < 8) ∧
  (x.op = 5 → (c.reads.length : Int) ≤ x.a ∧ x.a < (c.reads.length : Int) + c.writes.length ∧ 0 ≤ x.b ∧ x.b < 8) ∧
  (x.op = 6 → 0 ≤ x.a ∧ x.a < (c.args.length : Int))
instance (c : Cmd) (x : Ins) : Decidable (boundsN c x) := inferInstanceAs (Decidable (_ ∧ _))

def emitsN (l : List Ins) : Nat := (l.filter fun x => decide (x.op = 15)).length

/-- few enough of everything. -/
def fewN (c : Cmd) : Prop := c.reads.length + c.writes.length ≤ 8 ∧ c.args.length ≤ 8 ∧ 1 ≤ c.code.length ∧ c.code.length ≤ 64 ∧ 1 ≤ c.fuel ∧ c.fuel ≤ 200
instance (c : Cmd) : Decidable (fewN c) := inferInstanceAs (Decidable (_ ∧ _))
def setsN (c : Cmd) : Prop := risesN c.reads 0 ∧ risesN c.writes 0 ∧ ∀ x ∈ c.reads, x ∉ c.writes
instance (c : Cmd) : Decidable (setsN c) := inferInstanceAs (Decidable (_ ∧ _))
def opsN (c : Cmd) : Prop := ∀ x ∈ c.code, rightN x ∧ boundsN c x
instance (c : Cmd) : Decidable (opsN c) := inferInstanceAs (Decidable (∀ x ∈ _, _))

/-- may it be? 0, or the error's number. -/
def checkN (c : Cmd) : Nat :=
  if ¬ fewN c then 4 else if ¬ setsN c then 8 else if ¬ opsN c then 5 else if 8 < emitsN c.code then 4
  else match depthsN c.code with
    | .ok _ => 0
    | .error e => e

structure MayBe (c : Cmd) : Prop where
  few : fewN c
  sets : setsN c
  ops : opsN c
  emits : emitsN c.code ≤ 8
  depths : ∃ d, depthsN c.code = .ok d

theorem wayD_err {len i : Nat} {v : Int} : ∀ (ws d : List Int) (e : Nat), wayD len i v ws d = .error e → e = 6 ∨ e = 7
  | [], _, _, h => by cases h
  | w :: ws, d, e, h => by
    rw [wayD] at h
    split at h
    · injection h with h; omega
    · split at h
      · injection h with h; omega
      · exact wayD_err ws _ e h
theorem insD_err {l : List Ins} {i : Nat} {d : List Int} {e : Nat} (h : insD l i d = .error e) : e = 6 ∨ e = 7 := by
  rw [insD] at h
  split at h
  · cases h
  · split at h
    · injection h with h; omega
    · exact wayD_err _ _ e h
theorem goD_err {l : List Ins} : ∀ (n i : Nat) (d : List Int) (e : Nat), goD l n i d = .error e → e = 6 ∨ e = 7
  | 0, _, _, _, h => by cases h
  | n + 1, i, d, e, h => by
    rw [goD] at h
    cases hi : insD l i d with
    | error e' => rw [hi] at h; injection h with h; subst h; exact insD_err hi
    | ok d' => rw [hi] at h; exact goD_err n _ _ e h

theorem check_zero (c : Cmd) : checkN c = 0 ↔ MayBe c := by
  constructor
  · intro h
    unfold checkN at h
    split at h
    · omega
    · split at h
      · omega
      · split at h
        · omega
        · split at h
          · omega
          · rename_i h1 h2 h3 h4
            cases hd : depthsN c.code with
            | error e =>
              rw [hd] at h
              have := goD_err _ _ _ e hd
              simp only at h
              omega
            | ok d => exact ⟨Classical.byContradiction h1, Classical.byContradiction h2, Classical.byContradiction h3, by omega, d, hd⟩
  · rintro ⟨h1, h2, h3, h4, d, hd⟩
    rw [checkN, if_neg (by simp [h1]), if_neg (by simp [h2]), if_neg (by simp [h3]), if_neg (by omega), hd]

/-! ### one more of something -/
theorem bounds_more {c c' : Cmd} {x : Ins} (h : boundsN c x) (hr : c'.reads = c.reads) (hw : c.writes.length ≤ c'.writes.length) (ha : c.args.length ≤ c'.args.length) : boundsN c' x := by
  obtain ⟨h1, h2, h3, h4⟩ := h
  rw [boundsN, hr]
  refine ⟨h1, fun e => ?_, fun e => ?_, fun e => ?_⟩
  · have := h2 e; omega
  · have := h3 e; omega
  · have := h4 e; omega

theorem more_args {c : Cmd} (h : MayBe c) (n : Int) : MayBe { c with args := c.args ++ [n] } ↔ c.args.length + 1 ≤ 8 := by
  obtain ⟨⟨f1, f2, f3, f4, f5, f6⟩, h2, h3, h4, h5⟩ := h
  constructor
  · intro k
    have := k.few.2.1
    simpa using this
  · intro hl
    exact ⟨⟨f1, by simpa using hl, f3, f4, f5, f6⟩, h2, fun x hx => ⟨(h3 x hx).1, bounds_more (h3 x hx).2 rfl (Nat.le_refl _) (by simp)⟩, h4, h5⟩

theorem more_fuel {c : Cmd} (h : MayBe c) : MayBe { c with fuel := c.fuel + 1 } ↔ c.fuel + 1 ≤ 200 := by
  obtain ⟨⟨f1, f2, f3, f4, f5, f6⟩, h2, h3, h4, h5⟩ := h
  constructor
  · intro k
    exact k.few.2.2.2.2.2
  · intro hl
    exact ⟨⟨f1, f2, f3, f4, by simp only; omega, hl⟩, h2, fun x hx => ⟨(h3 x hx).1, bounds_more (h3 x hx).2 rfl (Nat.le_refl _) (Nat.le_refl _)⟩, h4, h5⟩

/-- behind the last one. -/
def nextN (l : List Int) : Int := match l.getLast? with
  | some x => x + 1
  | none => 0

theorem rises_snoc : ∀ (l : List Int) (z x : Int), risesN l z → (match l.getLast? with | some y => y + 1 | none => z) ≤ x → risesN (l ++ [x]) z
  | [], z, x, _, h => ⟨h, trivial⟩
  | y :: l, z, x, h, hx => by
    refine ⟨h.1, rises_snoc l (y + 1) x h.2 ?_⟩
    cases hl : l.getLast? with
    | none =>
      have : l = [] := List.getLast?_eq_none_iff.1 hl
      subst this
      simpa using hx
    | some u =>
      have : (y :: l).getLast? = some u := by rw [List.getLast?_cons, hl]; rfl
      rw [this] at hx
      exact hx

theorem more_writes {c : Cmd} (h : MayBe c) (hf : ∀ x ∈ c.reads, x ≠ nextN c.writes) : MayBe { c with writes := c.writes ++ [nextN c.writes] } ↔ c.reads.length + (c.writes.length + 1) ≤ 8 := by
  obtain ⟨⟨f1, f2, f3, f4, f5, f6⟩, ⟨s1, s2, s3⟩, h3, h4, h5⟩ := h
  constructor
  · intro k
    have := k.few.1
    simpa using this
  · intro hl
    refine ⟨⟨by simpa using hl, f2, f3, f4, f5, f6⟩, ⟨s1, ?_, ?_⟩, fun x hx => ⟨(h3 x hx).1, bounds_more (h3 x hx).2 rfl (by simp) (Nat.le_refl _)⟩, h4, h5⟩
    · refine rises_snoc _ _ _ s2 ?_
      unfold nextN
      cases c.writes.getLast? <;> simp
    · intro x hx hm
      rcases List.mem_append.1 hm with hm | hm
      · exact s3 x hx hm
      · exact hf x hx (List.mem_singleton.1 hm)

/-! ### a tail, and a way cut off -/
theorem tail_may {c : Cmd} (h : MayBe c) : MayBe { c with code := c.code ++ [⟨16, 0, 0⟩] } ↔ c.code.length + 1 ≤ 64 := by
  obtain ⟨⟨f1, f2, f3, f4, f5, f6⟩, h2, h3, h4, d, hd⟩ := h
  constructor
  · intro k
    have := k.few.2.2.2.1
    simpa using this
  · intro hl
    refine ⟨⟨f1, f2, by simp, by simpa using hl, f5, f6⟩, h2, fun x hx => ?_, ?_, _, depths_tail ⟨16, 0, 0⟩ f3 hd⟩
    · rcases List.mem_append.1 hx with hx | hx
      · exact h3 x hx
      · rw [List.mem_singleton.1 hx]
        refine ⟨by simp [rightN], ?_⟩
        simp [boundsN]
    · simp only [emitsN, List.filter_append, List.length_append]
      simpa [emitsN] using h4

theorem cut_check {c : Cmd} (h : MayBe c) : checkN { c with code := c.code.set 0 ⟨14, (c.code.length : Int), 0⟩ } = 6 := by
  obtain ⟨⟨f1, f2, f3, f4, f5, f6⟩, h2, h3, h4, d, hd⟩ := h
  have hcode : ∀ x ∈ c.code.set 0 ⟨14, (c.code.length : Int), 0⟩, x = ⟨14, (c.code.length : Int), 0⟩ ∨ x ∈ c.code := fun x hx => (List.mem_or_eq_of_mem_set hx).symm
  rw [checkN, if_neg, if_neg, if_neg, if_neg]
  · rw [depths_cut (a := (c.code.length : Int)) (b := 0) (by rw [List.length_set]; omega) (by
      obtain ⟨y, l, hyl⟩ : ∃ y l, c.code = y :: l := by
        cases hc : c.code with
        | nil => rw [hc] at f3; simp at f3
        | cons y l => exact ⟨y, l, rfl⟩
      simp only [hyl, List.set_cons_zero]
      rfl) (by simp only [List.length_set]; omega)]
  · have : emitsN (c.code.set 0 ⟨14, (c.code.length : Int), 0⟩) ≤ emitsN c.code := by
      cases hc : c.code with
      | nil => simp
      | cons y l =>
        rw [List.set_cons_zero]
        unfold emitsN
        rw [List.filter_cons_of_neg (by simp)]
        exact List.Sublist.length_le (List.Sublist.filter _ (List.sublist_cons_self y l))
    simp only
    omega
  · intro hno
    apply hno
    intro x hx
    rcases hcode x hx with rfl | hx
    · exact ⟨by simp [rightN, takesN], by simp [boundsN]⟩
    · exact ⟨(h3 x hx).1, (h3 x hx).2⟩
  · intro hno
    exact hno h2
  · intro hno
    apply hno
    exact ⟨f1, f2, by simpa using f3, by simpa using f4, f5, f6⟩

/-! ### straight programs -/
def straightB : Int → List Ins → Bool
  | _, [] => true
  | v, x :: l => !(decide (v < offN x.op) || decide (8 < v - offN x.op + onN x.op)) && straightB (v - offN x.op + onN x.op) l

theorem go_straight (pre : List Ins) (e : Ins) (he : e.op = 17) : ∀ (xs done : List Ins) (ds : List Int) (v : Int), (∀ x ∈ xs, waysN x = [0]) → ds.length = done.length → pre = done ++ xs ++ [e] → 0 ≤ v → v ≤ 8 →
    (straightB v xs = true → ∃ d, goD pre (xs.length + 1) done.length (ds ++ [v] ++ List.replicate xs.length (-1)) = .ok d) ∧
    (straightB v xs = false → goD pre (xs.length + 1) done.length (ds ++ [v] ++ List.replicate xs.length (-1)) = .error 7)
  | [], done, ds, v, _, hl, hp, h0, h8 => by
    have hat : dAt (ds ++ [v] ++ List.replicate 0 (-1)) done.length = v := by simp [dAt, ← hl]
    have hi : insAt pre done.length = e := by rw [hp]; simp [insAt]
    have hins : insD pre done.length (ds ++ [v] ++ List.replicate 0 (-1)) = .ok (ds ++ [v] ++ List.replicate 0 (-1)) := by
      rw [insD, hat, hi, if_neg (by omega), if_neg (by simp [offN, onN, he]; omega), waysN, if_pos (.inr he)]
      rfl
    refine ⟨fun _ => ⟨ds ++ [v] ++ List.replicate 0 (-1), ?_⟩, fun h => by cases h⟩
    show (match insD pre done.length (ds ++ [v] ++ List.replicate 0 (-1)) with | .error e => Except.error e | .ok d' => Except.ok d') = _
    rw [hins]
  | x :: xs, done, ds, v, hw, hl, hp, h0, h8 => by
    have hlen : pre.length = done.length + xs.length + 2 := by rw [hp]; simp; omega
    have hat : dAt (ds ++ [v] ++ List.replicate (xs.length + 1) (-1)) done.length = v := by simp [dAt, ← hl]
    have hi : insAt pre done.length = x := by rw [hp]; simp [insAt]
    have hway := hw x (by simp)
    rw [List.length_cons, goD, insD, hat, hi, if_neg (by omega), straightB]
    by_cases hc : v < offN x.op ∨ 8 < v - offN x.op + onN x.op
    · rw [if_pos hc]
      refine ⟨fun h => ?_, fun _ => rfl⟩
      rcases hc with hc | hc <;> simp [hc] at h
    · have hoff : (offN x.op : Int) ≤ v := by omega
      have hon : v - offN x.op + onN x.op ≤ 8 := by omega
      have h1 : dAt (ds ++ [v] ++ List.replicate (xs.length + 1) (-1)) (done.length + 1 + (0 : Int).toNat) = -1 := by
        simp [dAt, ← hl]
      have hset : (ds ++ [v] ++ List.replicate (xs.length + 1) (-1)).set (done.length + 1 + (0 : Int).toNat) (v - offN x.op + onN x.op) = ds ++ [v] ++ [v - offN x.op + onN x.op] ++ List.replicate xs.length (-1) := by
        rw [List.replicate_succ, List.set_append_right _ _ (by simp [hl])]
        simp [hl]
      have hwd : wayD pre.length done.length (v - offN x.op + onN x.op) (waysN x) (ds ++ [v] ++ List.replicate (xs.length + 1) (-1)) = .ok (ds ++ [v] ++ [v - offN x.op + onN x.op] ++ List.replicate xs.length (-1)) := by
        rw [hway, wayD, if_neg (by omega), h1, if_neg (by omega), hset]
        rfl
      rw [if_neg hc, hwd]
      have ih := go_straight pre e he xs (done ++ [x]) (ds ++ [v]) (v - offN x.op + onN x.op) (fun y hy => hw y (by simp [hy])) (by simp [hl]) (by rw [hp]; simp) (by omega) hon
      rw [List.length_append, List.length_singleton] at ih
      have hb : (!(decide (v < (offN x.op : Int)) || decide (8 < v - (offN x.op : Int) + (onN x.op : Int)))) = true := by
        simp only [Bool.not_eq_true', Bool.or_eq_false_iff, decide_eq_false_iff_not]
        omega
      rw [hb, Bool.true_and]
      exact ih

theorem straight_depths {xs : List Ins} {e : Ins} (he : e.op = 17) (hw : ∀ x ∈ xs, waysN x = [0]) :
    (straightB 0 xs = true → ∃ d, depthsN (xs ++ [e]) = .ok d) ∧ (straightB 0 xs = false → depthsN (xs ++ [e]) = .error 7) := by
  have h := go_straight (xs ++ [e]) e he xs [] [] 0 hw rfl (by simp) (by omega) (by omega)
  have hs : startD0 (xs ++ [e]).length = [] ++ [0] ++ List.replicate xs.length (-1) := by
    rw [List.length_append, List.length_singleton]
    apply List.ext_getElem?
    intro i
    rw [startD0, List.getElem?_map]
    by_cases hi : i < xs.length + 1
    · rw [List.getElem?_range hi]
      cases i with
      | zero => rfl
      | succ i => simp [show i < xs.length by omega]
    · rw [List.getElem?_eq_none (by simp; omega), List.getElem?_eq_none (by simp; omega)]
      rfl
  rw [depthsN, hs]
  simpa using h

end Go.Proofs.Ytgoamkneenmbgaa
