/-
  A command at work, on plain numbers: many steps, their end, more fuel, blocks that are the same where they are read. No conditions but those that stand there.
-/
import Derived.Test.YtehaknnoplcbcaaMacQ
namespace Go.Proofs.Ytehaknnoplcbcaa
open Go.RowKit

theorem steps_add (c : Cmd) : ∀ (a b : Nat) (r : Mac × Blks), stepsM c (a + b) r = stepsM c b (stepsM c a r)
  | 0, b, r => by rw [Nat.zero_add]; rfl
  | a + 1, b, r => by
    rw [show a + 1 + b = (a + b) + 1 by omega]
    exact steps_add c a b _

theorem steps_succ (c : Cmd) (n : Nat) (r : Mac × Blks) : stepsM c (n + 1) r = stepM c (stepsM c n r).1 (stepsM c n r).2 := steps_add c n 1 r

theorem steps_over {c : Cmd} {r : Mac × Blks} (h : r.1.over = true) : ∀ n, stepsM c n r = r
  | 0 => rfl
  | n + 1 => by
    show stepsM c n (stepM c r.1 r.2) = r
    rw [step_over h]
    exact steps_over h n

theorem steps_ok {c : Cmd} {d : List Int} (hc : MayBe c) (hd : depthsN c.code = .ok d) {r : Mac × Blks} (h : MOk c d r.1 r.2) : ∀ n, MOk c d (stepsM c n r).1 (stepsM c n r).2
  | 0 => h
  | n + 1 => by
    rw [steps_succ]
    exact (step_ok hc hd (steps_ok hc hd h n)).1

/-- over here and over there: the same. -/
theorem over_same {c : Cmd} {r : Mac × Blks} {a b : Nat} (ha : (stepsM c a r).1.over = true) (hb : (stepsM c b r).1.over = true) : stepsM c a r = stepsM c b r := by
  rcases Nat.le_total a b with h | h
  · obtain ⟨k, rfl⟩ := Nat.exists_eq_add_of_le h
    rw [steps_add, steps_over ha]
  · obtain ⟨k, rfl⟩ := Nat.exists_eq_add_of_le h
    rw [steps_add, steps_over hb]

/-- so many steps, and not fewer, to its end. -/
structure Ends (c : Cmd) (r : Mac × Blks) (n : Nat) : Prop where
  over : (stepsM c n r).1.over = true
  first : ∀ k, k < n → (stepsM c k r).1.over = false

theorem Ends.one {c : Cmd} {r : Mac × Blks} {n m : Nat} (h : Ends c r n) (k : Ends c r m) : n = m := by
  rcases Nat.lt_trichotomy n m with g | g | g
  · have := k.first n g
    rw [h.over] at this
    cases this
  · exact g
  · have := h.first m g
    rw [k.over] at this
    cases this

theorem Ends.step {c : Cmd} {r : Mac × Blks} {n : Nat} (ho : r.1.over = false) (h : Ends c (stepM c r.1 r.2) n) : Ends c r (n + 1) := by
  refine ⟨h.over, fun k hk => ?_⟩
  cases k with
  | zero => exact ho
  | succ k => exact h.first k (by omega)

theorem ends {c : Cmd} {d : List Int} (hc : MayBe c) (hd : depthsN c.code = .ok d) : ∀ (f : Nat) (r : Mac × Blks), MOk c d r.1 r.2 → r.1.fuel = f → ∃ n, n ≤ f + 1 ∧ Ends c r n
  | f, r, h, hf => by
    cases ho : r.1.over with
    | true => exact ⟨0, by omega, ho, fun k hk => absurd hk (by omega)⟩
    | false =>
      obtain ⟨h1, -, -, h2⟩ := step_ok hc hd h
      cases ho' : (stepM c r.1 r.2).1.over with
      | true => exact ⟨1, by omega, Ends.step ho ⟨ho', fun k hk => absurd hk (by omega)⟩⟩
      | false =>
        rcases h2 ho with h2 | ⟨-, -, h2⟩
        · cases f with
          | zero => have := h1.fuel; omega
          | succ f =>
            obtain ⟨n, hn, he⟩ := ends hc hd f (stepM c r.1 r.2) h1 (by omega)
            exact ⟨n + 1, by omega, Ends.step ho he⟩
        · rw [ho'] at h2
          cases h2

/-- while it goes on each step takes one of its fuel. -/
theorem steps_fuel {c : Cmd} {d : List Int} (hc : MayBe c) (hd : depthsN c.code = .ok d) {r : Mac × Blks} (h : MOk c d r.1 r.2) : ∀ n, (∀ k, k ≤ n → (stepsM c k r).1.over = false) → (stepsM c n r).1.fuel = r.1.fuel - n
  | 0, _ => by simp [stepsM]
  | n + 1, hk => by
    have ih := steps_fuel hc hd h n (fun k hk' => hk k (by omega))
    have h1 := hk (n + 1) (by omega)
    rw [steps_succ] at h1 ⊢
    obtain ⟨-, -, -, h2⟩ := step_ok hc hd (steps_ok hc hd h n)
    rcases h2 (hk n (by omega)) with h2 | ⟨-, -, h2⟩
    · rw [h2, ih]
      omega
    · rw [h1] at h2
      cases h2

/-- what an instruction says when it ends the command. -/
theorem do_told {c : Cmd} {x : Ins} {m : Mac} {own : Blks} (ho : m.over = false) (h : (doM c x m own).1.over = true) : (doM c x m own).1.told = 0 ∨ (doM c x m own).1.told = 12 ∨ (doM c x m own).1.told = 13 := by
  by_cases h1 : x.op = 1
  · simp [doM, h1, ho] at h
  by_cases h2 : x.op = 2
  · simp [doM, h2, ho] at h
  by_cases h4 : x.op = 4
  · simp [doM, h4, ho] at h
  by_cases h6 : x.op = 6
  · simp [doM, h6, ho] at h
  by_cases h14 : x.op = 14
  · simp [doM, h14, ho] at h
  by_cases h16 : x.op = 16
  · simp [doM, overM, h16]
  by_cases h17 : x.op = 17
  · simp [doM, overM, h17]
  by_cases h3 : x.op = 3
  · simp [doM, h3, ho] at h
  by_cases h5 : x.op = 5
  · simp [doM, h5, ho] at h
  by_cases h13 : x.op = 13
  · simp [doM, h13, ho] at h
  by_cases h15 : x.op = 15
  · simp [doM, h15, ho] at h
  simp only [doM, if_neg h1, if_neg h2, if_neg h4, if_neg h6, if_neg h14, if_neg h16, if_neg h17, if_neg h3, if_neg h5, if_neg h13, if_neg h15] at h ⊢
  cases ht : twoN x.op (nextTop m.stack) (topN m.stack) with
  | none => exact .inr (.inl rfl)
  | some n =>
    rw [ht] at h
    simp [ho] at h

/-- its end: within its fuel and one step, well or with one of three errors; with the fuel's, just if it took them all. -/
theorem end_bound {c : Cmd} {d : List Int} (hc : MayBe c) (hd : depthsN c.code = .ok d) {r : Mac × Blks} (h : MOk c d r.1 r.2) (ho : r.1.over = false) {n : Nat} (he : Ends c r n) :
    1 ≤ n ∧ (n : Int) ≤ r.1.fuel + 1 ∧ ((stepsM c n r).1.told = 0 ∨ (stepsM c n r).1.told = 11 ∨ (stepsM c n r).1.told = 12 ∨ (stepsM c n r).1.told = 13) ∧ ((n : Int) = r.1.fuel + 1 ↔ (stepsM c n r).1.told = 11) := by
  cases n with
  | zero =>
    have := he.over
    rw [show stepsM c 0 r = r from rfl, ho] at this
    cases this
  | succ k =>
    have hk := he.first k (by omega)
    have hm := steps_ok hc hd h k
    have hf := steps_fuel hc hd h k (fun j hj => he.first j (by omega))
    have hov := he.over
    rw [steps_succ] at hov ⊢
    have h0 := hm.fuel
    by_cases hz : (stepsM c k r).1.fuel = 0
    · rw [step_empty hk hz]
      refine ⟨by omega, by omega, .inr (.inl rfl), ?_⟩
      show ((k + 1 : Nat) : Int) = _ ↔ (11 : Nat) = 11
      simp only [iff_true]
      omega
    · rw [step_goes hk hz] at hov ⊢
      have ht := do_told (by simpa using hk) hov
      refine ⟨by omega, by omega, by omega, ?_⟩
      omega

/-! ### more fuel -/
theorem do_args {c c' : Cmd} (h : c'.args = c.args) (x : Ins) (m : Mac) (own : Blks) : doM c' x m own = doM c x m own := by
  unfold doM
  rw [h]

theorem do_fuel_is (c : Cmd) (x : Ins) (m : Mac) (own : Blks) : (doM c x m own).1.fuel = m.fuel := by
  have h := do_fuel c x m own m.fuel
  rw [show { m with fuel := m.fuel } = m from rfl] at h
  rw [h]

/-- with more fuel it does what it does with less, as far as that goes. -/
theorem steps_more {c : Cmd} {d : List Int} (hc : MayBe c) (hd : depthsN c.code = .ok d) {own : Blks} (h : MOk c d (newM c) own) {e : Int} (h0 : 0 ≤ e) : ∀ n : Nat, (n : Int) ≤ c.fuel →
    stepsM { c with fuel := c.fuel + e } n (newM { c with fuel := c.fuel + e }, own) = ({ (stepsM c n (newM c, own)).1 with fuel := (stepsM c n (newM c, own)).1.fuel + e }, (stepsM c n (newM c, own)).2)
  | 0, _ => rfl
  | n + 1, hn => by
    rw [steps_succ, steps_succ, steps_more hc hd h h0 n (by omega)]
    have hm := steps_ok hc hd (r := (newM c, own)) h n
    have hfu : (stepsM c n (newM c, own)).1.over = false → (stepsM c n (newM c, own)).1.fuel = c.fuel - n := fun ho => by
      refine steps_fuel hc hd (r := (newM c, own)) h n (fun k hk => ?_)
      cases hko : (stepsM c k (newM c, own)).1.over with
      | false => rfl
      | true =>
        obtain ⟨j, rfl⟩ := Nat.exists_eq_add_of_le hk
        rw [steps_add, steps_over hko, hko] at ho
        cases ho
    generalize stepsM c n (newM c, own) = r at *
    obtain ⟨m, own'⟩ := r
    simp only at hm hfu ⊢
    by_cases ho : m.over = true
    · rw [step_over (m := { m with fuel := m.fuel + e }) ho, step_over ho]
    · have ho := Bool.eq_false_iff.2 ho
      have hf := hfu ho
      rw [step_goes (m := { m with fuel := m.fuel + e }) ho (show m.fuel + e ≠ 0 by omega), step_goes ho (by omega), do_args (c := c) (c' := { c with fuel := c.fuel + e }) rfl]
      have key := do_fuel c (insAt c.code m.pc.toNat) { m with fuel := m.fuel - 1, pc := m.pc + 1 } own' (m.fuel + e - 1)
      have hf' := do_fuel_is c (insAt c.code m.pc.toNat) { m with fuel := m.fuel - 1, pc := m.pc + 1 } own'
      simp only at key hf' ⊢
      rw [key, hf', show m.fuel - 1 + e = m.fuel + e - 1 by omega]

/-! ### blocks that are the same where they are read -/
structure Agree (c : Cmd) (a b : Blks) : Prop where
  len : a.length = b.length
  cellsA : ∀ x ∈ a, x.length = 8
  cellsB : ∀ x ∈ b, x.length = 8
  gets : ∀ x ∈ c.code, x.op = 4 → getC (a[x.a.toNat]?.getD []) x.b = getC (b[x.a.toNat]?.getD []) x.b

theorem Agree.put {c : Cmd} {a b : Blks} (h : Agree c a b) (i : Nat) (j n : Int) : Agree c (a.set i (putC (a[i]?.getD []) j n)) (b.set i (putC (b[i]?.getD []) j n)) := by
  have hl := h.len
  have key : ∀ (a : Blks), (∀ x ∈ a, x.length = 8) → ∀ x ∈ a.set i (putC (a[i]?.getD []) j n), x.length = 8 := fun a ha x hx => by
    by_cases hi : i < a.length
    · rcases List.mem_or_eq_of_mem_set hx with hx | rfl
      · exact ha x hx
      · rw [putC_length, List.getElem?_eq_getElem hi]
        exact ha _ (List.getElem_mem _)
    · rw [List.set_eq_of_length_le (by omega)] at hx
      exact ha x hx
  refine ⟨by rw [List.length_set, List.length_set, hl], key a h.cellsA, key b h.cellsB, fun x hx h4 => ?_⟩
  have hg := h.gets x hx h4
  by_cases e : x.a.toNat = i
  · by_cases hi : i < a.length
    · have hb : i < b.length := by omega
      rw [e] at hg ⊢
      rw [List.getElem?_set_self hi, List.getElem?_set_self hb]
      rw [List.getElem?_eq_getElem hi, List.getElem?_eq_getElem hb] at hg ⊢
      simp only [Option.getD_some] at hg ⊢
      rw [getC_putC (h.cellsA _ (List.getElem_mem _)), getC_putC (h.cellsB _ (List.getElem_mem _)), hg]
    · rw [List.set_eq_of_length_le (by omega), List.set_eq_of_length_le (by omega)]
      exact hg
  · rw [List.getElem?_set_ne (by omega), List.getElem?_set_ne (by omega)]
    exact hg

theorem do_reads {c : Cmd} {x : Ins} {m : Mac} {a b : Blks} (hx : x ∈ c.code) (h : Agree c a b) : (doM c x m a).1 = (doM c x m b).1 ∧ Agree c (doM c x m a).2 (doM c x m b).2 := by
  by_cases h1 : x.op = 1
  · simp [doM, h1, h]
  by_cases h2 : x.op = 2
  · simp [doM, h2, h]
  by_cases h4 : x.op = 4
  · have := h.gets x hx h4
    simp [doM, h4, h, this]
  by_cases h6 : x.op = 6
  · simp [doM, h6, h]
  by_cases h14 : x.op = 14
  · simp [doM, h14, h]
  by_cases h16 : x.op = 16
  · simp [doM, h16, h]
  by_cases h17 : x.op = 17
  · simp [doM, h17, h]
  by_cases h3 : x.op = 3
  · simp [doM, h3, h]
  by_cases h5 : x.op = 5
  · have hp := h.put x.a.toNat x.b (topN m.stack)
    simp [doM, h5, hp]
  by_cases h13 : x.op = 13
  · simp [doM, h13, h]
  by_cases h15 : x.op = 15
  · simp [doM, h15, h]
  simp only [doM, if_neg h1, if_neg h2, if_neg h4, if_neg h6, if_neg h14, if_neg h16, if_neg h17, if_neg h3, if_neg h5, if_neg h13, if_neg h15]
  cases twoN x.op (nextTop m.stack) (topN m.stack) <;> exact ⟨rfl, h⟩

theorem steps_reads {c : Cmd} {d : List Int} (hc : MayBe c) (hd : depthsN c.code = .ok d) {m : Mac} {a b : Blks} (hm : MOk c d m a) (h : Agree c a b) : ∀ n, (stepsM c n (m, a)).1 = (stepsM c n (m, b)).1 ∧ Agree c (stepsM c n (m, a)).2 (stepsM c n (m, b)).2
  | 0 => ⟨rfl, h⟩
  | n + 1 => by
    obtain ⟨h1, h2⟩ := steps_reads hc hd hm h n
    have hk := steps_ok hc hd (r := (m, a)) hm n
    rw [steps_succ, steps_succ]
    rw [← h1]
    generalize (stepsM c n (m, b)).2 = y at *
    generalize stepsM c n (m, a) = r at *
    obtain ⟨m', x⟩ := r
    simp only at hk h2 ⊢
    cases ho : m'.over with
    | true =>
      rw [step_over ho, step_over ho]
      exact ⟨rfl, h2⟩
    | false =>
      by_cases hf : m'.fuel = 0
      · rw [step_empty ho hf, step_empty ho hf]
        exact ⟨rfl, h2⟩
      · rw [step_goes ho hf, step_goes ho hf]
        obtain ⟨p1, p2, -⟩ := hk.at_ ho
        exact do_reads (insAt_mem (by omega)) h2

theorem Ends.reads {c : Cmd} {d : List Int} (hc : MayBe c) (hd : depthsN c.code = .ok d) {m : Mac} {a b : Blks} (hm : MOk c d m a) (h : Agree c a b) {n : Nat} (he : Ends c (m, a) n) : Ends c (m, b) n :=
  ⟨by rw [← (steps_reads hc hd hm h n).1]; exact he.over, fun k hk => by rw [← (steps_reads hc hd hm h k).1]; exact he.first k hk⟩

/-- so many steps and then as many as it takes: the same as from the beginning. -/
theorem Ends.goes {c : Cmd} {r : Mac × Blks} {n k j : Nat} (he : Ends c r n) (h : (stepsM c j (stepsM c k r)).1.over = true) : stepsM c j (stepsM c k r) = stepsM c n r := by
  rw [← steps_add] at h ⊢
  exact over_same h he.over

end Go.Proofs.Ytehaknnoplcbcaa
