/-
  A command at work, on plain numbers: a command that may be goes on, forwards, within its stack, and ends. No conditions but those that stand there.
-/
import Derived.Test.YtehaknnoplcbcaaMacP
namespace Go.Proofs.Ytehaknnoplcbcaa
open Go.RowKit

/-- where it stands next, if it goes on. -/
structure Goes (c : Cmd) (d : List Int) (m : Mac) (p : Int) (n : Nat) (o : Nat) : Prop where
  le : m.pc + 1 ≤ p
  lt : p < c.code.length
  deep : dAt d p.toNat = n
  out : o + emitsFrom c.code p.toNat ≤ 8

section
variable {c : Cmd} {d : List Int} {m : Mac} {own : Blks}

/-- along a way of the instruction that stands there. -/
theorem goes_way (hd : depthsN c.code = .ok d) (hm : MOk c d m own) (ho : m.over = false) {w : Int} (hw : w ∈ waysN (insAt c.code m.pc.toNat)) {n : Nat} (hn : (n : Int) = (m.stack.length : Int) - offN (insAt c.code m.pc.toNat).op + onN (insAt c.code m.pc.toNat).op)
    {o : Nat} (hout : o ≤ m.out.length + if (insAt c.code m.pc.toNat).op = 15 then 1 else 0) : Goes c d m (m.pc + 1 + w) n o := by
  obtain ⟨h1, h2, h3, h4, _⟩ := hm.at_ ho
  obtain ⟨_, _, hok⟩ := depths_fine hd
  have hi : m.pc.toNat < c.code.length := by omega
  obtain ⟨_, _, hall⟩ := hok m.pc.toNat hi (by rw [h3]; omega)
  obtain ⟨w1, w2, w3⟩ := hall w hw
  have he : (m.pc + 1 + w).toNat = m.pc.toNat + 1 + w.toNat := by omega
  refine ⟨by omega, by omega, by rw [he, w3, h3, hn], ?_⟩
  have hs := emits_step (l := c.code) hi
  have hmono := emits_mono (l := c.code) (i := m.pc.toNat + 1) (j := (m.pc + 1 + w).toNat) (by omega)
  omega

/-- what the stack has, and has room for. -/
theorem stack_room (hd : depthsN c.code = .ok d) (hm : MOk c d m own) (ho : m.over = false) : offN (insAt c.code m.pc.toNat).op ≤ m.stack.length ∧ m.stack.length - offN (insAt c.code m.pc.toNat).op + onN (insAt c.code m.pc.toNat).op ≤ 8 := by
  obtain ⟨h1, h2, h3, h4, _⟩ := hm.at_ ho
  obtain ⟨_, _, hok⟩ := depths_fine hd
  obtain ⟨g1, g2, _⟩ := hok m.pc.toNat (by omega) (by rw [h3]; omega)
  rw [h3] at g1 g2
  omega

theorem over_ok (hm : MOk c d m own) {m' : Mac} (hf : 0 ≤ m'.fuel) (hs : m'.stack = m.stack) (hr : m'.regs = m.regs) (ho : m'.out = m.out) (e : Nat) : MOk c d (overM m' e) own := by
  refine ⟨(fun h => by cases h), hf, by rw [show (overM m' e).stack = m'.stack from rfl, hs]; exact hm.deep, by rw [show (overM m' e).regs = m'.regs from rfl, hr]; exact hm.regs, ?_, ?_, hm.cells, hm.many⟩
  · show (if e = 0 then m'.out else []).length ≤ 8
    split
    · rw [ho]; exact hm.out
    · simp
  · intro h
    show (if e = 0 then m'.out else []) = []
    exact if_neg h

theorem next_ok (hm : MOk c d m own) {m' : Mac} (hf : 0 ≤ m'.fuel) (hs : m'.stack.length ≤ 8) (hr : m'.regs.length = 4) (ht : m'.told = 0) (hg : Goes c d m m'.pc m'.stack.length m'.out.length) (h0 : 0 ≤ m.pc) : MOk c d m' own :=
  ⟨fun _ => ⟨by have := hg.le; omega, hg.lt, hg.deep, hg.out, ht⟩, hf, hs, hr, by have := hg.out; omega, fun h => absurd ht h, hm.cells, hm.many⟩

end

/-- what a step keeps. -/
structure Steps (c : Cmd) (d : List Int) (m : Mac) (own : Blks) (r : Mac × Blks) : Prop where
  ok : MOk c d r.1 r.2
  fuel : r.1.fuel = m.fuel - 1
  pc : m.pc ≤ r.1.pc
  reads : ∀ i, i < c.reads.length → r.2[i]? = own[i]?

theorem do_ok {c : Cmd} {d : List Int} {m : Mac} {own : Blks} (hc : MayBe c) (hd : depthsN c.code = .ok d) (hm : MOk c d m own) (ho : m.over = false) (hf : m.fuel ≠ 0) :
    Steps c d m own (doM c (insAt c.code m.pc.toNat) { m with fuel := m.fuel - 1, pc := m.pc + 1 } own) := by
  obtain ⟨p0, p1, p2, p3, p4⟩ := hm.at_ ho
  have hfu := hm.fuel
  have hi : m.pc.toNat < c.code.length := by omega
  obtain ⟨hright, hbounds⟩ := hc.ops _ (insAt_mem hi)
  obtain ⟨r1, r2⟩ := stack_room hd hm ho
  have hgo := fun (w : Int) (hw : w ∈ waysN (insAt c.code m.pc.toNat)) (n : Nat) hn (o : Nat) hout => goes_way (n := n) (o := o) hd hm ho hw hn hout
  generalize insAt c.code m.pc.toNat = x at *
  obtain ⟨op, a, b⟩ := x
  obtain ⟨⟨o1, o2⟩, -, -⟩ := hright
  simp only at o1 o2 r1 r2 hgo
  have key : ∀ m' : Mac, m'.fuel = m.fuel - 1 → m'.stack.length ≤ 8 → m'.regs.length = 4 → m'.told = m.told → Goes c d m m'.pc m'.stack.length m'.out.length → Steps c d m own (m', own) := fun m' h1 h2 h3 h4 h5 =>
    ⟨next_ok hm (show 0 ≤ m'.fuel by omega) h2 h3 (by rw [h4, p4]) h5 p0, h1, by have := h5.le; simp only; omega, fun _ _ => rfl⟩
  have keyO : ∀ e : Nat, Steps c d m own (overM { m with fuel := m.fuel - 1, pc := m.pc + 1 } e, own) := fun e =>
    ⟨over_ok (m' := { m with fuel := m.fuel - 1, pc := m.pc + 1 }) hm (show 0 ≤ m.fuel - 1 by omega) rfl rfl rfl e, rfl, by show m.pc ≤ m.pc + 1; omega, fun _ _ => rfl⟩
  have hgo0 := hgo 0
  rw [Int.add_zero] at hgo0
  rcases (show op = 1 ∨ op = 2 ∨ op = 3 ∨ op = 4 ∨ op = 5 ∨ op = 6 ∨ op = 13 ∨ op = 14 ∨ op = 15 ∨ op = 16 ∨ op = 17 ∨ (7 ≤ op ∧ op ≤ 12) by omega) with rfl | rfl | rfl | rfl | rfl | rfl | rfl | rfl | rfl | rfl | rfl | h2
  · exact key _ rfl (by simpa [offN, onN] using r2) hm.regs rfl (hgo0 (by simp [waysN]) _ (by simp [offN, onN]) _ (by simp))
  · exact key _ rfl (by simpa [offN, onN] using r2) hm.regs rfl (hgo0 (by simp [waysN]) _ (by simp [offN, onN]) _ (by simp))
  · have h1 : 1 ≤ m.stack.length := by simpa [offN] using r1
    exact key _ rfl (by simp only [popN_length]; have := hm.deep; omega) (by simpa using hm.regs) rfl (hgo0 (by simp [waysN]) _ (by simp only [popN_length]; simp [offN, onN]; omega) _ (by simp))
  · exact key _ rfl (by simpa [offN, onN] using r2) hm.regs rfl (hgo0 (by simp [waysN]) _ (by simp [offN, onN]) _ (by simp))
  · have h1 : 1 ≤ m.stack.length := by simpa [offN] using r1
    obtain ⟨-, -, hb, -⟩ := hbounds
    obtain ⟨b1, b2, b3, b4⟩ := hb rfl
    simp only at b1 b2 b3 b4
    have hmany := hm.many
    have hlt : a.toNat < own.length := by omega
    have hg := hgo0 (by simp [waysN]) (popN m.stack 1).length (by rw [popN_length]; simp [offN, onN]; omega) m.out.length (by simp)
    refine ⟨?_, rfl, by show m.pc ≤ m.pc + 1; omega, fun i hir => ?_⟩
    · refine ⟨fun _ => ⟨by show 0 ≤ m.pc + 1; omega, hg.lt, hg.deep, hg.out, p4⟩, by show 0 ≤ m.fuel - 1; omega, by show (popN m.stack 1).length ≤ 8; rw [popN_length]; have := hm.deep; omega, hm.regs, hm.out, fun h => absurd p4 h, ?_, ?_⟩
      · intro y hy
        rcases List.mem_or_eq_of_mem_set hy with hy | rfl
        · exact hm.cells y hy
        · rw [putC_length, List.getElem?_eq_getElem hlt]
          exact hm.cells _ (List.getElem_mem _)
      · show (own.set _ _).length = _
        rw [List.length_set]
        exact hmany
    · show (own.set a.toNat _)[i]? = _
      rw [List.getElem?_set_ne (by omega)]
  · exact key _ rfl (by simpa [offN, onN] using r2) hm.regs rfl (hgo0 (by simp [waysN]) _ (by simp [offN, onN]) _ (by simp))
  · have h1 : 1 ≤ m.stack.length := by simpa [offN] using r1
    have hlen : ((popN m.stack 1).length : Int) = (m.stack.length : Int) - offN 13 + onN 13 := by rw [popN_length]; simp [offN, onN]; omega
    refine key _ rfl (by simp only [popN_length]; have := hm.deep; omega) hm.regs rfl ?_
    show Goes c d m (if topN m.stack = 0 then m.pc + 1 + a else m.pc + 1) _ _
    split
    · exact hgo a (by simp [waysN]) _ hlen _ (by simp)
    · exact hgo0 (by simp [waysN]) _ hlen _ (by simp)
  · exact key _ rfl hm.deep hm.regs rfl (hgo a (by simp [waysN]) _ (by simp [offN, onN]) _ (by simp))
  · have h1 : 1 ≤ m.stack.length := by simpa [offN] using r1
    exact key _ rfl (by simp only [popN_length]; have := hm.deep; omega) hm.regs rfl (hgo0 (by simp [waysN]) _ (by simp only [popN_length]; simp [offN, onN]; omega) _ (by simp))
  · exact keyO 13
  · exact keyO 0
  · have e : doM c ⟨op, a, b⟩ { m with fuel := m.fuel - 1, pc := m.pc + 1 } own = match twoN op (nextTop m.stack) (topN m.stack) with
        | none => (overM { m with fuel := m.fuel - 1, pc := m.pc + 1 } 12, own)
        | some n => ({ m with fuel := m.fuel - 1, pc := m.pc + 1, stack := popN m.stack 2 ++ [n] }, own) := by
      unfold doM
      simp only
      rw [if_neg (by omega), if_neg (by omega), if_neg (by omega), if_neg (by omega), if_neg (by omega), if_neg (by omega), if_neg (by omega), if_neg (by omega), if_neg (by omega), if_neg (by omega), if_neg (by omega)]
      rfl
    rw [e]
    have hoff : offN op = 2 := by unfold offN; rw [if_neg (by omega), if_pos h2]
    have hon : onN op = 1 := by unfold onN; rw [if_neg (by omega), if_pos h2]
    have hway : waysN ⟨op, a, b⟩ = [0] := by unfold waysN; simp only; rw [if_neg (by omega), if_neg (by omega), if_neg (by omega)]
    have h1 : 2 ≤ m.stack.length := by omega
    cases twoN op (nextTop m.stack) (topN m.stack) with
    | none => exact keyO 12
    | some n =>
      have hl : (popN m.stack 2 ++ [n]).length = m.stack.length - 1 := by rw [List.length_append, popN_length, List.length_singleton]; omega
      exact key _ rfl (by simp only [hl]; have := hm.deep; omega) hm.regs rfl (hgo0 (by rw [hway]; simp) _ (by simp only [hl]; omega) _ (by simp))

/-! ### step by step -/
def stepsM (c : Cmd) : Nat → Mac × Blks → Mac × Blks
  | 0, r => r
  | n + 1, r => stepsM c n (stepM c r.1 r.2)

theorem new_ok {c : Cmd} {d : List Int} {own : Blks} (hc : MayBe c) (hd : depthsN c.code = .ok d) (hn : own.length = c.reads.length + c.writes.length) (h8 : ∀ b ∈ own, b.length = 8) : MOk c d (newM c) own := by
  obtain ⟨f1, f2, f3, f4, f5, f6⟩ := hc.few
  obtain ⟨_, h0, _⟩ := depths_fine hd
  refine ⟨fun _ => ⟨by simp [newM], by simp only [newM]; omega, ?_, ?_, rfl⟩, by simp only [newM]; omega, by simp [newM], by simp [newM], by simp [newM], (fun h => absurd rfl h), h8, hn⟩
  · show dAt d 0 = ((0 : Nat) : Int)
    rw [h0 (by omega)]
    rfl
  · show 0 + emitsN (c.code.drop 0) ≤ 8
    rw [List.drop_zero]
    have := hc.emits
    omega

/-- one step, whatever: all stays as it must be. -/
theorem step_ok {c : Cmd} {d : List Int} {m : Mac} {own : Blks} (hc : MayBe c) (hd : depthsN c.code = .ok d) (hm : MOk c d m own) :
    MOk c d (stepM c m own).1 (stepM c m own).2 ∧ m.pc ≤ (stepM c m own).1.pc ∧ (∀ i, i < c.reads.length → (stepM c m own).2[i]? = own[i]?) ∧
      (m.over = false → (stepM c m own).1.fuel = m.fuel - 1 ∨ ((stepM c m own).1.told = 11 ∧ m.fuel = 0 ∧ (stepM c m own).1.over = true)) := by
  cases ho : m.over with
  | true =>
    rw [step_over ho]
    exact ⟨hm, Int.le_refl _, fun _ _ => rfl, fun h => by cases h⟩
  | false =>
    by_cases hf : m.fuel = 0
    · rw [step_empty ho hf]
      exact ⟨over_ok hm hm.fuel rfl rfl rfl 11, Int.le_refl _, fun _ _ => rfl, fun _ => .inr ⟨rfl, hf, rfl⟩⟩
    · rw [step_goes ho hf]
      obtain ⟨h1, h2, h3, h4⟩ := do_ok hc hd hm ho hf
      exact ⟨h1, h3, h4, fun _ => .inl h2⟩

/-- what a step does hangs on the fuel only in that there is some. -/
theorem do_fuel (c : Cmd) (x : Ins) (m : Mac) (own : Blks) (f : Int) : doM c x { m with fuel := f } own = ({ (doM c x m own).1 with fuel := f }, (doM c x m own).2) := by
  by_cases h1 : x.op = 1
  · simp [doM, h1]
  by_cases h2 : x.op = 2
  · simp [doM, h2]
  by_cases h4 : x.op = 4
  · simp [doM, h4]
  by_cases h6 : x.op = 6
  · simp [doM, h6]
  by_cases h14 : x.op = 14
  · simp [doM, h14]
  by_cases h16 : x.op = 16
  · simp [doM, overM, h16]
  by_cases h17 : x.op = 17
  · simp [doM, overM, h17]
  by_cases h3 : x.op = 3
  · simp [doM, h3]
  by_cases h5 : x.op = 5
  · simp [doM, h5]
  by_cases h13 : x.op = 13
  · simp [doM, h13]
  by_cases h15 : x.op = 15
  · simp [doM, h15]
  simp only [doM, if_neg h1, if_neg h2, if_neg h4, if_neg h6, if_neg h14, if_neg h16, if_neg h17, if_neg h3, if_neg h5, if_neg h13, if_neg h15]
  cases twoN x.op (nextTop m.stack) (topN m.stack) <;> rfl

end Go.Proofs.Ytehaknnoplcbcaa
