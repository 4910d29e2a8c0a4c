/-
  A command at work, on plain numbers: one step; what holds of a machine of a command that may be. No conditions but those that stand there.
-/
import Derived.Test.YtgoamkneenmbgaaPrfQ
import Derived.Test.YtgoamkneenmbgaaCelP
namespace Go.Proofs.Ytgoamkneenmbgaa
open Go.RowKit

structure Mac where
  pc : Int
  fuel : Int
  stack : List Int
  regs : List Int
  out : List Int
  over : Bool
  told : Nat

/-- blocks: eight numbers each. -/
abbrev Blks := List (List Int)

def newM (c : Cmd) : Mac := ⟨0, c.fuel, [], [0, 0, 0, 0], [], false, 0⟩
def overM (m : Mac) (e : Nat) : Mac := { m with over := true, told := e, out := if e = 0 then m.out else [] }

/-- what an instruction makes of two numbers; none: a division by nought. -/
def twoN (op a b : Int) : Option Int :=
  if op = 7 then some (wrap64 (a + b)) else if op = 8 then some (wrap64 (a - b)) else if op = 9 then some (wrap64 (a * b))
  else if op = 10 then (if b = 0 then none else some (wrap64 (a.tdiv b)))
  else if op = 11 then some (if a < b then 1 else 0) else some (if a = b then 1 else 0)

/-- the last one, and the one ahead of it. -/
def topN (l : List Int) : Int := l[l.length - 1]?.getD 0
def nextTop (l : List Int) : Int := l[l.length - 2]?.getD 0
def popN (l : List Int) (k : Nat) : List Int := l.take (l.length - k)

theorem popN_length (l : List Int) (k : Nat) : (popN l k).length = l.length - k := by simp [popN]

/-- behind an instruction, the fuel and the place being reckoned. -/
def doM (c : Cmd) (x : Ins) (m : Mac) (own : Blks) : Mac × Blks :=
  if x.op = 1 then ({ m with stack := m.stack ++ [x.a] }, own)
  else if x.op = 2 then ({ m with stack := m.stack ++ [m.regs[x.a.toNat]?.getD 0] }, own)
  else if x.op = 4 then ({ m with stack := m.stack ++ [getC (own[x.a.toNat]?.getD []) x.b] }, own)
  else if x.op = 6 then ({ m with stack := m.stack ++ [c.args[x.a.toNat]?.getD 0] }, own)
  else if x.op = 14 then ({ m with pc := m.pc + x.a }, own)
  else if x.op = 16 then (overM m 13, own)
  else if x.op = 17 then (overM m 0, own)
  else if x.op = 3 then ({ m with stack := popN m.stack 1, regs := m.regs.set x.a.toNat (topN m.stack) }, own)
  else if x.op = 5 then ({ m with stack := popN m.stack 1 }, own.set x.a.toNat (putC (own[x.a.toNat]?.getD []) x.b (topN m.stack)))
  else if x.op = 13 then ({ m with stack := popN m.stack 1, pc := if topN m.stack = 0 then m.pc + x.a else m.pc }, own)
  else if x.op = 15 then ({ m with stack := popN m.stack 1, out := m.out ++ [topN m.stack] }, own)
  else match twoN x.op (nextTop m.stack) (topN m.stack) with
    | none => (overM m 12, own)
    | some n => ({ m with stack := popN m.stack 2 ++ [n] }, own)

def stepM (c : Cmd) (m : Mac) (own : Blks) : Mac × Blks :=
  if m.over = true then (m, own) else if m.fuel = 0 then (overM m 11, own)
  else doM c (insAt c.code m.pc.toNat) { m with fuel := m.fuel - 1, pc := m.pc + 1 } own

theorem step_over {c : Cmd} {m : Mac} {own : Blks} (h : m.over = true) : stepM c m own = (m, own) := by rw [stepM, if_pos h]
theorem step_empty {c : Cmd} {m : Mac} {own : Blks} (h : m.over = false) (hf : m.fuel = 0) : stepM c m own = (overM m 11, own) := by
  rw [stepM, if_neg (by rw [h]; decide), if_pos hf]
theorem step_goes {c : Cmd} {m : Mac} {own : Blks} (h : m.over = false) (hf : m.fuel ≠ 0) : stepM c m own = doM c (insAt c.code m.pc.toNat) { m with fuel := m.fuel - 1, pc := m.pc + 1 } own := by
  rw [stepM, if_neg (by rw [h]; decide), if_neg hf]

/-- how many emits stand from a place on. -/
def emitsFrom (l : List Ins) (i : Nat) : Nat := emitsN (l.drop i)

theorem emits_step {l : List Ins} {i : Nat} (h : i < l.length) : emitsFrom l i = (if (insAt l i).op = 15 then 1 else 0) + emitsFrom l (i + 1) := by
  unfold emitsFrom emitsN
  rw [List.drop_eq_getElem_cons h, show insAt l i = l[i] by simp [insAt, h]]
  by_cases e : (l[i]).op = 15
  · rw [List.filter_cons_of_pos (by simpa using e), if_pos e, List.length_cons]
    omega
  · rw [List.filter_cons_of_neg (by simpa using e), if_neg e]
    omega

theorem emits_mono {l : List Ins} {i j : Nat} (h : i ≤ j) : emitsFrom l j ≤ emitsFrom l i := by
  unfold emitsFrom emitsN
  obtain ⟨k, rfl⟩ := Nat.exists_eq_add_of_le h
  rw [← List.drop_drop]
  exact List.Sublist.length_le (List.Sublist.filter _ (List.drop_sublist _ _))

/-- a machine of a command that may be. -/
structure MOk (c : Cmd) (d : List Int) (m : Mac) (own : Blks) : Prop where
  at_ : m.over = false → 0 ≤ m.pc ∧ m.pc < c.code.length ∧ dAt d m.pc.toNat = m.stack.length ∧ m.out.length + emitsFrom c.code m.pc.toNat ≤ 8 ∧ m.told = 0
  fuel : 0 ≤ m.fuel
  deep : m.stack.length ≤ 8
  regs : m.regs.length = 4
  out : m.out.length ≤ 8
  told : m.told ≠ 0 → m.out = []
  cells : ∀ b ∈ own, b.length = 8
  many : own.length = c.reads.length + c.writes.length

end Go.Proofs.Ytgoamkneenmbgaa
