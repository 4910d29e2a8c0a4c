/-
  What machine.Step answers: the plain step, in whatever memory, of a machine that has something to work on. No conditions but those that stand there.
-/
import Derived.Test.YtoomadafgkcebaaZMchM
namespace Go.Proofs.Ytoomadafgkcebaa
open Go.RowKit

/-- a register. -/
def rg (l : List Int) (i : Nat) : Int := l[i]?.getD 0

theorem four_of {l : List Int} (h : l.length = 4) : l = [rg l 0, rg l 1, rg l 2, rg l 3] := by
  match l, h with
  | [a, b, c, d], _ => rfl

/-- a machine and blocks in memory: what a step answers. -/
def MacPost (r : Mac × Blks) (w : World) : Ending → World → Prop :=
  SPost r.1.pc r.1.fuel r.1.stack (rg r.1.regs 0) (rg r.1.regs 1) (rg r.1.regs 2) (rg r.1.regs 3) r.1.out r.1.over r.1.told r.2 w

/-- a machine's value. -/
abbrev mM (m : Mac) (sA : Option Addr) (sn sc : Nat) (oA : Option Addr) (on oc : Nat) : Value :=
  .agg (mC m.pc m.fuel (.slice sA sn sc) (rg m.regs 0) (rg m.regs 1) (rg m.regs 2) (rg m.regs 3) (.slice oA on oc) m.over m.told)

theorem MIn.lens {w : World} {st ou : List Int} {own : Blks} {sA : Option Addr} {sn sc : Nat} {oA : Option Addr} {on oc : Nat} {bA : Option Addr} {bn bc : Nat} (h : MIn w st ou own sA sn sc oA on oc bA bn bc) (h8 : ∀ b ∈ own, b.length = 8) : sn = st.length ∧ on = ou.length ∧ bn = own.length := by
  have h1 := h.st.1
  have h2 := h.ou.1
  have h3 := h.bk.1
  rw [blksW_length own h8] at h3
  simp at h1 h2
  omega

section
variable (ra : Option Addr) (nr rc : Nat) (wa : Option Addr) (nw wc : Nat) (aa : Option Addr) (na ac : Nat) (ca : Option Addr) (nc cc : Nat)
variable (sA : Option Addr) (sn sc : Nat) (oA : Option Addr) (on oc : Nat) (bA : Option Addr) (bn bc : Nat)

set_option maxHeartbeats 2000000 in
theorem behind_any (c : Cmd) (x : Ins) (pc fuel : Int) (st ou : List Int) (r0 r1 r2 r3 : Int) (e0 : Nat) (own : Blks) (w : World) (hx : FitI c x ⟨pc, fuel, st, [r0, r1, r2, r3], ou, false, e0⟩ own) (hp : 0 ≤ pc ∧ pc ≤ 2000) (hs8 : st.length ≤ 1000) (ho8 : ou.length ≤ 1000) (h8 : ∀ b ∈ own, b.length = 8) (hm : own.length ≤ 1000)
    (hA : Ints w aa ac c.args) (hna : c.args.length = na) (B : Nat) (hB : B ≤ w.heap.size) (hR : MRow B w st ou own sA sn sc oA on oc bA bn bc) :
    Calls Try.prog 36 #[.agg #[.int .i64 x.op, .int .i64 x.a, .int .i64 x.b], .slice aa na ac, .agg (mC pc fuel (.slice sA sn sc) r0 r1 r2 r3 (.slice oA on oc) false e0), .slice bA bn bc] w
      (StepPost B (.slice sA sn sc) (.slice oA on oc) (.slice bA bn bc) (doM c x ⟨pc, fuel, st, [r0, r1, r2, r3], ou, false, e0⟩ own).1.pc (doM c x ⟨pc, fuel, st, [r0, r1, r2, r3], ou, false, e0⟩ own).1.fuel (doM c x ⟨pc, fuel, st, [r0, r1, r2, r3], ou, false, e0⟩ own).1.stack
        (rg (doM c x ⟨pc, fuel, st, [r0, r1, r2, r3], ou, false, e0⟩ own).1.regs 0) (rg (doM c x ⟨pc, fuel, st, [r0, r1, r2, r3], ou, false, e0⟩ own).1.regs 1) (rg (doM c x ⟨pc, fuel, st, [r0, r1, r2, r3], ou, false, e0⟩ own).1.regs 2) (rg (doM c x ⟨pc, fuel, st, [r0, r1, r2, r3], ou, false, e0⟩ own).1.regs 3)
        (doM c x ⟨pc, fuel, st, [r0, r1, r2, r3], ou, false, e0⟩ own).1.out (doM c x ⟨pc, fuel, st, [r0, r1, r2, r3], ou, false, e0⟩ own).1.over (doM c x ⟨pc, fuel, st, [r0, r1, r2, r3], ou, false, e0⟩ own).1.told (doM c x ⟨pc, fuel, st, [r0, r1, r2, r3], ou, false, e0⟩ own).2 w) := by
  obtain ⟨op, a, b⟩ := x
  obtain ⟨⟨o1, o2⟩, hreg, hblk, harg, hway, hoff⟩ := hx
  simp only at o1 o2 hreg hblk harg hway hoff
  have hsl := hR.slen
  have hol := hR.olen
  have hbl := hR.blen h8
  rcases (show op = 1 ∨ op = 2 ∨ op = 3 ∨ op = 4 ∨ op = 5 ∨ op = 6 ∨ op = 13 ∨ op = 14 ∨ op = 15 ∨ op = 16 ∨ op = 17 ∨ op = 7 ∨ op = 8 ∨ op = 9 ∨ op = 10 ∨ op = 11 ∨ op = 12 by omega) with rfl | rfl | rfl | rfl | rfl | rfl | rfl | rfl | rfl | rfl | rfl | rfl | rfl | rfl | rfl | rfl | rfl
  · exact behind_puts1 pc fuel sA sn sc r0 r1 r2 r3 oA on oc false e0 aa na ac bA bn bc a a b B st ou own w hB hR (by omega) (fun W _ => named_push pc fuel sA sn sc r0 r1 r2 r3 oA on oc false e0 aa na ac bA bn bc a b W)
  · obtain ⟨h1, h2⟩ := hreg (.inl rfl)
    obtain ⟨k, rfl⟩ := Int.eq_ofNat_of_zero_le h1
    have hk : k < 4 := by omega
    refine behind_puts2 pc fuel sA sn sc r0 r1 r2 r3 oA on oc false e0 aa na ac bA bn bc (rg [r0, r1, r2, r3] k) k b B st ou own w hB hR (by omega) (fun W _ => named_load pc fuel sA sn sc r0 r1 r2 r3 oA on oc false e0 aa na ac bA bn bc k b _ hk ?_ W)
    rcases (show k = 0 ∨ k = 1 ∨ k = 2 ∨ k = 3 by omega) with rfl | rfl | rfl | rfl <;> rfl
  · obtain ⟨h1, h2⟩ := hreg (.inr rfl)
    obtain ⟨k, hk⟩ : ∃ k, st.length = k + 1 := ⟨st.length - 1, by simp [offN] at hoff; omega⟩
    obtain rfl : sn = k + 1 := by omega
    have e1 : popN st 1 = st.take k := by rw [popN, hk]; rfl
    have e2 : topN st = st[k]?.getD 0 := by rw [topN, hk]; rfl
    rcases (show a = 0 ∨ a = 1 ∨ a = 2 ∨ a = 3 by omega) with rfl | rfl | rfl | rfl
    · have hd : doM c ⟨3, 0, b⟩ ⟨pc, fuel, st, [r0, r1, r2, r3], ou, false, e0⟩ own = (⟨pc, fuel, st.take k, [st[k]?.getD 0, r1, r2, r3], ou, false, e0⟩, own) := by rw [← e1, ← e2]; rfl
      rw [hd]
      exact behind_takes3 pc fuel sA (k + 1) sc r0 r1 r2 r3 oA on oc false e0 aa na ac bA bn bc _ _ _ _ _ _ _ _ 0 b B st ou own w hB hR (fun W hW => takes_keep0 pc fuel sA sc r0 r1 r2 r3 oA on oc false e0 bA bn bc k b B st ou own W (Nat.le_trans hB hW.size) (hR.below hW) (by omega))
    · have hd : doM c ⟨3, 1, b⟩ ⟨pc, fuel, st, [r0, r1, r2, r3], ou, false, e0⟩ own = (⟨pc, fuel, st.take k, [r0, st[k]?.getD 0, r2, r3], ou, false, e0⟩, own) := by rw [← e1, ← e2]; rfl
      rw [hd]
      exact behind_takes3 pc fuel sA (k + 1) sc r0 r1 r2 r3 oA on oc false e0 aa na ac bA bn bc _ _ _ _ _ _ _ _ 1 b B st ou own w hB hR (fun W hW => takes_keep1 pc fuel sA sc r0 r1 r2 r3 oA on oc false e0 bA bn bc k b B st ou own W (Nat.le_trans hB hW.size) (hR.below hW) (by omega))
    · have hd : doM c ⟨3, 2, b⟩ ⟨pc, fuel, st, [r0, r1, r2, r3], ou, false, e0⟩ own = (⟨pc, fuel, st.take k, [r0, r1, st[k]?.getD 0, r3], ou, false, e0⟩, own) := by rw [← e1, ← e2]; rfl
      rw [hd]
      exact behind_takes3 pc fuel sA (k + 1) sc r0 r1 r2 r3 oA on oc false e0 aa na ac bA bn bc _ _ _ _ _ _ _ _ 2 b B st ou own w hB hR (fun W hW => takes_keep2 pc fuel sA sc r0 r1 r2 r3 oA on oc false e0 bA bn bc k b B st ou own W (Nat.le_trans hB hW.size) (hR.below hW) (by omega))
    · have hd : doM c ⟨3, 3, b⟩ ⟨pc, fuel, st, [r0, r1, r2, r3], ou, false, e0⟩ own = (⟨pc, fuel, st.take k, [r0, r1, r2, st[k]?.getD 0], ou, false, e0⟩, own) := by rw [← e1, ← e2]; rfl
      rw [hd]
      exact behind_takes3 pc fuel sA (k + 1) sc r0 r1 r2 r3 oA on oc false e0 aa na ac bA bn bc _ _ _ _ _ _ _ _ 3 b B st ou own w hB hR (fun W hW => takes_keep3 pc fuel sA sc r0 r1 r2 r3 oA on oc false e0 bA bn bc k b B st ou own W (Nat.le_trans hB hW.size) (hR.below hW) (by omega))
  · obtain ⟨h1, h2⟩ := hblk (.inl rfl)
    obtain ⟨k, rfl⟩ := Int.eq_ofNat_of_zero_le h1
    exact behind_puts4 pc fuel sA sn sc r0 r1 r2 r3 oA on oc false e0 aa na ac bA bn bc (getC (own[k]?.getD []) b) k b B st ou own w hB hR (by omega) (fun W hW => named_get pc fuel sA sn sc r0 r1 r2 r3 oA on oc false e0 aa na ac bA bn bc own W ((hR.blocks h8).below hW) h8 hbl.symm k b (by omega))
  · obtain ⟨h1, h2⟩ := hblk (.inr rfl)
    obtain ⟨j, rfl⟩ := Int.eq_ofNat_of_zero_le h1
    obtain ⟨k, hk⟩ : ∃ k, st.length = k + 1 := ⟨st.length - 1, by simp [offN] at hoff; omega⟩
    obtain rfl : sn = k + 1 := by omega
    have e1 : popN st 1 = st.take k := by rw [popN, hk]; rfl
    have e2 : topN st = st[k]?.getD 0 := by rw [topN, hk]; rfl
    have hd : doM c ⟨5, j, b⟩ ⟨pc, fuel, st, [r0, r1, r2, r3], ou, false, e0⟩ own = (⟨pc, fuel, st.take k, [r0, r1, r2, r3], ou, false, e0⟩, own.set j (putC (own[j]?.getD []) b (st[k]?.getD 0))) := by rw [← e1, ← e2]; rfl
    rw [hd]
    exact behind_takes5 pc fuel sA (k + 1) sc r0 r1 r2 r3 oA on oc false e0 aa na ac bA bn bc _ _ _ _ _ _ _ _ j b B st ou own w hB hR (fun W hW => takes_put pc fuel sA sc r0 r1 r2 r3 oA on oc false e0 bA bn bc k j b B st ou own W (Nat.le_trans hB hW.size) (hR.below hW) (by omega) h8 (by omega) hm)
  · obtain ⟨h1, h2⟩ := harg rfl
    obtain ⟨k, rfl⟩ := Int.eq_ofNat_of_zero_le h1
    exact behind_puts6 pc fuel sA sn sc r0 r1 r2 r3 oA on oc false e0 aa na ac bA bn bc (c.args[k]?.getD 0) k b B st ou own w hB hR (by omega) (fun W hW => named_arg pc fuel sA sn sc r0 r1 r2 r3 oA on oc false e0 aa na ac bA bn bc c.args W (hA.below hW) hna k b (by omega))
  · have ha := hway (.inl rfl)
    obtain ⟨k, hk⟩ : ∃ k, st.length = k + 1 := ⟨st.length - 1, by simp [offN] at hoff; omega⟩
    obtain rfl : sn = k + 1 := by omega
    have e1 : popN st 1 = st.take k := by rw [popN, hk]; rfl
    have e2 : topN st = st[k]?.getD 0 := by rw [topN, hk]; rfl
    have hd : doM c ⟨13, a, b⟩ ⟨pc, fuel, st, [r0, r1, r2, r3], ou, false, e0⟩ own = (⟨if (st[k]?.getD 0 == 0) = true then pc + a else pc, fuel, st.take k, [r0, r1, r2, r3], ou, false, e0⟩, own) := by
      rw [← e1, ← e2]
      simp [doM]
    rw [hd]
    exact behind_takes13 pc fuel sA (k + 1) sc r0 r1 r2 r3 oA on oc false e0 aa na ac bA bn bc _ _ _ _ _ _ _ _ a b B st ou own w hB hR (fun W hW => takes_skip pc fuel sA sc r0 r1 r2 r3 oA on oc false e0 bA bn bc k a b B st ou own W (Nat.le_trans hB hW.size) (hR.below hW) (by omega) ha hp _ rfl)
  · exact behind_go pc fuel sA sn sc r0 r1 r2 r3 oA on oc false e0 aa na ac bA bn bc a b B st ou own w hB hR (hway (.inr rfl)) hp
  · obtain ⟨k, hk⟩ : ∃ k, st.length = k + 1 := ⟨st.length - 1, by simp [offN] at hoff; omega⟩
    obtain rfl : sn = k + 1 := by omega
    have e1 : popN st 1 = st.take k := by rw [popN, hk]; rfl
    have e2 : topN st = st[k]?.getD 0 := by rw [topN, hk]; rfl
    have hd : doM c ⟨15, a, b⟩ ⟨pc, fuel, st, [r0, r1, r2, r3], ou, false, e0⟩ own = (⟨pc, fuel, st.take k, [r0, r1, r2, r3], ou ++ [st[k]?.getD 0], false, e0⟩, own) := by rw [← e1, ← e2]; rfl
    rw [hd]
    exact behind_takes15 pc fuel sA (k + 1) sc r0 r1 r2 r3 oA on oc false e0 aa na ac bA bn bc _ _ _ _ _ _ _ _ a b B st ou own w hB hR (fun W hW => takes_emit pc fuel sA sc r0 r1 r2 r3 oA on oc false e0 bA bn bc k a b B st ou own W (Nat.le_trans hB hW.size) (hR.below hW) (by omega) (by omega))
  · exact behind_stop pc fuel sA sn sc r0 r1 r2 r3 oA on oc false e0 aa na ac bA bn bc a b B st ou own w hB hR
  · exact behind_end pc fuel sA sn sc r0 r1 r2 r3 oA on oc false e0 aa na ac bA bn bc a b B st ou own w hB hR
  · obtain ⟨k, hk⟩ : ∃ k, st.length = k + 2 := ⟨st.length - 2, by simp [offN] at hoff; omega⟩
    obtain rfl : sn = k + 2 := by omega
    have e1 : popN st 2 = st.take k := by rw [popN, hk]; rfl
    have e2 : topN st = st[k + 1]?.getD 0 := by rw [topN, hk]; rfl
    have e3 : nextTop st = st[k]?.getD 0 := by rw [nextTop, hk]; rfl
    have e0' : doM c ⟨7, a, b⟩ ⟨pc, fuel, st, [r0, r1, r2, r3], ou, false, e0⟩ own = (match twoN 7 (nextTop st) (topN st) with
      | none => (overM ⟨pc, fuel, st, [r0, r1, r2, r3], ou, false, e0⟩ 12, own)
      | some n => (⟨pc, fuel, popN st 2 ++ [n], [r0, r1, r2, r3], ou, false, e0⟩, own)) := rfl
    cases ht : twoN 7 (st[k]?.getD 0) (st[k + 1]?.getD 0) with
    | none =>
      have hd : doM c ⟨7, a, b⟩ ⟨pc, fuel, st, [r0, r1, r2, r3], ou, false, e0⟩ own = (⟨pc, fuel, st, [r0, r1, r2, r3], [], true, 12⟩, own) := by
        rw [e0', e2, e3, ht]
        rfl
      rw [hd]
      exact behind_reckons7 pc fuel sA (k + 2) sc r0 r1 r2 r3 oA on oc false e0 aa na ac bA bn bc _ _ _ _ a b B st ou own w hB hR (fun W hW => reckons_zero pc fuel sA sc r0 r1 r2 r3 oA on oc false e0 bA bn bc 7 (by decide) k B st ou own W (Nat.le_trans hB hW.size) (hR.below hW) (by omega) ht)
    | some n =>
      have hd : doM c ⟨7, a, b⟩ ⟨pc, fuel, st, [r0, r1, r2, r3], ou, false, e0⟩ own = (⟨pc, fuel, st.take k ++ [n], [r0, r1, r2, r3], ou, false, e0⟩, own) := by
        rw [e0', e2, e3, ht, ← e1]
      rw [hd]
      exact behind_reckons7 pc fuel sA (k + 2) sc r0 r1 r2 r3 oA on oc false e0 aa na ac bA bn bc _ _ _ _ a b B st ou own w hB hR (fun W hW => reckons_some pc fuel sA sc r0 r1 r2 r3 oA on oc false e0 bA bn bc 7 n (by decide) k B st ou own W (Nat.le_trans hB hW.size) (hR.below hW) (by omega) ht)
  · obtain ⟨k, hk⟩ : ∃ k, st.length = k + 2 := ⟨st.length - 2, by simp [offN] at hoff; omega⟩
    obtain rfl : sn = k + 2 := by omega
    have e1 : popN st 2 = st.take k := by rw [popN, hk]; rfl
    have e2 : topN st = st[k + 1]?.getD 0 := by rw [topN, hk]; rfl
    have e3 : nextTop st = st[k]?.getD 0 := by rw [nextTop, hk]; rfl
    have e0' : doM c ⟨8, a, b⟩ ⟨pc, fuel, st, [r0, r1, r2, r3], ou, false, e0⟩ own = (match twoN 8 (nextTop st) (topN st) with
      | none => (overM ⟨pc, fuel, st, [r0, r1, r2, r3], ou, false, e0⟩ 12, own)
      | some n => (⟨pc, fuel, popN st 2 ++ [n], [r0, r1, r2, r3], ou, false, e0⟩, own)) := rfl
    cases ht : twoN 8 (st[k]?.getD 0) (st[k + 1]?.getD 0) with
    | none =>
      have hd : doM c ⟨8, a, b⟩ ⟨pc, fuel, st, [r0, r1, r2, r3], ou, false, e0⟩ own = (⟨pc, fuel, st, [r0, r1, r2, r3], [], true, 12⟩, own) := by
        rw [e0', e2, e3, ht]
        rfl
      rw [hd]
      exact behind_reckons8 pc fuel sA (k + 2) sc r0 r1 r2 r3 oA on oc false e0 aa na ac bA bn bc _ _ _ _ a b B st ou own w hB hR (fun W hW => reckons_zero pc fuel sA sc r0 r1 r2 r3 oA on oc false e0 bA bn bc 8 (by decide) k B st ou own W (Nat.le_trans hB hW.size) (hR.below hW) (by omega) ht)
    | some n =>
      have hd : doM c ⟨8, a, b⟩ ⟨pc, fuel, st, [r0, r1, r2, r3], ou, false, e0⟩ own = (⟨pc, fuel, st.take k ++ [n], [r0, r1, r2, r3], ou, false, e0⟩, own) := by
        rw [e0', e2, e3, ht, ← e1]
      rw [hd]
      exact behind_reckons8 pc fuel sA (k + 2) sc r0 r1 r2 r3 oA on oc false e0 aa na ac bA bn bc _ _ _ _ a b B st ou own w hB hR (fun W hW => reckons_some pc fuel sA sc r0 r1 r2 r3 oA on oc false e0 bA bn bc 8 n (by decide) k B st ou own W (Nat.le_trans hB hW.size) (hR.below hW) (by omega) ht)
  · obtain ⟨k, hk⟩ : ∃ k, st.length = k + 2 := ⟨st.length - 2, by simp [offN] at hoff; omega⟩
    obtain rfl : sn = k + 2 := by omega
    have e1 : popN st 2 = st.take k := by rw [popN, hk]; rfl
    have e2 : topN st = st[k + 1]?.getD 0 := by rw [topN, hk]; rfl
    have e3 : nextTop st = st[k]?.getD 0 := by rw [nextTop, hk]; rfl
    have e0' : doM c ⟨9, a, b⟩ ⟨pc, fuel, st, [r0, r1, r2, r3], ou, false, e0⟩ own = (match twoN 9 (nextTop st) (topN st) with
      | none => (overM ⟨pc, fuel, st, [r0, r1, r2, r3], ou, false, e0⟩ 12, own)
      | some n => (⟨pc, fuel, popN st 2 ++ [n], [r0, r1, r2, r3], ou, false, e0⟩, own)) := rfl
    cases ht : twoN 9 (st[k]?.getD 0) (st[k + 1]?.getD 0) with
    | none =>
      have hd : doM c ⟨9, a, b⟩ ⟨pc, fuel, st, [r0, r1, r2, r3], ou, false, e0⟩ own = (⟨pc, fuel, st, [r0, r1, r2, r3], [], true, 12⟩, own) := by
        rw [e0', e2, e3, ht]
        rfl
      rw [hd]
      exact behind_reckons9 pc fuel sA (k + 2) sc r0 r1 r2 r3 oA on oc false e0 aa na ac bA bn bc _ _ _ _ a b B st ou own w hB hR (fun W hW => reckons_zero pc fuel sA sc r0 r1 r2 r3 oA on oc false e0 bA bn bc 9 (by decide) k B st ou own W (Nat.le_trans hB hW.size) (hR.below hW) (by omega) ht)
    | some n =>
      have hd : doM c ⟨9, a, b⟩ ⟨pc, fuel, st, [r0, r1, r2, r3], ou, false, e0⟩ own = (⟨pc, fuel, st.take k ++ [n], [r0, r1, r2, r3], ou, false, e0⟩, own) := by
        rw [e0', e2, e3, ht, ← e1]
      rw [hd]
      exact behind_reckons9 pc fuel sA (k + 2) sc r0 r1 r2 r3 oA on oc false e0 aa na ac bA bn bc _ _ _ _ a b B st ou own w hB hR (fun W hW => reckons_some pc fuel sA sc r0 r1 r2 r3 oA on oc false e0 bA bn bc 9 n (by decide) k B st ou own W (Nat.le_trans hB hW.size) (hR.below hW) (by omega) ht)
  · obtain ⟨k, hk⟩ : ∃ k, st.length = k + 2 := ⟨st.length - 2, by simp [offN] at hoff; omega⟩
    obtain rfl : sn = k + 2 := by omega
    have e1 : popN st 2 = st.take k := by rw [popN, hk]; rfl
    have e2 : topN st = st[k + 1]?.getD 0 := by rw [topN, hk]; rfl
    have e3 : nextTop st = st[k]?.getD 0 := by rw [nextTop, hk]; rfl
    have e0' : doM c ⟨10, a, b⟩ ⟨pc, fuel, st, [r0, r1, r2, r3], ou, false, e0⟩ own = (match twoN 10 (nextTop st) (topN st) with
      | none => (overM ⟨pc, fuel, st, [r0, r1, r2, r3], ou, false, e0⟩ 12, own)
      | some n => (⟨pc, fuel, popN st 2 ++ [n], [r0, r1, r2, r3], ou, false, e0⟩, own)) := rfl
    cases ht : twoN 10 (st[k]?.getD 0) (st[k + 1]?.getD 0) with
    | none =>
      have hd : doM c ⟨10, a, b⟩ ⟨pc, fuel, st, [r0, r1, r2, r3], ou, false, e0⟩ own = (⟨pc, fuel, st, [r0, r1, r2, r3], [], true, 12⟩, own) := by
        rw [e0', e2, e3, ht]
        rfl
      rw [hd]
      exact behind_reckons10 pc fuel sA (k + 2) sc r0 r1 r2 r3 oA on oc false e0 aa na ac bA bn bc _ _ _ _ a b B st ou own w hB hR (fun W hW => reckons_zero pc fuel sA sc r0 r1 r2 r3 oA on oc false e0 bA bn bc 10 (by decide) k B st ou own W (Nat.le_trans hB hW.size) (hR.below hW) (by omega) ht)
    | some n =>
      have hd : doM c ⟨10, a, b⟩ ⟨pc, fuel, st, [r0, r1, r2, r3], ou, false, e0⟩ own = (⟨pc, fuel, st.take k ++ [n], [r0, r1, r2, r3], ou, false, e0⟩, own) := by
        rw [e0', e2, e3, ht, ← e1]
      rw [hd]
      exact behind_reckons10 pc fuel sA (k + 2) sc r0 r1 r2 r3 oA on oc false e0 aa na ac bA bn bc _ _ _ _ a b B st ou own w hB hR (fun W hW => reckons_some pc fuel sA sc r0 r1 r2 r3 oA on oc false e0 bA bn bc 10 n (by decide) k B st ou own W (Nat.le_trans hB hW.size) (hR.below hW) (by omega) ht)
  · obtain ⟨k, hk⟩ : ∃ k, st.length = k + 2 := ⟨st.length - 2, by simp [offN] at hoff; omega⟩
    obtain rfl : sn = k + 2 := by omega
    have e1 : popN st 2 = st.take k := by rw [popN, hk]; rfl
    have e2 : topN st = st[k + 1]?.getD 0 := by rw [topN, hk]; rfl
    have e3 : nextTop st = st[k]?.getD 0 := by rw [nextTop, hk]; rfl
    have e0' : doM c ⟨11, a, b⟩ ⟨pc, fuel, st, [r0, r1, r2, r3], ou, false, e0⟩ own = (match twoN 11 (nextTop st) (topN st) with
      | none => (overM ⟨pc, fuel, st, [r0, r1, r2, r3], ou, false, e0⟩ 12, own)
      | some n => (⟨pc, fuel, popN st 2 ++ [n], [r0, r1, r2, r3], ou, false, e0⟩, own)) := rfl
    cases ht : twoN 11 (st[k]?.getD 0) (st[k + 1]?.getD 0) with
    | none =>
      have hd : doM c ⟨11, a, b⟩ ⟨pc, fuel, st, [r0, r1, r2, r3], ou, false, e0⟩ own = (⟨pc, fuel, st, [r0, r1, r2, r3], [], true, 12⟩, own) := by
        rw [e0', e2, e3, ht]
        rfl
      rw [hd]
      exact behind_reckons11 pc fuel sA (k + 2) sc r0 r1 r2 r3 oA on oc false e0 aa na ac bA bn bc _ _ _ _ a b B st ou own w hB hR (fun W hW => reckons_zero pc fuel sA sc r0 r1 r2 r3 oA on oc false e0 bA bn bc 11 (by decide) k B st ou own W (Nat.le_trans hB hW.size) (hR.below hW) (by omega) ht)
    | some n =>
      have hd : doM c ⟨11, a, b⟩ ⟨pc, fuel, st, [r0, r1, r2, r3], ou, false, e0⟩ own = (⟨pc, fuel, st.take k ++ [n], [r0, r1, r2, r3], ou, false, e0⟩, own) := by
        rw [e0', e2, e3, ht, ← e1]
      rw [hd]
      exact behind_reckons11 pc fuel sA (k + 2) sc r0 r1 r2 r3 oA on oc false e0 aa na ac bA bn bc _ _ _ _ a b B st ou own w hB hR (fun W hW => reckons_some pc fuel sA sc r0 r1 r2 r3 oA on oc false e0 bA bn bc 11 n (by decide) k B st ou own W (Nat.le_trans hB hW.size) (hR.below hW) (by omega) ht)
  · obtain ⟨k, hk⟩ : ∃ k, st.length = k + 2 := ⟨st.length - 2, by simp [offN] at hoff; omega⟩
    obtain rfl : sn = k + 2 := by omega
    have e1 : popN st 2 = st.take k := by rw [popN, hk]; rfl
    have e2 : topN st = st[k + 1]?.getD 0 := by rw [topN, hk]; rfl
    have e3 : nextTop st = st[k]?.getD 0 := by rw [nextTop, hk]; rfl
    have e0' : doM c ⟨12, a, b⟩ ⟨pc, fuel, st, [r0, r1, r2, r3], ou, false, e0⟩ own = (match twoN 12 (nextTop st) (topN st) with
      | none => (overM ⟨pc, fuel, st, [r0, r1, r2, r3], ou, false, e0⟩ 12, own)
      | some n => (⟨pc, fuel, popN st 2 ++ [n], [r0, r1, r2, r3], ou, false, e0⟩, own)) := rfl
    cases ht : twoN 12 (st[k]?.getD 0) (st[k + 1]?.getD 0) with
    | none =>
      have hd : doM c ⟨12, a, b⟩ ⟨pc, fuel, st, [r0, r1, r2, r3], ou, false, e0⟩ own = (⟨pc, fuel, st, [r0, r1, r2, r3], [], true, 12⟩, own) := by
        rw [e0', e2, e3, ht]
        rfl
      rw [hd]
      exact behind_reckons12 pc fuel sA (k + 2) sc r0 r1 r2 r3 oA on oc false e0 aa na ac bA bn bc _ _ _ _ a b B st ou own w hB hR (fun W hW => reckons_zero pc fuel sA sc r0 r1 r2 r3 oA on oc false e0 bA bn bc 12 (by decide) k B st ou own W (Nat.le_trans hB hW.size) (hR.below hW) (by omega) ht)
    | some n =>
      have hd : doM c ⟨12, a, b⟩ ⟨pc, fuel, st, [r0, r1, r2, r3], ou, false, e0⟩ own = (⟨pc, fuel, st.take k ++ [n], [r0, r1, r2, r3], ou, false, e0⟩, own) := by
        rw [e0', e2, e3, ht, ← e1]
      rw [hd]
      exact behind_reckons12 pc fuel sA (k + 2) sc r0 r1 r2 r3 oA on oc false e0 aa na ac bA bn bc _ _ _ _ a b B st ou own w hB hR (fun W hW => reckons_some pc fuel sA sc r0 r1 r2 r3 oA on oc false e0 bA bn bc 12 n (by decide) k B st ou own W (Nat.le_trans hB hW.size) (hR.below hW) (by omega) ht)

set_option maxHeartbeats 2000000 in
/-- a step. -/
theorem step_any (c : Cmd) (m : Mac) (own : Blks) (w : World) (hf : Fit c m own) (hC : CmIn w c ra nr rc wa nw wc aa na ac ca nc cc) (hM : MIn w m.stack m.out own sA sn sc oA on oc bA bn bc) :
    Calls Try.prog 21 #[cmV ra nr rc wa nw wc aa na ac c.fuel ca nc cc, mM m sA sn sc oA on oc, .slice bA bn bc] w (MacPost (stepM c m own) w) := by
  obtain ⟨l1, l2, l3⟩ := hM.lens hf.cells
  obtain ⟨pc, fuel, st, regs, ou, ov, e0⟩ := m
  have h4 := four_of hf.regs
  simp only at h4 l1 l2
  generalize rg regs 0 = r0 at *
  generalize rg regs 1 = r1 at *
  generalize rg regs 2 = r2 at *
  generalize rg regs 3 = r3 at *
  subst h4
  have d1 := hf.deep
  have d2 := hf.outs
  have d3 := hf.many
  have d4 := hf.fuel
  have d5 := hC.bc
  have d6 := hC.lc
  simp only at d1 d2 d3 d4
  cases ov with
  | true =>
    rw [step_over rfl]
    exact step_ov ra nr rc wa nw wc aa na ac c.fuel ca nc cc pc fuel sA sn sc r0 r1 r2 r3 oA on oc e0 bA bn bc st ou own w hM (by omega) (by omega) (by omega)
  | false =>
    by_cases h0 : fuel = 0
    · rw [step_empty rfl h0]
      exact step_nofuel ra nr rc wa nw wc aa na ac c.fuel ca nc cc pc fuel sA sn sc r0 r1 r2 r3 oA on oc e0 bA bn bc st ou own w hM (by omega) (by omega) (by omega) (by omega)
    · rw [step_goes rfl h0]
      obtain ⟨g1, g2, g3, g4⟩ := hf.goes rfl h0
      simp only at g1 g2 g4
      obtain ⟨i, rfl⟩ := Int.eq_ofNat_of_zero_le g1
      rw [Int.toNat_natCast] at g4
      refine step_go ra nr rc wa nw wc aa na ac c.fuel ca nc cc i fuel sA sn sc r0 r1 r2 r3 oA on oc e0 bA bn bc st ou own w hM (by omega) (by omega) (by omega) ⟨by omega, d4.2⟩ c.code hC.code d6 i (by omega) rfl (by omega)
        _ _ _ _ _ _ _ _ _ _ _ (fun W sA' sc' oA' oc' bA' bc' hW hR => ?_)
      exact behind_any aa na ac sA' sn sc' oA' on oc' bA' bn bc' c (insAt c.code i) ((i : Int) + 1) (fuel - 1) st ou r0 r1 r2 r3 e0 own W ⟨g4.op, g4.reg, g4.blk, g4.arg, g4.way, g4.off⟩ (by omega) (by omega) (by omega) hf.cells (by omega) (hC.args.below hW) hC.la w.heap.size hW.size hR

end
end Go.Proofs.Ytoomadafgkcebaa
