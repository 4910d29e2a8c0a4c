/-
  What run.Whole and run.Some, and the reference's, answer of a command that may be, with its machine taken apart. No conditions but those that stand there.
-/
import Derived.Test.YtoomadafgkcebaaZRunB
import Derived.Test.YtoomadafgkcebaaZMchS
import Derived.Test.YtoomadafgkcebaaZRunQ
namespace Go.Proofs.Ytoomadafgkcebaa
open Go.RowKit

/-- a machine, blocks and a number. -/
def XPost (pc fuel : Int) (st : List Int) (r0 r1 r2 r3 : Int) (ou : List Int) (ov : Bool) (e0 : Int) (own : Blks) (n : Nat) (w : World) (e : Ending) (w' : World) : Prop :=
  ∃ sA sn sc oA on oc bA bn bc, e = .returned (.tuple #[.agg (mC pc fuel (.slice sA sn sc) r0 r1 r2 r3 (.slice oA on oc) ov e0), .slice bA bn bc, .int .i64 (n : Int)]) ∧ MIn w' st ou own sA sn sc oA on oc bA bn bc ∧ Below w.heap.size w w'
/-- a machine and blocks. -/
def YPost (pc fuel : Int) (st : List Int) (r0 r1 r2 r3 : Int) (ou : List Int) (ov : Bool) (e0 : Int) (own : Blks) (w : World) (e : Ending) (w' : World) : Prop :=
  ∃ sA sn sc oA on oc bA bn bc, e = .returned (.tuple #[.agg (mC pc fuel (.slice sA sn sc) r0 r1 r2 r3 (.slice oA on oc) ov e0), .slice bA bn bc]) ∧ MIn w' st ou own sA sn sc oA on oc bA bn bc ∧ Below w.heap.size w w'

/-- behind so many steps. -/
structure RunsTo (c : Cmd) (own : Blks) (n : Nat) (pc f : Int) (st regs ou : List Int) (ov : Bool) (to : Nat) (bl : Blks) : Prop where
  is : stepsM c n (newM c, own) = (⟨pc, f, st, regs, ou, ov, to⟩, bl)
  deep : st.length ≤ 8
  out : ou.length ≤ 8
  cells : ∀ b ∈ bl, b.length = 8
  many : bl.length = own.length

theorem runs_to {c : Cmd} {own : Blks} (hm : MayBe c) (hown : own.length = c.reads.length + c.writes.length) (h8 : ∀ b ∈ own, b.length = 8) (n : Nat) :
    ∃ pc f st regs ou ov to bl, RunsTo c own n pc f st regs ou ov to bl := by
  obtain ⟨d, hd⟩ := hm.depths
  have h := steps_ok hm hd (r := (newM c, own)) (new_ok hm hd hown h8) n
  obtain ⟨⟨⟨pc, f, st, regs, ou, ov, to⟩, bl⟩, hr⟩ : ∃ r, r = stepsM c n (newM c, own) := ⟨_, rfl⟩
  rw [← hr] at h
  exact ⟨pc, f, st, regs, ou, ov, to, bl, hr.symm, h.deep, h.out, h.cells, by rw [h.many, hown]⟩

/-- its end. -/
theorem run_ends {c : Cmd} {own : Blks} (hm : MayBe c) (hown : own.length = c.reads.length + c.writes.length) (h8 : ∀ b ∈ own, b.length = 8) :
    ∃ n pc f st regs ou to bl, Ends c (newM c, own) n ∧ RunsTo c own n pc f st regs ou true to bl ∧ 1 ≤ n ∧ n ≤ 201 ∧ (n : Int) ≤ c.fuel + 1 ∧ (to = 0 ∨ to = 11 ∨ to = 12 ∨ to = 13) ∧ ((n : Int) = c.fuel + 1 ↔ to = 11) := by
  obtain ⟨d, hd⟩ := hm.depths
  obtain ⟨-, -, -, -, f5, f6⟩ := hm.few
  obtain ⟨N, hN⟩ := Int.eq_ofNat_of_zero_le (show (0 : Int) ≤ c.fuel by omega)
  have h0 := new_ok hm hd hown h8
  obtain ⟨n, -, hE⟩ := ends hm hd N (newM c, own) h0 hN
  obtain ⟨g1, g2, g3, g4⟩ := end_bound hm hd (r := (newM c, own)) h0 rfl hE
  rw [show (newM c, own).1.fuel = c.fuel from rfl] at g2 g4
  obtain ⟨pc, f, st, regs, ou, ov, to, bl, hR⟩ := runs_to hm hown h8 n
  have ho := hE.over
  rw [hR.is] at ho g3 g4
  simp only at ho g3 g4
  subst ho
  exact ⟨n, pc, f, st, regs, ou, to, bl, hE, hR, g1, by omega, g2, g3, g4⟩

section
variable (ra : Option Addr) (nr rc : Nat) (wa : Option Addr) (nw wc : Nat) (aa : Option Addr) (na ac : Nat) (ca : Option Addr) (nc cc : Nat)
variable {c : Cmd} {own : Blks} {n : Nat} {pc f : Int} {st regs ou : List Int} {ov : Bool} {to : Nat} {bl : Blks} {bA : Option Addr} {bn bc : Nat}

theorem whole_runs (hm : MayBe c) (hown : own.length = c.reads.length + c.writes.length) (h8 : ∀ b ∈ own, b.length = 8) (hE : Ends c (newM c, own) n) (hn : n ≤ 201) (hR : RunsTo c own n pc f st regs ou ov to bl)
    (w : World) (hC : CmIn w c ra nr rc wa nw wc aa na ac ca nc cc) (hO : Sl w 8 bA bn bc (blksW own)) :
    Calls Try.prog 9 #[cmV ra nr rc wa nw wc aa na ac c.fuel ca nc cc, .slice bA bn bc] w (XPost pc f st (rg regs 0) (rg regs 1) (rg regs 2) (rg regs 3) ou ov to bl n w) := by
  obtain ⟨d, hd⟩ := hm.depths
  have h := whole_any ra nr rc wa nw wc aa na ac ca nc cc c own n bA bn bc w hC hO (by omega) hE (fun k _ => steps_fit hm hd hown h8 k)
  rw [hR.is] at h
  exact h

theorem rwhole_runs (hm : MayBe c) (hown : own.length = c.reads.length + c.writes.length) (h8 : ∀ b ∈ own, b.length = 8) (hE : Ends c (newM c, own) n) (hn : n ≤ 201) (hR : RunsTo c own n pc f st regs ou ov to bl)
    (w : World) (hC : CmIn w c ra nr rc wa nw wc aa na ac ca nc cc) (hO : Sl w 8 bA bn bc (blksW own)) :
    Calls Try.prog 10 #[cmV ra nr rc wa nw wc aa na ac c.fuel ca nc cc, .slice bA bn bc] w (XPost pc f st (rg regs 0) (rg regs 1) (rg regs 2) (rg regs 3) ou ov to bl n w) := by
  obtain ⟨d, hd⟩ := hm.depths
  have h := rwhole_any ra nr rc wa nw wc aa na ac ca nc cc c own n bA bn bc w hC hO (by omega) hE (fun k _ => steps_fit hm hd hown h8 k)
  rw [hR.is] at h
  exact h

theorem some_runs (hm : MayBe c) (hown : own.length = c.reads.length + c.writes.length) (h8 : ∀ b ∈ own, b.length = 8) (hE : Ends c (newM c, own) n) (hn : n ≤ 201) {most : Int} (hmo : -9223372036854775808 ≤ most ∧ most ≤ 9223372036854775807) (hR : RunsTo c own most.toNat pc f st regs ou ov to bl)
    (w : World) (hC : CmIn w c ra nr rc wa nw wc aa na ac ca nc cc) (hO : Sl w 8 bA bn bc (blksW own)) (hb : bn ≤ 1000) :
    Calls Try.prog 11 #[cmV ra nr rc wa nw wc aa na ac c.fuel ca nc cc, .slice bA bn bc, .int .i64 most] w (YPost pc f st (rg regs 0) (rg regs 1) (rg regs 2) (rg regs 3) ou ov to bl w) := by
  obtain ⟨d, hd⟩ := hm.depths
  have h := some_any ra nr rc wa nw wc aa na ac ca nc cc c own n most bA bn bc w hC hO (by omega) hb hmo hE (fun k _ => steps_fit hm hd hown h8 k)
  rw [hR.is] at h
  exact h

theorem rsome_runs (hm : MayBe c) (hown : own.length = c.reads.length + c.writes.length) (h8 : ∀ b ∈ own, b.length = 8) (hE : Ends c (newM c, own) n) (hn : n ≤ 201) {most : Int} (hmo : -9223372036854775808 ≤ most ∧ most ≤ 9223372036854775807) (hR : RunsTo c own most.toNat pc f st regs ou ov to bl)
    (w : World) (hC : CmIn w c ra nr rc wa nw wc aa na ac ca nc cc) (hO : Sl w 8 bA bn bc (blksW own)) :
    Calls Try.prog 12 #[cmV ra nr rc wa nw wc aa na ac c.fuel ca nc cc, .slice bA bn bc, .int .i64 most] w (YPost pc f st (rg regs 0) (rg regs 1) (rg regs 2) (rg regs 3) ou ov to bl w) := by
  obtain ⟨d, hd⟩ := hm.depths
  have h := rsome_any ra nr rc wa nw wc aa na ac ca nc cc c own n most bA bn bc w hC hO (by omega) hmo hE (fun k _ => steps_fit hm hd hown h8 k)
  rw [hR.is] at h
  exact h
end

/-- the same machines, wherever their lists lie: alike. -/
theorem same_mins {st ou : List Int} {bl : Blks} (h8 : ∀ b ∈ bl, b.length = 8) (hs : st.length ≤ 8) (ho : ou.length ≤ 8) {w : World} {sA : Option Addr} {sn sc : Nat} {oA : Option Addr} {on oc : Nat} {bA : Option Addr} {bn bc : Nat} {sA' : Option Addr} {sn' sc' : Nat} {oA' : Option Addr} {on' oc' : Nat} {bA' : Option Addr} {bn' bc' : Nat}
    (h : MIn w st ou bl sA sn sc oA on oc bA bn bc) (h' : MIn w st ou bl sA' sn' sc' oA' on' oc' bA' bn' bc') (pc fuel : Int) (r0 r1 r2 r3 : Int) (ov : Bool) (e0 : Int) :
    Calls Try.prog 13 #[.agg (mC pc fuel (.slice sA sn sc) r0 r1 r2 r3 (.slice oA on oc) ov e0), .agg (mC pc fuel (.slice sA' sn' sc') r0 r1 r2 r3 (.slice oA' on' oc') ov e0)] w fun e w' => e = .returned (.bool true) ∧ Below w.heap.size w w' := by
  obtain ⟨p1, p2, -⟩ := h.lens h8
  obtain ⟨q1, q2, -⟩ := h'.lens h8
  obtain rfl : sn = sn' := by omega
  obtain rfl : on = on' := by omega
  exact rsame_yes pc fuel st ou r0 r1 r2 r3 ov e0 sA sA' _ sc sc' oA oA' _ oc oc' w h.st h'.st h.ou h'.ou (by omega) (by omega)

theorem same_bks {st ou st' ou' : List Int} {bl : Blks} (h8 : ∀ b ∈ bl, b.length = 8) (hb : bl.length ≤ 1000) {w : World} {sA : Option Addr} {sn sc : Nat} {oA : Option Addr} {on oc : Nat} {bA : Option Addr} {bn bc : Nat} {sA' : Option Addr} {sn' sc' : Nat} {oA' : Option Addr} {on' oc' : Nat} {bA' : Option Addr} {bn' bc' : Nat}
    (h : MIn w st ou bl sA sn sc oA on oc bA bn bc) (h' : MIn w st' ou' bl sA' sn' sc' oA' on' oc' bA' bn' bc') :
    Calls Try.prog 14 #[.slice bA bn bc, .slice bA' bn' bc'] w fun e w' => e = .returned (.bool true) ∧ Below w.heap.size w w' := by
  obtain ⟨-, -, p3⟩ := h.lens h8
  obtain ⟨-, -, q3⟩ := h'.lens h8
  have k := h.bk
  have k' := h'.bk
  rw [p3] at k ⊢
  rw [q3] at k' ⊢
  exact rsameB_yes bl h8 _ _ _ _ _ w k k' rfl (by omega)

end Go.Proofs.Ytoomadafgkcebaa
