/-
  What machine.takes answers of a skip, in whatever memory. No conditions but those that stand there.
-/
import Derived.Test.YtoomadafgkcebaaZMchF
namespace Go.Proofs.Ytoomadafgkcebaa
open Go.RowKit

theorem Bk.drewN {w : World} {g : Nat} {t : TypeId} {cs : Array Value} (h : Bk w g t cs) (n : Nat) : Bk (w.drewN n) g t cs := h.below (drewN_below w n)

/-- a machine and its blocks, in memory. -/
def StepPost (B : Nat) (S O A : Value) (pc fuel : Int) (st : List Int) (r0 r1 r2 r3 : Int) (ou : List Int) (ov : Bool) (e0 : Int) (own : Blks) (w : World) (e : Ending) (w' : World) : Prop :=
  ∃ sA sn sc oA on oc bA bn bc, e = .returned (.tuple #[.agg (mC pc fuel (.slice sA sn sc) r0 r1 r2 r3 (.slice oA on oc) ov e0), .slice bA bn bc]) ∧ MRow B w' st ou own sA sn sc oA on oc bA bn bc ∧ Rows3 B S O A w w'

/-- the stack's last one, where it lies. -/
theorem MRow.top {B : Nat} {w : World} {st ou : List Int} {own : Blks} {sA : Option Addr} {k sc : Nat} {oA : Option Addr} {on oc : Nat} {bA : Option Addr} {bn bc : Nat} (h : MRow B w st ou own sA (k + 1) sc oA on oc bA bn bc) {j : Nat} (hj : j ≤ k) :
    ∃ g, sA = some ⟨g, 0, none⟩ ∧ g < w.heap.size ∧ k + 1 ≤ sc ∧ w.cell? ⟨g, 0 + j, none⟩ = some (.int .i64 (st[j]?.getD 0)) := by
  have hl := h.slen
  obtain ⟨g, cur, rfl, hb, hg, hnc, _, hcs, ht⟩ := own_pos h.st (by omega)
  refine ⟨g, rfl, hg.lt, hnc, ?_⟩
  rw [hg.cell, Nat.zero_add]
  have h1 : (cur.toList.take ((k + 1) * 1))[j]? = (st.map (Value.int .i64))[j]? := by rw [ht]
  rw [List.getElem?_take, if_pos (by omega), Array.getElem?_toList] at h1
  rw [h1]
  simp [show j < st.length by omega]

section
variable (pc fuel : Int) (sA : Option Addr) (sc : Nat) (r0 r1 r2 r3 : Int) (oA : Option Addr) (on oc : Nat) (ov : Bool) (e0 : Int) (bA : Option Addr) (bn bc : Nat)

theorem takes_skip (k : Nat) (a b : Int) (B : Nat) (st ou : List Int) (own : Blks) (w : World) (hB : B ≤ w.heap.size) (hR : MRow B w st ou own sA (k + 1) sc oA on oc bA bn bc) (hk : k ≤ 1000) (ha : 0 ≤ a ∧ a ≤ 1000) (hp : 0 ≤ pc ∧ pc ≤ 2000)
    (q : Bool) (hq : (st[k]?.getD 0 == 0) = q) :
    Calls Try.prog 40 #[.agg #[.int .i64 13, .int .i64 a, .int .i64 b], .agg (mC pc fuel (.slice sA (k + 1 : Nat) sc) r0 r1 r2 r3 (.slice oA on oc) ov e0), .slice bA bn bc] w
      (StepPost B (.slice sA (k + 1 : Nat) sc) (.slice oA on oc) (.slice bA bn bc) (if q then pc + a else pc) fuel (st.take k) r0 r1 r2 r3 ou ov e0 own w) := by
  obtain ⟨g, rfl, hg, hsc, hv⟩ := hR.top (j := k) (Nat.le_refl _)
  have hb0 := nR_below ⟨13, a, b⟩ (mC pc fuel (.slice (some ⟨g, 0, none⟩) (k + 1 : Nat) sc) r0 r1 r2 r3 (.slice oA on oc) ov e0) w
  have hat := Lib.hid (atInt_in g 0 (k + 1) sc k _ (nR ⟨13, a, b⟩ (mC pc fuel (.slice (some ⟨g, 0, none⟩) (k + 1 : Nat) sc) r0 r1 r2 r3 (.slice oA on oc) ov e0) w) (by omega) hsc ((hb0.cell (p := ⟨g, 0 + k, none⟩) hg).trans hv))
  have hk2 : (k : Int) < (sc : Int) := by omega
  generalize st[k]?.getD 0 = top at *
  have hR' := Lib.hid (hR.cut (k := k) (by omega))
  clear hv hR hb0
  cases q with
  | true =>
    obtain ⟨z, hz⟩ : ∃ z, z = pc + a := ⟨_, rfl⟩
    have hz' : pc + a = z := hz.symm
    rw [if_pos rfl, ← hz]
    clear hz
    have hbx := Lib.hid (nR_box ⟨13, a, b⟩ (mC z fuel (.slice (some ⟨g, 0, none⟩) k sc) r0 r1 r2 r3 (.slice oA on oc) ov e0) w)
    have hrs := Lib.hid (nR_res ⟨13, a, b⟩ (mC z fuel (.slice (some ⟨g, 0, none⟩) k sc) r0 r1 r2 r3 (.slice oA on oc) ov e0) w)
    have hbe := Lib.hid (nR_below ⟨13, a, b⟩ (mC z fuel (.slice (some ⟨g, 0, none⟩) k sc) r0 r1 r2 r3 (.slice oA on oc) ov e0) w)
    go_enter Try.func40, Try.ntmps40
    go_wp2_with (first
      | (go_at_call 43; go_must ((with_reducible refine hat.out.mono ?_); rintro e w1 ⟨rfl, rfl⟩))
      | (with_reducible refine ld_mach (w.heap.size + 1) hbx.out _ rfl rfl rfl ?_)
      | (with_reducible refine st_mach (w.heap.size + 1 + 1) hrs.out rfl rfl _ _ rfl rfl rfl rfl ?_))
    exact bodyPost_ret (v := .tuple #[.agg (mC z fuel (.slice (some ⟨g, 0, none⟩) k sc) r0 r1 r2 r3 (.slice oA on oc) ov e0), .slice bA bn bc]) (res2_mach rfl _ _ (w.heap.size + 1 + 1) _ rfl rfl (Bk.setRow hrs.out _)) rfl
      ⟨_, _, _, _, _, _, _, _, _, rfl, (hR'.out.below hbe.out).setRow (hR'.out.off (by omega)) _, (Rows3.start hB hbe.out).setRow hB (by omega) _⟩
  | false =>
    rw [if_neg (by decide)]
    have hbx := Lib.hid (nR_box ⟨13, a, b⟩ (mC pc fuel (.slice (some ⟨g, 0, none⟩) k sc) r0 r1 r2 r3 (.slice oA on oc) ov e0) w)
    have hrs := Lib.hid (nR_res ⟨13, a, b⟩ (mC pc fuel (.slice (some ⟨g, 0, none⟩) k sc) r0 r1 r2 r3 (.slice oA on oc) ov e0) w)
    have hbe := Lib.hid (nR_below ⟨13, a, b⟩ (mC pc fuel (.slice (some ⟨g, 0, none⟩) k sc) r0 r1 r2 r3 (.slice oA on oc) ov e0) w)
    go_enter Try.func40, Try.ntmps40
    go_wp2_with (first
      | (go_at_call 43; go_must ((with_reducible refine hat.out.mono ?_); rintro e w1 ⟨rfl, rfl⟩))
      | (with_reducible refine ld_mach (w.heap.size + 1) hbx.out _ rfl rfl rfl ?_)
      | (with_reducible refine st_mach (w.heap.size + 1 + 1) hrs.out rfl rfl _ _ rfl rfl rfl rfl ?_))
    exact bodyPost_ret (v := .tuple #[.agg (mC pc fuel (.slice (some ⟨g, 0, none⟩) k sc) r0 r1 r2 r3 (.slice oA on oc) ov e0), .slice bA bn bc]) (res2_mach rfl _ _ (w.heap.size + 1 + 1) _ rfl rfl (Bk.setRow hrs.out _)) rfl
      ⟨_, _, _, _, _, _, _, _, _, rfl, (hR'.out.below hbe.out).setRow (hR'.out.off (by omega)) _, (Rows3.start hB hbe.out).setRow hB (by omega) _⟩

end
end Go.Proofs.Ytoomadafgkcebaa
