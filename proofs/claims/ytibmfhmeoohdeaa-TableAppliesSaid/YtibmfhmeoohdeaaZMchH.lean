/-
  What machine.reckons answers, in whatever memory, where the stack has two. No conditions but those that stand there.
-/
import Derived.Test.YtibmfhmeoohdeaaQMchF
import Derived.Test.YtibmfhmeoohdeaaZMchD
import Derived.IntWalk
namespace Go.Proofs.Ytibmfhmeoohdeaa
open Go.RowKit

/-- a machine, in memory; its blocks as they were. -/
def MachPost (B : Nat) (S O A : Value) (pc fuel : Int) (st : List Int) (r0 r1 r2 r3 : Int) (ou : List Int) (ov : Bool) (e0 : Int) (own : Blks) (bA : Option Addr) (bn bc : Nat) (w : World) (e : Ending) (w' : World) : Prop :=
  ∃ sA sn sc oA on oc, e = .returned (.agg (mC pc fuel (.slice sA sn sc) r0 r1 r2 r3 (.slice oA on oc) ov e0)) ∧ MRow B w' st ou own sA sn sc oA on oc bA bn bc ∧ Rows3 B S O A w w'

section
variable (pc fuel : Int) (sA : Option Addr) (sc : Nat) (r0 r1 r2 r3 : Int) (oA : Option Addr) (on oc : Nat) (ov : Bool) (e0 : Int) (bA : Option Addr) (bn bc : Nat)

set_option maxHeartbeats 1000000 in
theorem reckons_zero (op : Int) (hop : 7 ≤ op ∧ op ≤ 12) (k : Nat) (B : Nat) (st ou : List Int) (own : Blks) (w : World) (hB : B ≤ w.heap.size) (hR : MRow B w st ou own sA (k + 2) sc oA on oc bA bn bc) (hk : k ≤ 1000)
    (ht : twoN op (st[k]?.getD 0) (st[k + 1]?.getD 0) = none) :
    Calls Try.prog 52 #[.int .i64 op, .agg (mC pc fuel (.slice sA (k + 2 : Nat) sc) r0 r1 r2 r3 (.slice oA on oc) ov e0)] w
      (MachPost B (.slice sA (k + 2 : Nat) sc) (.slice oA on oc) (.slice bA bn bc) pc fuel st r0 r1 r2 r3 [] true 12 own bA bn bc w) := by
  obtain ⟨g, rfl, hg, hsc, hv0⟩ := hR.top (k := k + 1) (j := k) (by omega)
  obtain ⟨g', hgg, -, -, hv1⟩ := hR.top (k := k + 1) (j := k + 1) (by omega)
  obtain rfl : g = g' := by simpa using hgg
  have hb0 := mB2_below (mC pc fuel (.slice (some ⟨g, 0, none⟩) (k + 2 : Nat) sc) r0 r1 r2 r3 (.slice oA on oc) ov e0) w
  have hbx := Lib.hid (mB2_box (mC pc fuel (.slice (some ⟨g, 0, none⟩) (k + 2 : Nat) sc) r0 r1 r2 r3 (.slice oA on oc) ov e0) w)
  have hrs := Lib.hid (mB2_res (mC pc fuel (.slice (some ⟨g, 0, none⟩) (k + 2 : Nat) sc) r0 r1 r2 r3 (.slice oA on oc) ov e0) w)
  have hm := fun W => made_any op (st[k]?.getD 0) (st[k + 1]?.getD 0) hop W
  rw [madeV, ht] at hm
  have hmd : Hid (∀ n, Calls Try.prog 57 #[.int .i64 op, .int .i64 (st[k]?.getD 0), .int .i64 (st[k + 1]?.getD 0)] ((mB2 (mC pc fuel (.slice (some ⟨g, 0, none⟩) (k + 2 : Nat) sc) r0 r1 r2 r3 (.slice oA on oc) ov e0) w).drewN n)
      fun e w' => e = .returned (.tuple #[.int .i64 0, .int .i64 12]) ∧ w' = (mB2 (mC pc fuel (.slice (some ⟨g, 0, none⟩) (k + 2 : Nat) sc) r0 r1 r2 r3 (.slice oA on oc) ov e0) w).drewN n) := Lib.hid (fun n => (hm _).mono fun e w' ⟨h1, h2⟩ => ⟨h1, h2.symm⟩)
  have c0 := (hb0.cell (p := ⟨g, 0 + k, none⟩) hg).trans hv0
  have c1 := (hb0.cell (p := ⟨g, 0 + (k + 1), none⟩) hg).trans hv1
  rw [Nat.zero_add] at c0 c1
  generalize st[k]?.getD 0 = x at *
  generalize st[k + 1]?.getD 0 = y at *
  have hR' := Lib.hid hR
  have hB0 := Lib.hid hb0
  have hov := Lib.hid (fun W => over_bad pc fuel (some ⟨g, 0, none⟩) (k + 2) sc r0 r1 r2 r3 oA on oc ov e0 12 (by decide) W)
  clear hR hb0 hm hv0 hv1 hgg ht hop
  have d1 : (k : Int) < (sc : Int) := by omega
  have d2 : (k : Int) + 1 < (sc : Int) := by omega
  have q1 : IntKind.i64.wrap ((k : Int) + 1) = (k : Int) + 1 := IntWalk.i64_in _ (by omega)
  have q2 : ((k : Int) + 1).toNat = k + 1 := by omega
  have q3 : (0 : Int) ≤ (k : Int) + 1 := by omega
  have q4 : (k : Int) + 1 < (k : Int) + 2 := by omega
  go_enter Try.func52, Try.ntmps52
  go_wp2
  go_quiet ((go_at_call 57; exact Calls.quiet_of_same (hmd.out _)))
  go_wp2_with (first
    | (with_reducible refine ld_mach w.heap.size (hbx.out.drewN _) _ rfl rfl rfl ?_)
    | (go_at_call 42; go_must ((with_reducible refine (hov.out _).mono ?_); rintro e w2 ⟨rfl, hb2⟩; have B2 := Lib.hid (bnext (bnext hB0.out (drewN_below _ _)) hb2); have R2 := Lib.hid ((hrs.out.drewN _).below hb2); clear hb2))
    | (with_reducible refine st_mach (w.heap.size + 1) R2.out rfl rfl _ _ rfl rfl rfl rfl ?_))
  exact bodyPost_ret (v := .agg (mC pc fuel (.slice (some ⟨g, 0, none⟩) (k + 2 : Nat) sc) r0 r1 r2 r3 (.slice none 0 0) true 12)) (res_mach rfl _ _ (w.heap.size + 1) rfl (Bk.setRow R2.out _)) rfl
    ⟨_, _, _, _, _, _, rfl, ((hR'.out.below B2.out).mute).setRow ((hR'.out.mute).off (by omega)) _, (Rows3.start hB B2.out).setRow hB (by omega) _⟩

set_option maxHeartbeats 1000000 in
theorem reckons_some (op n : Int) (hop : 7 ≤ op ∧ op ≤ 12) (k : Nat) (B : Nat) (st ou : List Int) (own : Blks) (w : World) (hB : B ≤ w.heap.size) (hR : MRow B w st ou own sA (k + 2) sc oA on oc bA bn bc) (hk : k ≤ 1000)
    (ht : twoN op (st[k]?.getD 0) (st[k + 1]?.getD 0) = some n) :
    Calls Try.prog 52 #[.int .i64 op, .agg (mC pc fuel (.slice sA (k + 2 : Nat) sc) r0 r1 r2 r3 (.slice oA on oc) ov e0)] w
      (MachPost B (.slice sA (k + 2 : Nat) sc) (.slice oA on oc) (.slice bA bn bc) pc fuel (st.take k ++ [n]) r0 r1 r2 r3 ou ov e0 own bA bn bc w) := by
  obtain ⟨i0, hi, hz0, hz1, hz2⟩ := infoInt
  obtain ⟨g, rfl, hg, hsc, hv0⟩ := hR.top (k := k + 1) (j := k) (by omega)
  obtain ⟨g', hgg, -, -, hv1⟩ := hR.top (k := k + 1) (j := k + 1) (by omega)
  obtain rfl : g = g' := by simpa using hgg
  have hb0 := mB2_below (mC pc fuel (.slice (some ⟨g, 0, none⟩) (k + 2 : Nat) sc) r0 r1 r2 r3 (.slice oA on oc) ov e0) w
  have hbx := Lib.hid (mB2_box (mC pc fuel (.slice (some ⟨g, 0, none⟩) (k + 2 : Nat) sc) r0 r1 r2 r3 (.slice oA on oc) ov e0) w)
  have hrs := Lib.hid (mB2_res (mC pc fuel (.slice (some ⟨g, 0, none⟩) (k + 2 : Nat) sc) r0 r1 r2 r3 (.slice oA on oc) ov e0) w)
  have hm := fun W => made_any op (st[k]?.getD 0) (st[k + 1]?.getD 0) hop W
  rw [madeV, ht] at hm
  have hmd : Hid (∀ q, Calls Try.prog 57 #[.int .i64 op, .int .i64 (st[k]?.getD 0), .int .i64 (st[k + 1]?.getD 0)] ((mB2 (mC pc fuel (.slice (some ⟨g, 0, none⟩) (k + 2 : Nat) sc) r0 r1 r2 r3 (.slice oA on oc) ov e0) w).drewN q)
      fun e w' => e = .returned (.tuple #[.int .i64 n, .int .i64 0]) ∧ w' = (mB2 (mC pc fuel (.slice (some ⟨g, 0, none⟩) (k + 2 : Nat) sc) r0 r1 r2 r3 (.slice oA on oc) ov e0) w).drewN q) := Lib.hid (fun q => (hm _).mono fun e w' ⟨h1, h2⟩ => ⟨h1, h2.symm⟩)
  have c0 := (hb0.cell (p := ⟨g, 0 + k, none⟩) hg).trans hv0
  have c1 := (hb0.cell (p := ⟨g, 0 + (k + 1), none⟩) hg).trans hv1
  rw [Nat.zero_add] at c0 c1
  generalize st[k]?.getD 0 = x at *
  generalize st[k + 1]?.getD 0 = y at *
  have hnew : Hid (∀ q, Bk (((mB2 (mC pc fuel (.slice (some ⟨g, 0, none⟩) (k + 2 : Nat) sc) r0 r1 r2 r3 (.slice oA on oc) ov e0) w).drewN q).alloc (.cells #[.int .i64 n] 3)) (w.heap.size + 1 + 1) 3 #[.int .i64 n]) := Lib.hid (fun q => by
    have := Bk.new ((mB2 (mC pc fuel (.slice (some ⟨g, 0, none⟩) (k + 2 : Nat) sc) r0 r1 r2 r3 (.slice oA on oc) ov e0) w).drewN q) 3 #[.int .i64 n]
    simp only [World.heap_drewN, World.size_alloc] at this
    exact this)
  have hR' := Lib.hid (hR.cut (k := k) (by omega))
  have hB0 := Lib.hid hb0
  clear hR hb0 hm hv0 hv1 hgg ht hop
  have d1 : (k : Int) < (sc : Int) := by omega
  have d2 : (k : Int) + 1 < (sc : Int) := by omega
  have q1 : IntKind.i64.wrap ((k : Int) + 1) = (k : Int) + 1 := IntWalk.i64_in _ (by omega)
  have q2 : ((k : Int) + 1).toNat = k + 1 := by omega
  have q3 : (0 : Int) ≤ (k : Int) + 1 := by omega
  have q4 : (k : Int) + 1 < (k : Int) + 2 := by omega
  go_enter Try.func52, Try.ntmps52
  go_wp2
  go_quiet ((go_at_call 57; exact Calls.quiet_of_same (hmd.out _)))
  clear q1 q2 q3 q4 c0 c1
  go_wp2_with (first
    | (at_builtin; go_must (refine append_rowH rfl (.tmp 40) (.tmp 42) _ rfl B 3 i0 _ 1 8 Try.underlying23 hi hz0 hz1 hz2 rfl (by decide) (.slice (some ⟨g, 0, none⟩) k sc) k ((st.take k).map (.int .i64)) rfl (own_below (own_below hR'.out.st (bnext hB0.out (drewN_below _ _))) (below_alloc1 _ _)) (w.heap.size + 1 + 1) #[.int .i64 n] rfl (hnew.out nq) rfl rfl (by unfold maxLen; omega) (by omega) (by simp only [World.size_alloc, World.heap_drewN]; omega) ?_; intro g2 cap w2 ho2 hg2 hl2; have X2 := Lib.hid (((hbx.out.drewN nq).alloc _).grown hg2 (fun e => (hR'.out.off (b := w.heap.size) (by omega)).1 _ e.symm rfl)); have R2 := Lib.hid (((hrs.out.drewN nq).alloc _).grown hg2 (fun e => (hR'.out.off (b := w.heap.size + 1) (by omega)).1 _ e.symm rfl)); have M2 := Lib.hid (((hR'.out.below (bnext hB0.out (drewN_below _ nq))).below (below_alloc1 _ _)).pushed ho2 hg2 hl2); have BB : Hid (Rows3 B (.slice (some ⟨g, 0, none⟩) (k + 2 : Nat) sc) (.slice oA on oc) (.slice bA bn bc) w w2) := Lib.hid ((Rows3.start hB (bnext (bnext hB0.out (drewN_below _ nq)) (below_alloc1 _ _))).grown hB hg2 (.inl rfl) (fun q hq => own_ge hR'.out.st hq)); have Q2 := Lib.hid hl2; have y2 := X2.out.cell 2; have yf := X2.out.frozen; have yl := X2.out.lt; have X3 : Hid (Bk (w2.setCell ⟨w.heap.size, 2, none⟩ (.slice (some ⟨g2, 0, none⟩) (k + 1) cap)) w.heap.size 54 (mC pc fuel (.slice (some ⟨g2, 0, none⟩) (k + 1) cap) r0 r1 r2 r3 (.slice oA on oc) ov e0)) := Lib.hid (by simpa using X2.out.set 2 (.slice (some ⟨g2, 0, none⟩) (k + 1) cap)); have R3 := Lib.hid (R2.out.far (p := ⟨w.heap.size, 2, none⟩) (by simp) (.slice (some ⟨g2, 0, none⟩) (k + 1) cap)); simp only [List.getElem?_toArray, List.getElem?_cons_zero, List.getElem?_cons_succ] at y2; clear ho2 hg2 hl2))
    | (with_reducible refine ld_mach w.heap.size X3.out _ rfl rfl rfl ?_)
    | (with_reducible refine st_mach (w.heap.size + 1) R3.out rfl rfl _ _ rfl rfl rfl rfl ?_))
  have hoff : ∀ b, b = w.heap.size ∨ b = w.heap.size + 1 → offB b (.slice (some ⟨g2, 0, none⟩) (k + 1) cap) ∧ offB b (.slice oA on oc) ∧ offB b (.slice bA bn bc) := fun b hb => by
    have ho := hR'.out.off (b := b) (by omega)
    refine ⟨fun q hq => ?_, ho.2⟩
    obtain rfl : g2 = q := by simpa [Value.ownBlock] using hq
    rcases Q2.out with h | h
    · exact ho.1 g2 h
    · simp only [World.size_alloc, World.heap_drewN] at h
      omega
  exact bodyPost_ret (v := .agg (mC pc fuel (.slice (some ⟨g2, 0, none⟩) (k + 1) cap) r0 r1 r2 r3 (.slice oA on oc) ov e0)) (res_mach rfl _ _ (w.heap.size + 1) rfl (Bk.setRow R3.out _)) rfl
    ⟨_, _, _, _, _, _, rfl, (M2.out.set (hoff _ (.inl rfl)) _ _).setRow (hoff _ (.inr rfl)) _, (BB.out.set hB (by omega) _ _).setRow hB (by omega) _⟩

end
end Go.Proofs.Ytibmfhmeoohdeaa
