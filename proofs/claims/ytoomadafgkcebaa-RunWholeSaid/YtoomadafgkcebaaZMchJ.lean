/-
  What machine.takes answers of an emit, in whatever memory. No conditions but those that stand there.
-/
import Derived.Test.YtoomadafgkcebaaZMchG
namespace Go.Proofs.Ytoomadafgkcebaa
open Go.RowKit

section
variable (pc fuel : Int) (sA : Option Addr) (sc : Nat) (r0 r1 r2 r3 : Int) (oA : Option Addr) (on oc : Nat) (ov : Bool) (e0 : Int) (bA : Option Addr) (bn bc : Nat)

theorem takes_emit (k : Nat) (a b : Int) (B : Nat) (st ou : List Int) (own : Blks) (w : World) (hB : B ≤ w.heap.size) (hR : MRow B w st ou own sA (k + 1) sc oA on oc bA bn bc) (hk : k ≤ 1000) (ho : on ≤ 1000) :
    Calls Try.prog 40 #[.agg #[.int .i64 15, .int .i64 a, .int .i64 b], .agg (mC pc fuel (.slice sA (k + 1 : Nat) sc) r0 r1 r2 r3 (.slice oA on oc) ov e0), .slice bA bn bc] w
      (StepPost B (.slice sA (k + 1 : Nat) sc) (.slice oA on oc) (.slice bA bn bc) pc fuel (st.take k) r0 r1 r2 r3 (ou ++ [st[k]?.getD 0]) ov e0 own w) := by
  obtain ⟨i0, hi, hz0, hz1, hz2⟩ := infoInt
  obtain ⟨g, rfl, hg, hsc, hv⟩ := hR.top (j := k) (Nat.le_refl _)
  have hb0 := nR_below ⟨15, a, b⟩ (mC pc fuel (.slice (some ⟨g, 0, none⟩) (k + 1 : Nat) sc) r0 r1 r2 r3 (.slice oA on oc) ov e0) w
  have hat := Lib.hid (atInt_in g 0 (k + 1) sc k _ (nR ⟨15, a, b⟩ (mC pc fuel (.slice (some ⟨g, 0, none⟩) (k + 1 : Nat) sc) r0 r1 r2 r3 (.slice oA on oc) ov e0) w) (by omega) hsc ((hb0.cell (p := ⟨g, 0 + k, none⟩) hg).trans hv))
  have hk2 : (k : Int) < (sc : Int) := by omega
  generalize st[k]?.getD 0 = top at *
  have hR' := Lib.hid (hR.cut (k := k) (by omega))
  clear hv hR hb0
  have hbx := Lib.hid (nR_box ⟨15, a, b⟩ (mC pc fuel (.slice (some ⟨g, 0, none⟩) k sc) r0 r1 r2 r3 (.slice oA on oc) ov e0) w)
  have hrs := Lib.hid (nR_res ⟨15, a, b⟩ (mC pc fuel (.slice (some ⟨g, 0, none⟩) k sc) r0 r1 r2 r3 (.slice oA on oc) ov e0) w)
  have hbe := Lib.hid (nR_below ⟨15, a, b⟩ (mC pc fuel (.slice (some ⟨g, 0, none⟩) k sc) r0 r1 r2 r3 (.slice oA on oc) ov e0) w)
  go_enter Try.func40, Try.ntmps40
  go_wp2_with (first
    | (go_at_call 43; go_must ((with_reducible refine hat.out.mono ?_); rintro e w1 ⟨rfl, rfl⟩))
    | (at_builtin; go_must (refine append_rowH rfl (.tmp 94) (.tmp 96) _ rfl B 3 i0 _ 1 8 Try.underlying22 hi hz0 hz1 hz2 rfl (by decide) (.slice oA on oc) on (ou.map (.int .i64)) rfl (own_below (own_below hR'.out.ou hbe.out) (below_alloc1 _ _)) (w.heap.size + 1 + 1 + 1) #[.int .i64 top] rfl (by
        have := Bk.new (nR ⟨15, a, b⟩ (mC pc fuel (.slice (some ⟨g, 0, none⟩) k sc) r0 r1 r2 r3 (.slice oA on oc) ov e0) w) 3 #[.int .i64 top]
        rwa [World.size_alloc, World.size_alloc, World.size_alloc] at this) rfl rfl (by unfold maxLen; omega) (by omega) (by simp only [World.size_alloc]; omega) ?_; intro g2 cap w2 ho2 hg2 hl2; have X2 := Lib.hid ((hbx.out.alloc _).grown hg2 (fun e => (hR'.out.off (b := w.heap.size + 1) (by omega)).2.1 _ e.symm rfl)); have R2 := Lib.hid ((hrs.out.alloc _).grown hg2 (fun e => (hR'.out.off (b := w.heap.size + 1 + 1) (by omega)).2.1 _ e.symm rfl)); have M2 := Lib.hid (((hR'.out.below hbe.out).below (below_alloc1 _ _)).told ho2 hg2 hl2); have BB : Hid (Rows3 B (.slice (some ⟨g, 0, none⟩) (k + 1 : Nat) sc) (.slice oA on oc) (.slice bA bn bc) w w2) := Lib.hid ((Rows3.start hB (bnext hbe.out (below_alloc1 _ _))).grown hB hg2 (.inr rfl) (fun k hk => own_ge hR'.out.ou hk)); have Q2 := Lib.hid hl2; have y2 := X2.out.cell 7; have yf := X2.out.frozen; have yl := X2.out.lt; have X3 : Hid (Bk (w2.setCell ⟨w.heap.size + 1, 7, none⟩ (.slice (some ⟨g2, 0, none⟩) (on + 1) cap)) (w.heap.size + 1) 32 (mC pc fuel (.slice (some ⟨g, 0, none⟩) k sc) r0 r1 r2 r3 (.slice (some ⟨g2, 0, none⟩) (on + 1) cap) ov e0)) := Lib.hid (by simpa using X2.out.set 7 (.slice (some ⟨g2, 0, none⟩) (on + 1) cap)); have R3 := Lib.hid (R2.out.far (p := ⟨w.heap.size + 1, 7, none⟩) (by simp) (.slice (some ⟨g2, 0, none⟩) (on + 1) cap)); simp only [List.getElem?_toArray, List.getElem?_cons_zero, List.getElem?_cons_succ] at y2; clear ho2 hg2 hl2))
    | (with_reducible refine ld_mach (w.heap.size + 1) X3.out _ rfl rfl rfl ?_)
    | (with_reducible refine st_mach (w.heap.size + 1 + 1) R3.out rfl rfl _ _ rfl rfl rfl rfl ?_))
  have hoff : ∀ b, b = w.heap.size + 1 ∨ b = w.heap.size + 1 + 1 → offB b (.slice (some ⟨g, 0, none⟩) k sc) ∧ offB b (.slice (some ⟨g2, 0, none⟩) (on + 1) cap) ∧ offB b (.slice bA bn bc) := fun b hb => by
    have ho := hR'.out.off (b := b) (by omega)
    refine ⟨ho.1, fun k hk => ?_, ho.2.2⟩
    obtain rfl : g2 = k := by simpa [Value.ownBlock] using hk
    rcases Q2.out with h | h
    · exact ho.2.1 g2 h
    · have := hrs.out.lt
      simp only [World.size_alloc] at h
      omega
  exact bodyPost_ret (v := .tuple #[.agg (mC pc fuel (.slice (some ⟨g, 0, none⟩) k sc) r0 r1 r2 r3 (.slice (some ⟨g2, 0, none⟩) (on + 1) cap) ov e0), .slice bA bn bc]) (res2_mach rfl _ _ (w.heap.size + 1 + 1) _ rfl rfl (Bk.setRow R3.out _)) rfl
    ⟨_, _, _, _, _, _, _, _, _, rfl, (M2.out.set (hoff _ (.inl rfl)) _ _).setRow (hoff _ (.inr rfl)) _, (BB.out.set hB (by omega) _ _).setRow hB (by omega) _⟩

end
end Go.Proofs.Ytoomadafgkcebaa
