/-
  What the reference's SameBlocks answers of the same blocks: true, in whatever memory; blocks, machines and ints loaded. No conditions but those that stand there.
-/
import Derived.Test.YtldljohholgmoaaQWords
import Derived.Test.YtldljohholgmoaaZLdAt
import Derived.Test.YtldljohholgmoaaZCelK
namespace Go.Proofs.Ytldljohholgmoaa
open Go.RowKit

theorem neq_blk_same (w : World) {a : List Int} (ha : a.length = 8) : (binOp .neq 81 (.agg (bkC a)) (.agg (bkC a))).run Try.prog w = .ok (.bool false) w := by
  have h := eql_blk w ha ha
  rw [run_eql_struct] at h
  rw [run_neq_struct]
  cases hq : Sem.run Try.prog (Op.equalIn 10000 81 (Value.agg (bkC a)) (Value.agg (bkC a))) w with
  | ok b w' =>
    rw [hq] at h
    simp only [Result.andThen_ok, decide_true, Result.ok.injEq, Value.bool.injEq] at h ⊢
    obtain ⟨rfl, rfl⟩ := h
    exact ⟨rfl, rfl⟩
  | halt x w' => rw [hq] at h; cases h

theorem quiet_neq_blk {C : World → Prop} {a : Act} {o : Oper} {K : Act → Prop} {cs cs' : Array Value} (r : Bool) (hl : ∀ w, (binOp .neq 81 (.agg cs) (.agg cs')).run Try.prog w = .ok (.bool r) w) (x y : Operand) (t : TypeId)
    (ho : o.op = .binOp .neq 81 x y t) (hx : a.eval x = .agg cs) (hy : a.eval y = .agg cs') (hk : K (a.put o.dst (.bool r))) : o.quiet Try.prog a C K :=
  ⟨_, fun w hw => by
    unfold Oper.quietAt execOp
    simp only [ho, hx, hy, Sem.run_bind, run_eqGuard_agg w _ _ _ _ _ _ eqGuardBlk, Sem.run_pure, Result.andThen_ok, hl w]
    exact ⟨rfl, rfl⟩, hk⟩

/-- a block of a slice is loaded as it lies there. -/
theorem Blocks.load {w : World} {A : Option Addr} {c : Nat} {own : Blks} (h : Blocks w A c own) (h8 : ∀ b ∈ own, b.length = 8) {i : Nat} (hi : i < own.length) :
    ∃ g off, A = some ⟨g, off, none⟩ ∧ ∀ w', Below w.heap.size w w' → (loadVar 81 ⟨g, off + i * 8, none⟩).run Try.prog w' = .ok (.agg (bkC (own[i]?.getD []))) w' := by
  obtain ⟨g, off, rfl, hg, hr⟩ := h.range h8 hi
  have hl : (own[i]?.getD []).length = 8 := by
    rw [List.getElem?_eq_getElem hi]
    exact h8 _ (List.getElem_mem _)
  exact ⟨g, off, rfl, fun w' hb => run_loadVar_mid w' g (off + i * 8) 81 _ _ (fun j v hv => (hb.cell (p := ⟨g, off + i * 8 + j, none⟩) hg).trans (hr j v hv)) Try.underlying81 rfl (by rw [List.length_map, hl]; exact infoBlk8)⟩

set_option maxHeartbeats 1000000 in
theorem rsameB_yes (own : Blks) (h8 : ∀ b ∈ own, b.length = 8) (A A' : Option Addr) (n c c' : Nat) (w : World) (h : Blocks w A c own) (h' : Blocks w A' c' own) (hn : own.length = n) (hz : n ≤ 1000000) :
    Calls Try.prog 38 #[.slice A n c, .slice A' n c'] w fun e w' => e = .returned (.bool true) ∧ Below w.heap.size w w' := by
  have hc := h.2.1
  have hc' := h'.2.1
  have H := Lib.hid h
  have H' := Lib.hid h'
  have H8 := Lib.hid h8
  have HN := Lib.hid hn
  rw [hn] at hc hc'
  clear h h' h8 hn
  go_enter Try.func38, Try.ntmps38
  go_wp2
  go_loopw [5] (fun cc wr => ∃ k : Nat, k ≤ n ∧ cc = .int .i64 k ∧ Hid (Below w.heap.size w wr)) (fun cc _ => n - (intOf cc).toNat)
  case atStart => exact ⟨0, Nat.zero_le _, rfl, Lib.hid (Below.refl _ _)⟩
  case round =>
    obtain ⟨k, hk, rfl, HB⟩ := hrel
    by_cases hlt : k < n
    · have d1 : (k : Int) < (n : Int) := by omega
      have d2 : (k : Int) < (c : Int) := by omega
      have d3 : (k : Int) < (c' : Int) := by omega
      obtain ⟨g, off, rfl, hl⟩ := H.out.load H8.out (i := k) (by rw [HN.out]; exact hlt)
      obtain ⟨g', off', rfl, hl'⟩ := H'.out.load H8.out (i := k) (by rw [HN.out]; exact hlt)
      have L : Hid (∀ w', (∃ n, w' = wr.drewN n) → (loadVar 81 ⟨g, off + k * 8, none⟩).run Try.prog w' = .ok (.agg (bkC (own[k]?.getD []))) w') := Lib.hid (by
        rintro _ ⟨q, rfl⟩
        exact hl _ (bnext HB.out (drewN_below _ _)))
      have L' : Hid (∀ w', (∃ n, w' = wr.drewN n) → (loadVar 81 ⟨g', off' + k * 8, none⟩).run Try.prog w' = .ok (.agg (bkC (own[k]?.getD []))) w') := Lib.hid (by
        rintro _ ⟨q, rfl⟩
        exact hl' _ (bnext HB.out (drewN_below _ _)))
      have NE := Lib.hid (fun W => neq_blk_same W (a := own[k]?.getD []) (by
        rw [List.getElem?_eq_getElem (by rw [HN.out]; exact hlt)]
        exact H8.out _ (List.getElem_mem _)))
      clear hl hl'
      generalize bkC (own[k]?.getD []) = cs at *
      go_wp2
      try simp only [List.append_eq, List.cons_append, List.nil_append]
      refine wp_region_quiet_lit (by kernel_rfl) (by kernel_rfl) ?_
      repeat (first
        | (go_big_quiet_want; (first | refine quiet_load_at _ g (off + k * 8) L.out _ rfl rfl ?_ | refine quiet_load_at _ g' (off' + k * 8) L'.out _ rfl rfl ?_ | refine quiet_neq_blk false NE.out _ _ _ rfl rfl rfl ?_); go_simp; go_big_quiet_on)
        | go_big_quiet_step (fail))
      refine wpQuiet_nil ?_
      rintro _ ⟨nq, rfl⟩
      go_wp2
      go_roundw
      case rel => exact ⟨k + 1, by omega, by go_num, Lib.hid (bnext HB.out (drewN_below _ _))⟩
      case measure => simp [intOf]; omega
    · obtain rfl : k = n := by omega
      clear hlt
      go_wp2
      go_ret
      exact ⟨rfl, HB.out⟩


theorem load_mach {w : World} {g : Nat} {pc fuel : Int} {S : Value} {r0 r1 r2 r3 : Int} {O : Value} {ov : Bool} {e0 : Int} (hk : Bk w g 38 (mC pc fuel S r0 r1 r2 r3 O ov e0)) :
    (loadVar 38 ⟨g, 0, none⟩).run Try.prog w = .ok (.agg (mC pc fuel S r0 r1 r2 r3 O ov e0)) w :=
  run_loadVar_row w g _ _ _ (0, 0) _ hk Try.underlying38 rfl infoMc

end Go.Proofs.Ytldljohholgmoaa
