/-
  What queue.having and Has answer, in whatever memory, of lists of at most 10000 who wait. No conditions but those that stand there.
-/
import Derived.Test.YtldljohholgmoaaZQueAp
namespace Go.Proofs.Ytldljohholgmoaa
open Go.RowKit Go.Shelf

theorem having1_any (x : Wnt) (w : World) : Calls Try.prog 67 #[.agg (wnV x.seq x.excl x.has)] w fun e w' => e = .returned (.bool x.excl) ∧ Below w.heap.size w w' := by
  have B0 := Lib.hid (below_alloc1 w (.cells (wnV x.seq x.excl x.has) 84))
  go_enter Try.func67, Try.ntmps67
  go_wp2
  go_ret
  exact ⟨rfl, B0.out⟩

theorem has1_any (x : Wnt) (s : Int) (g : Nat) (w : World) (hg : w.cell? ⟨g, 0, none⟩ = some (.int .i64 s)) (hl : g < w.heap.size) : Calls Try.prog 62 #[.agg (wnV x.seq x.excl x.has), .pointer (some ⟨g, 0, none⟩)] w fun e w' => e = .returned (.bool (decide (x.seq = s))) ∧ Below w.heap.size w w' := by
  have B0 := Lib.hid (below_alloc1 w (.cells (wnV x.seq x.excl x.has) 84))
  have hne : g ≠ w.heap.size := by omega
  go_enter Try.func62, Try.ntmps62
  go_wp2
  go_ret
  exact ⟨by simp [BEq.beq], B0.out⟩

theorem egHaving : ∀ args w, (callFunc 67 args).run Try.prog w = .ok (.enter 67 args) w := enters_of Try.func67 (by kernel_rfl) rfl

theorem egHas : ∀ args w, (callFunc 62 args).run Try.prog w = .ok (.enter 62 args) w := enters_of Try.func62 (by kernel_rfl) rfl

theorem having_any (l : List Wnt) (A : Option Addr) (n c : Nat) (w : World) (h : Wnts w A c l) (hN : l.length = n) (hz : n ≤ 100000) :
    Calls Try.prog 64 #[.slice A n c] w fun e w' => e = .returned (.int .i64 (havW l : Nat)) ∧ Below w.heap.size w w' := by
  have hi := Lib.hid (idxW_any l Wnt.excl 67 #[] egHaving A n c w h hN hz (fun x W _ => having1_any x W))
  rcases idxP_is Wnt.excl l with ⟨h1, -⟩ | ⟨i, x, h1, h2, -⟩
  · have hh : havW l = n := by unfold havW; rw [h1, if_pos (by omega)]; exact hN
    rw [h1] at hi
    rw [hh]
    clear h hN h1 hh
    go_enter Try.func64, Try.ntmps64
    go_wp2_with (go_at_call 66; go_must ((with_reducible refine hi.out.mono ?_); rintro e w1 ⟨rfl, hb1⟩; have B1 := Lib.hid hb1; clear hb1))
    go_ret
    exact ⟨rfl, B1.out⟩
  · have hh : havW l = max i 1 := by unfold havW; rw [h1, if_neg (by omega), Int.toNat_natCast]
    have hi0 : (0 : Int) ≤ (i : Int) := by omega
    have hin : i < n := by omega
    rw [h1] at hi
    rw [hh]
    clear h hN h1 hh h2
    obtain ⟨k, hk⟩ : ∃ k : Nat, k = max i 1 := ⟨_, rfl⟩
    rw [← hk]
    have K := Lib.hid hk
    clear hk
    go_enter Try.func64, Try.ntmps64
    go_wp2_with (go_at_call 66; go_must ((with_reducible refine hi.out.mono ?_); rintro e w1 ⟨rfl, hb1⟩; have B1 := Lib.hid hb1; clear hb1))
    all_goals go_ret
    all_goals exact ⟨congrArg (fun z : Int => Ending.returned (.int .i64 z)) (by have := K.out; omega), B1.out⟩

set_option maxHeartbeats 4000000 in
theorem has_any (l : List Wnt) (A : Option Addr) (n c : Nat) (s : Int) (w : World) (h : Wnts w A c l) (hN : l.length = n) (hz : n ≤ 10000) :
    Calls Try.prog 57 #[.slice A n c, .int .i64 s] w fun e w' => e = .returned (.bool (hasO l s)) ∧ Below w.heap.size w w' := by
  have B0 := Lib.hid (below_alloc1 w (.cells #[.int .i64 s] 3))
  have V0 := Lib.hid (Bk.new w 3 #[.int .i64 s])
  have hav := Lib.hid (having_any l A n c _ (h.below B0.out) hN (by omega))
  have hle := havW_le l
  rw [hN] at hle
  have hnc : n ≤ c := by have := h.2.1; omega
  have hcon : Hid (∀ (W : World), Below (w.alloc (.cells #[.int .i64 s] 3)).heap.size (w.alloc (.cells #[.int .i64 s] 3)) W → Calls Try.prog 63 #[.slice A (havW l) c, .func (.func 62) #[] #[.pointer (some ⟨w.heap.size, 0, none⟩)]] W
      fun e w' => e = .returned (.bool (hasO l s)) ∧ Below W.heap.size W w') := Lib.hid (fun W hW => by
    have hS := (h.below B0.out).below hW
    have hT : Wnts W A c (l.take (havW l)) := by
      unfold Wnts at hS ⊢
      rw [List.length_take, Nat.min_eq_left (havW_le l)]
      have h1 := hS.2.1
      refine ⟨by rw [wntsW_length, List.length_take, Nat.min_eq_left (havW_le l)], by omega, fun e => ?_, fun h0 => ?_⟩
      · have := hS.2.2.1 e
        omega
      · obtain ⟨b, off, e, hb, hc⟩ := hS.2.2.2 (by omega)
        refine ⟨b, off, e, hb, fun j hj => ?_⟩
        rw [hc j (by omega), ← wntsW_take, List.getElem?_take, if_pos hj]
    exact conW_any (l.take (havW l)) (fun x => decide (x.seq = s)) 62 #[.pointer (some ⟨w.heap.size, 0, none⟩)] egHas A (havW l) c W hT (by rw [List.length_take, Nat.min_eq_left (havW_le l)]) (by omega)
      (fun x V hV => has1_any x s w.heap.size V (((V0.out.below hW).below hV).cell 0) ((V0.out.below hW).below hV).lt))
  obtain ⟨m, hm⟩ : ∃ m, m = havW l := ⟨_, rfl⟩
  rw [← hm] at hav hcon hle
  clear h hN hm
  go_enter Try.func57, Try.ntmps57
  go_wp2_with (first
    | (go_at_call 64; go_must ((with_reducible refine hav.out.mono ?_); rintro e w1 ⟨rfl, hb1⟩; have C1 := Lib.hid hb1; clear hb1))
    | (go_at_call 63; go_must ((with_reducible refine (hcon.out _ C1.out).mono ?_); rintro e w2 ⟨rfl, hb2⟩; have C2 := Lib.hid (bnext (bnext B0.out C1.out) hb2); clear hb2)))
  go_ret
  exact ⟨rfl, C2.out⟩

end Go.Proofs.Ytldljohholgmoaa
