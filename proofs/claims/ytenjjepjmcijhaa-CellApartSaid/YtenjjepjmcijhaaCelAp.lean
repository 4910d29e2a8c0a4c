/-
  CellApart, walked: true for any two blocks, in whatever memory.
-/
import Derived.Test.YtenjjepjmcijhaaCelW
import Derived.Lib.Strings
namespace Go.Proofs.Ytenjjepjmcijhaa
open Go.RowKit

theorem strL_inj {a b : List Nat} (ha : ∀ x ∈ a, x < 256) (hb : ∀ x ∈ b, x < 256) (h : strL a = strL b) : a = b := by
  rw [← bL_strL a ha, h, bL_strL b hb]

set_option maxRecDepth 100000 in
set_option maxHeartbeats 4000000 in
theorem cellApart_walk (a b : List Int) (ha : a.length = 8) (hb : b.length = 8) (ia : inB a) (ib : inB b) (w : World) :
    Calls Try.prog 6 #[.agg (bkC a), .agg (bkC b)] w fun e w' => e = .returned (.bool true) ∧ Below w.heap.size w w' := by
  have aw := Lib.hid (fun W => awake9 W)
  have pa := Lib.hid (fun W => print_any a ha W)
  have pb := Lib.hid (fun W => print_any b hb W)
  have hS : (strL (cellB a)).size = 64 := by rw [strL_size, cellB_length, ha]
  have heq := Lib.hid (fun W : World => eql_blk W ha hb)
  have hsame : ((strL (cellB a)).toList == (strL (cellB b)).toList) = decide (a = b) := by
    rw [Bool.eq_iff_iff, beq_iff_eq, decide_eq_true_eq, Lib.toList_data, Lib.toList_data]
    constructor
    · intro h
      exact cell_apart (by rw [ha, hb]) ia ib (strL_inj (cellB_lt a) (cellB_lt b) (ByteArray.ext (Array.ext' h)))
    · rintro rfl
      rfl
  have ka := Lib.hid (fun (W : World) (g : Nat) (h : Bk W g 23 (bkC a)) => kw_load ha h)
  have kb := Lib.hid (fun (W : World) (g : Nat) (h : Bk W g 23 (bkC b)) => kw_load hb h)
  generalize decide (a = b) = r at *
  generalize bkC a = ca at *
  generalize bkC b = cb at *
  generalize strL (cellB a) = Sa at *
  generalize strL (cellB b) = Sb at *
  obtain ⟨W, hW⟩ : ∃ W, W = (w.alloc (.cells ca 23)).alloc (.cells cb 23) := ⟨_, rfl⟩
  have la := Lib.hid (ka.out W w.heap.size (by rw [hW]; exact (Bk.new _ _ _).alloc _))
  have lb := Lib.hid (kb.out W (w.heap.size + 1) (by rw [hW]; exact heap_alloc2_new _ _ _))
  have hB := Lib.hid (show Below w.heap.size w W by rw [hW]; exact ((Below.refl _ _).alloc (Nat.le_refl _) _).alloc (by simp) _)
  clear ka kb
  go_enter Try.func6, Try.ntmps6
  go_wp2
  rw [← hW]
  clear hW
  have hne : Nonempty (KW W) := ⟨⟨W, Below.refl _ _⟩⟩
  try simp only [List.append_eq, List.cons_append, List.nil_append]
  refine wp_region_kept W (Below.refl _ _) (by kernel_rfl) (by kernel_rfl) ?_
  repeat (first
    | (go_big_quiet_want; (first | refine quiet_load_blk w.heap.size la.out _ rfl rfl ?_ | refine quiet_load_blk (w.heap.size + 1) lb.out _ rfl rfl ?_ | refine quiet_eql_blk r heq.out _ _ _ rfl rfl rfl ?_); go_simp; go_big_quiet_on)
    | go_big_quiet_step ((first
      | (go_at_call 7; with_reducible exact kept_of _ (aw.out _))
      | (go_at_call 8; first | with_reducible exact kept_of _ (pa.out _) | with_reducible exact kept_of _ (pb.out _)))))
  refine wpQuiet_nil ?_
  rintro _ ⟨wx, rfl⟩
  go_wp2
  go_ret
  exact ⟨rfl, bnext hB.out wx.2⟩

end Go.Proofs.Ytenjjepjmcijhaa
