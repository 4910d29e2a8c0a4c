/-
  The document's examples of layer 9 ('awake'): true, in whatever memory.
-/
import Derived.Test.YtenjjepjmcijhaaCelA
import Derived.Test.YtenjjepjmcijhaaCelB
import Derived.Test.YtenjjepjmcijhaaCelC
import Derived.Test.YtenjjepjmcijhaaLayDn
import Derived.Test.YtenjjepjmcijhaaCelK
namespace Go.Proofs.Ytenjjepjmcijhaa
open Go.RowKit

theorem inB_noughts : inB (List.replicate 8 0) := by
  intro x hx
  obtain ⟨-, rfl⟩ := List.mem_replicate.1 hx
  decide

/-- a block's bytes are read as it was; the reader stands behind them. -/
theorem read_back {b : List Int} (h8 : b.length = 8) (hb : inB b) (g : Nat) (w : World) (hk : Bk w g 28 (frV (strL (cellB b)) ⟨0, false⟩)) :
    Calls Try.prog 10 #[.pointer (some ⟨g, 0, none⟩)] w fun e w' => e = .returned (.agg (bkC b)) ∧ Bk w' g 28 (frV (strL (cellB b)) ⟨64, false⟩) ∧ But g w w' := by
  have h := read_any (strL (cellB b)) ⟨0, false⟩ g w hk (by rw [strL_size, cellB_length, h8]; omega)
  obtain ⟨h1, h2⟩ := cell_back hb
  rw [h8] at h1 h2
  rw [h1, h2] at h
  exact h

theorem done_yes {b : List Int} (h8 : b.length = 8) (g : Nat) (w : World) (hk : Bk w g 28 (frV (strL (cellB b)) ⟨64, false⟩)) :
    Calls Try.prog 16 #[.pointer (some ⟨g, 0, none⟩)] w fun e w' => e = .returned (.bool true) ∧ Below w.heap.size w w' := by
  have h := done_any (strL (cellB b)) ⟨64, false⟩ g w hk
  have e : doneV (strL (cellB b)) ⟨64, false⟩ = true := by
    unfold doneV
    rw [strL_size, cellB_length, h8]
    rfl
  rw [e] at h
  exact h.mono fun e w' ⟨he, n, hw⟩ => ⟨he, by rw [hw]; exact belowDrewN w n⟩

set_option maxRecDepth 100000 in
set_option maxHeartbeats 4000000 in
theorem awake9 (w : World) : Calls Try.prog 7 #[] w fun e w' => e = .returned (.bool true) ∧ Below w.heap.size w w' := by
  obtain ⟨b, hbd⟩ : ∃ b, b = putC (List.replicate 8 0) 7 (-1) := ⟨_, rfl⟩
  have h8 : b.length = 8 := by rw [hbd]; rfl
  have hin : inB b := by rw [hbd]; exact putC_in inB_noughts _ (by decide)
  have p0 := put_any (List.replicate 8 0) rfl 7 (-1)
  rw [← hbd] at p0
  have pr := Lib.hid (print_any b h8)
  have hS : (strL (cellB b)).size = 64 := by rw [strL_size, cellB_length, h8]
  have rd := Lib.hid (fun g W h => read_back h8 hin g W h)
  have dn := Lib.hid (fun g W h => done_yes h8 g W h)
  have g7 := Lib.hid (fun W => get_any b h8 7 W)
  have g8 := Lib.hid (fun W => get_any b h8 8 W)
  have q8 := Lib.hid (fun W => put_any b h8 8 1 W)
  have q9 := Lib.hid (fun W => put_any b h8 (-1) 1 W)
  have e1 : getC b 7 = -1 := by rw [hbd]; rfl
  have e2 : getC b 8 = 0 := rfl
  have e3 : putC b 8 1 = b := rfl
  have e4 : putC b (-1) 1 = b := rfl
  rw [e1] at g7
  rw [e2] at g8
  rw [e3] at q8
  rw [e4] at q9
  have hld : Hid (∀ {W : World} (g : Nat), Bk W g 23 (bkC b) → ∀ w, (∃ x : KW W, w = x.1) → (loadVar 23 ⟨g, 0, none⟩).run Try.prog w = .ok (.agg (bkC b)) w) := Lib.hid (fun g h => kw_load h8 h)
  have heq := Lib.hid (fun W : World => eql_blk W h8 h8)
  rw [decide_eq_true rfl] at heq
  have i8 := infoBlk h8
  have s8 : (bkC b).size = 8 := by rw [bkC_size, h8]
  have all8 := bkC_all b
  rw [bkC_noughts] at p0
  have P0 := Lib.hid p0
  clear p0 hbd hin e1 e2 e3 e4 h8
  generalize bkC b = cs at *
  generalize strL (cellB b) = S at *
  go_enter Try.func7, Try.ntmps7
  have hst : Hid (∀ v : World, Bk (v.alloc (.cells #[.int .i64 0, .int .i64 0, .int .i64 0, .int .i64 0, .int .i64 0, .int .i64 0, .int .i64 0, .int .i64 0] 23)) v.heap.size 23 #[.int .i64 0, .int .i64 0, .int .i64 0, .int .i64 0, .int .i64 0, .int .i64 0, .int .i64 0, .int .i64 0]) := Lib.hid (fun v => Bk.new v _ _)
  have hss : Hid (∀ v : World, Bk ((v.alloc (.cells #[.int .i64 0, .int .i64 0, .int .i64 0, .int .i64 0, .int .i64 0, .int .i64 0, .int .i64 0, .int .i64 0] 23)).setRow v.heap.size cs) v.heap.size 23 cs ∧ Below v.heap.size v ((v.alloc (.cells #[.int .i64 0, .int .i64 0, .int .i64 0, .int .i64 0, .int .i64 0, .int .i64 0, .int .i64 0, .int .i64 0] 23)).setRow v.heap.size cs)) := Lib.hid (fun v => ⟨(Bk.new v _ _).setRow cs, below_row ((Below.refl _ _).alloc (Nat.le_refl _) _) (Nat.le_refl _) _⟩)
  have m1 : True := trivial
  go_wp2_with (first
    | (go_at_call 14; go_must ((with_reducible refine (P0.out _).mono ?_); rintro e w1 ⟨rfl, hb1⟩; have B1 := Lib.hid hb1; clear hb1))
    | (refine wpList_store_row rfl 23 _ _ rfl w1.heap.size cs rfl rfl 23 _ (hst.out w1) i8 (by rw [s8]; rfl) all8 ?_; clear m1; have q2 := hss.out w1; generalize (w1.alloc _).setRow w1.heap.size cs = w2 at *; have K2 := Lib.hid q2.1; have B2 := Lib.hid (bnext B1.out q2.2); clear q2 B1; generalize w1.heap.size = a1 at *)
    | (refine wpList_load_row rfl 23 _ rfl a1 rfl 23 cs (0, 0) _ K2.out Try.underlying23 rfl i8 ?_)
    | (go_at_call 8; go_must ((with_reducible refine (pr.out _).mono ?_); rintro e w3 ⟨rfl, hb3⟩; have K3 := Lib.hid (K2.out.below hb3); have B3 := Lib.hid (bnext B2.out hb3); clear hb3))
    | (go_at_call 10; go_must ((with_reducible refine (rd.out w3.heap.size _ (Bk.newF w3 _ S)).mono ?_); rintro e w5 ⟨rfl, hk5, hb5⟩; have F5 := Lib.hid hk5; have n3 := K3.out.lt; have K5 := Lib.hid (hb5.bk (K3.out.alloc _) (by omega)); have B5 := Lib.hid (hb5.below (B3.out.alloc B3.out.size _) B3.out.size (Nat.le_trans B3.out.size (by simp))); clear hk5 hb5))
    | (refine wpList_store_row rfl 23 _ _ rfl w5.heap.size cs rfl rfl 23 _ (hst.out w5) i8 (by rw [s8]; rfl) all8 ?_; have q6 := hss.out w5; generalize (w5.alloc _).setRow w5.heap.size cs = w6 at *; have L6 := Lib.hid q6.1; have K6 := Lib.hid (K5.out.below q6.2); have F6 := Lib.hid (F5.out.below q6.2); have B6 := Lib.hid (bnext B5.out q6.2); clear q6 B5; generalize w5.heap.size = a5 at *))
  have hne : Nonempty (KW w6) := ⟨⟨w6, Below.refl _ _⟩⟩
  have r1 := Lib.hid (hld.out a1 K6.out)
  have r5 := Lib.hid (hld.out a5 L6.out)
  try simp only [List.append_eq, List.cons_append, List.nil_append]
  simp only [Act.put]
  refine wp_region_kept w6 (Below.refl _ _) (by kernel_rfl) (by kernel_rfl) ?_
  repeat (first
    | (go_big_quiet_want; (first | refine quiet_load_blk a1 r1.out _ rfl rfl ?_ | refine quiet_load_blk a5 r5.out _ rfl rfl ?_ | refine quiet_eql_blk true heq.out _ _ _ rfl rfl rfl ?_); go_simp; go_big_quiet_on)
    | go_big_quiet_step ((first
      | (go_at_call 8; with_reducible exact kept_of _ (pr.out _))
      | (go_at_call 16; with_reducible exact kept_of _ (dn.out w3.heap.size _ (F6.out.below (Subtype.property _))))
      | (go_at_call 12; first | with_reducible exact kept_of _ (g7.out _) | with_reducible exact kept_of _ (g8.out _))
      | (go_at_call 14; first | with_reducible exact kept_of _ (q8.out _) | with_reducible exact kept_of _ (q9.out _)))))
  refine wpQuiet_nil ?_
  rintro _ ⟨wx, rfl⟩
  go_wp2
  go_ret
  exact ⟨rfl, bnext B6.out wx.2⟩

end Go.Proofs.Ytenjjepjmcijhaa
