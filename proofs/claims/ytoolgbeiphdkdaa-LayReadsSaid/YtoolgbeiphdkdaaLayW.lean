/-
  What awake of layer 3 answers (the document's examples): true, in whatever memory.
-/
import Derived.Test.YtoolgbeiphdkdaaLayS
namespace Go.Proofs.Ytoolgbeiphdkdaa
open Go.RowKit

def exS : ByteArray := ⟨#[2, 0, 0, 0, 0, 0, 0, 0, 1, 255, 255, 255, 255, 255, 255, 255, 254, 7]⟩

theorem ex1 : numsL exS 8 ⟨0, false⟩ = [1, -2] := by decide +kernel
theorem ex2 : (numsR exS 8 ⟨0, false⟩).at_ = 17 ∧ (numsR exS 8 ⟨0, false⟩).bad = false := by decide +kernel
theorem ex3 : byteV exS ⟨17, false⟩ = 7 := by decide +kernel
theorem ex4 : (byteR exS ⟨17, false⟩).at_ = 18 ∧ (byteR exS ⟨17, false⟩).bad = false := by decide +kernel
theorem ex5 : doneV exS ⟨18, false⟩ = true := by decide +kernel
theorem ex6 : numV exS ⟨18, false⟩ = 0 := by decide +kernel
theorem ex7 : (numR exS ⟨18, false⟩).at_ = 18 ∧ (numR exS ⟨18, false⟩).bad = true := by decide +kernel
theorem ex8 : strL (numB 258) = ⟨#[0, 0, 0, 0, 0, 0, 1, 2]⟩ := by decide +kernel
theorem ex9 : strL (numsB [1, -2]) = ⟨#[2, 0, 0, 0, 0, 0, 0, 0, 1, 255, 255, 255, 255, 255, 255, 255, 254]⟩ := by decide +kernel
theorem Rd.ext' {r : Rd} {a : Int} {b : Bool} (h : r.at_ = a ∧ r.bad = b) : r = ⟨a, b⟩ := by
  cases r with
  | mk x y => obtain ⟨h1, h2⟩ := h; simp only at h1 h2; subst h1; subst h2; rfl

theorem aw1 (g : Nat) (w : World) (hk : Bk w g 30 (frV exS ⟨0, false⟩)) : Calls Try.prog 18 #[.pointer (some ⟨g, 0, none⟩), .int .i64 8] w
    fun e w' => ∃ h cap, e = .returned (.slice (some ⟨h, 0, none⟩) 2 cap) ∧ 2 ≤ cap ∧ w.heap.size ≤ h ∧ h < w'.heap.size ∧ w'.cell? ⟨h, 0, none⟩ = some (.int .i64 1) ∧ w'.cell? ⟨h, 1, none⟩ = some (.int .i64 (-2)) ∧ Bk w' g 30 (frV exS ⟨17, false⟩) ∧ But g w w' := by
  refine (nums_any exS ⟨0, false⟩ 8 g w hk (by decide)).mono ?_
  rintro e w' ⟨v, rfl, hown, hk', hb⟩
  rw [ex1] at hown
  rw [Rd.ext' ex2] at hk'
  obtain ⟨-, ⟨_, h0⟩ | ⟨h, cap, cur, rfl, hB, hg, hnc, hcm, hcs, htake⟩⟩ := hown
  · simp at h0
  · have hlt := Bk.lt (t := 3) (cs := cur) hg
    have hat : ∀ j, j < 2 → cur[j]? = ([Value.int .i64 1, .int .i64 (-2)])[j]? := fun j hj => by
      have h1 : (cur.toList.take 2)[j]? = ([Value.int .i64 1, .int .i64 (-2)])[j]? := by have := congrArg (fun l : List Value => l[j]?) htake; exact this
      rwa [List.getElem?_take, if_pos hj, Array.getElem?_toList] at h1
    exact ⟨h, cap, rfl, hnc, hB, hlt, (cell_of_row w' h 0 cur 3 (0, 0) hg).trans (hat 0 (by omega)), (cell_of_row w' h 1 cur 3 (0, 0) hg).trans (hat 1 (by omega)), hk', hb⟩
theorem aw2 (g : Nat) (w : World) (hk : Bk w g 30 (frV exS ⟨17, false⟩)) : Calls Try.prog 13 #[.pointer (some ⟨g, 0, none⟩)] w
    fun e w' => e = .returned (.int .i64 7) ∧ Bk w' g 30 (frV exS ⟨18, false⟩) ∧ But g w w' := by
  have := byte_any exS ⟨17, false⟩ g w hk (by decide)
  rw [ex3, Rd.ext' ex4] at this
  exact this
theorem aw3 (g : Nat) (w : World) (hk : Bk w g 30 (frV exS ⟨18, false⟩)) : Calls Try.prog 20 #[.pointer (some ⟨g, 0, none⟩)] w
    fun e w' => e = .returned (.bool true) ∧ ∃ n, w' = w.drewN n := by
  have := done_any exS ⟨18, false⟩ g w hk
  rw [ex5] at this
  exact this
theorem aw4 (g : Nat) (w : World) (hk : Bk w g 30 (frV exS ⟨18, false⟩)) : Calls Try.prog 15 #[.pointer (some ⟨g, 0, none⟩)] w
    fun e w' => e = .returned (.int .i64 0) ∧ Bk w' g 30 (frV exS ⟨18, true⟩) ∧ But g w w' := by
  have := num_any exS ⟨18, false⟩ g w hk (by decide)
  rw [ex6, Rd.ext' ex7] at this
  exact this
theorem aw5 (w : World) : Calls Try.prog 9 #[.int .i64 258] w fun e w' => e = .returned (.string ⟨#[0, 0, 0, 0, 0, 0, 1, 2]⟩) ∧ Below w.heap.size w w' := by
  have := num_str 258 w
  rw [ex8] at this
  exact this
theorem aw6 (h : Nat) (w : World) (hk : Bk w h 3 #[.int .i64 1, .int .i64 (-2)]) : Calls Try.prog 11 #[.slice (some ⟨h, 0, none⟩) 2 2] w fun e w' => e = .returned (.string ⟨#[2, 0, 0, 0, 0, 0, 0, 0, 1, 255, 255, 255, 255, 255, 255, 255, 254]⟩) ∧ Below w.heap.size w w' := by
  have hi : Ints w (some ⟨h, 0, none⟩) 2 [1, -2] := ⟨rfl, Nat.le_refl _, fun h => by simp at h, fun _ => ⟨h, 0, rfl, hk.lt, fun j hj => by
    have hj' : j < 2 := by simpa using hj
    rw [hk.cell]
    match j, hj' with
    | 0, _ => rfl
    | 1, _ => rfl⟩⟩
  have := nums_str [1, -2] (some ⟨h, 0, none⟩) 2 w hi (by decide)
  rw [ex9] at this
  exact this

set_option maxHeartbeats 2000000 in
theorem awake3 (w : World) :
    Calls Try.prog 8 #[] w fun e w' => e = .returned (.bool true) ∧ Below w.heap.size w w' := by
  have hk0' : Hid (Bk (w.alloc (.cells #[.string ⟨#[2, 0, 0, 0, 0, 0, 0, 0, 1, 255, 255, 255, 255, 255, 255, 255, 254, 7]⟩, .int .i64 0, .bool false] 30)) w.heap.size 30 (frV exS ⟨0, false⟩)) := Lib.hid (Bk.new w 30 (frV exS ⟨0, false⟩))
  go_enter Try.func8, Try.ntmps8
  go_wp2_with (first
    | (go_at_call 18; go_must ((with_reducible refine (aw1 w.heap.size _ hk0'.out).mono ?_); rintro e w1 ⟨h, cap, rfl, hcap, hh1, hh2, c0, c1, hk1, hb1⟩; rw [World.size_alloc] at hh1; have hne : h ≠ w.heap.size := by omega))
    | (go_at_call 13; go_must ((with_reducible refine (aw2 w.heap.size _ hk1).mono ?_); rintro e w2 ⟨rfl, hk2, hb2⟩; have c20 := (hb2.cell h 0 hh2 hne).trans c0; have c21 := (hb2.cell h 1 hh2 hne).trans c1; have hh3 := Nat.lt_of_lt_of_le hh2 hb2.size; clear c0 c1 hk1))
    | (go_at_call 20; go_must ((with_reducible refine (aw3 w.heap.size _ hk2).mono ?_); rintro e w3 ⟨rfl, n3, rfl⟩))
    | (go_at_call 15; go_must ((with_reducible refine (aw4 w.heap.size (w2.drewN n3) (hk2.below (below_drewN w2 n3))).mono ?_); rintro e w4 ⟨rfl, hk4, hb4⟩; have c40 := (hb4.cell h 0 hh3 hne).trans c20; have c41 := (hb4.cell h 1 hh3 hne).trans c21; have hh4 := Nat.lt_of_lt_of_le hh3 hb4.size; clear c20 c21 hk2))
    | (go_at_call 9; go_must ((with_reducible refine (aw5 _).mono ?_); rintro e w5 ⟨rfl, hb5⟩; have c50 := (bcells hb5 h 0 hh4).trans c40; have c51 := (bcells hb5 h 1 hh4).trans c41; have hk5 := hk4.below hb5; have hh5 := Nat.lt_of_lt_of_le hh4 hb5.size; clear c40 c41 hk4))
    | (go_at_call 11; go_must ((with_reducible refine (aw6 w5.heap.size _ (Bk.new _ _ _)).mono ?_); rintro e w6 ⟨rfl, hb6⟩; have hbb := bnext ((Below.refl w5.heap.size w5).alloc (Nat.le_refl _) _) hb6; have c60 := (bcells hbb h 0 hh5).trans c50; have c61 := (bcells hbb h 1 hh5).trans c51; obtain ⟨-, -, c2, -⟩ := (hk5.below hbb).three; simp only at c2; clear c50 c51 hk5)))
  go_ret
  refine ⟨rfl, ?_⟩
  have t0 := (Below.refl w.heap.size w).alloc (Nat.le_refl _) (.cells #[.string ⟨#[2, 0, 0, 0, 0, 0, 0, 0, 1, 255, 255, 255, 255, 255, 255, 255, 254, 7]⟩, .int .i64 0, .bool false] 30)
  have t1 := hb1.below t0 (Nat.le_refl _) t0.size
  have t2 := hb2.below t1 (Nat.le_refl _) t1.size
  have t3 := t2.trans ((below_drewN w2 n3).mono t2.size)
  have t4 := hb4.below t3 (Nat.le_refl _) t3.size
  have t5 := t4.trans (hb5.mono t4.size)
  exact t5.trans (hbb.mono t5.size)

end Go.Proofs.Ytoolgbeiphdkdaa
