/-
  What lay.Num and lay.Nums answer, in whatever memory: the bytes of any number, and of a list of at most 2^40 numbers (of the first 255).
-/
import Derived.Test.YtlffdaiideoijaaDoorLayE
namespace Go.Proofs.YtlffdaiideoijaaDoor
open Go.RowKit

theorem num_str (n : Int) (w : World) :
    Calls Tryd.prog 20 #[.int .i64 n] w
      fun e w' => e = .returned (.string (strL (numB n))) ∧ Below w.heap.size w w' := by
  have hadd := Lib.hid (addNum_any n (.slice none 0 0) 0 [] w.heap.size w ⟨rfl, .inl ⟨rfl, rfl⟩⟩ (Nat.le_refl _) (by omega))
  go_enter Tryd.func20, Tryd.ntmps20
  go_wp2_with (go_at_call 28; go_must ((with_reducible refine hadd.out.mono ?_); rintro e w1 ⟨v', rfl, hown, hb⟩; have hcv := conv_own (l := numB n) (by simpa using hown) (by omega)))
  go_ret
  exact ⟨rfl, hb⟩

/-- a slice of ints. -/
def Ints (w : World) (A : Option Addr) (c : Nat) (l : List Int) : Prop := Sl w 1 A l.length c (l.map (.int .i64))

theorem Ints.cellAt {w : World} {A : Option Addr} {c : Nat} {l : List Int} (h : Ints w A c l) {j : Nat} (hj : j < l.length) :
    ∃ b off, A = some ⟨b, off, none⟩ ∧ b < w.heap.size ∧ w.cell? ⟨b, off + j, none⟩ = some (.int .i64 (l[j]?.getD 0)) := by
  obtain ⟨b, off, rfl, hb, hc⟩ := h.2.2.2 (by omega)
  refine ⟨b, off, rfl, hb, ?_⟩
  rw [hc j (by omega)]
  simp [hj]

end Go.Proofs.YtlffdaiideoijaaDoor
