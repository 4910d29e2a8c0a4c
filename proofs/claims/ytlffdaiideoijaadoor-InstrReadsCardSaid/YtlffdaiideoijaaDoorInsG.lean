/-
  What instr.Read and the reference's Read answer where the bytes are instructions, and where they aren't; awake of layer 6's laws: true, in whatever memory that has the kinds' table.
-/
import Derived.Test.YtlffdaiideoijaaDoorInsC
import Derived.Test.YtlffdaiideoijaaDoorInsF
import Derived.Test.YtlffdaiideoijaaDoorAsmSm
namespace Go.Proofs.YtlffdaiideoijaaDoor
open Go.RowKit

theorem read_yes (s : ByteArray) (n : Int) (r0 r : Rd) (l : List Ins) (h : rdI s n.toNat r0 [] = (some l, r)) (g : Nat) (w : World) (hk : Bk w g 31 (frV s r0)) (hs : s.size ≤ 4611686018427387904) (hT : HasKinds w) (hg : 0 ≠ g) (hn : n ≤ 1048576) :
    Calls Tryd.prog 12 #[.pointer (some ⟨g, 0, none⟩), .int .i64 n] w fun e w' => ∃ A c, e = .returned (.tuple #[.slice A l.length c, .bool true]) ∧ Inss w' A c l ∧ Bk w' g 31 (frV s r) ∧ But g w w' :=
  (read_any s n r0 g w hk hs hT hg hn).mono fun e w' hp => by
    rw [h] at hp
    obtain ⟨h1, h2, v, he, ho⟩ := hp
    obtain ⟨A, c, rfl, hi⟩ := Inss.own ho
    exact ⟨A, c, he, hi, h1, h2⟩

theorem read_no (s : ByteArray) (n : Int) (r0 r : Rd) (h : rdI s n.toNat r0 [] = (none, r)) (g : Nat) (w : World) (hk : Bk w g 31 (frV s r0)) (hs : s.size ≤ 4611686018427387904) (hT : HasKinds w) (hg : 0 ≠ g) (hn : n ≤ 1048576) :
    Calls Tryd.prog 12 #[.pointer (some ⟨g, 0, none⟩), .int .i64 n] w fun e w' => e = .returned (.tuple #[.slice none 0 0, .bool false]) ∧ Bk w' g 31 (frV s r) ∧ But g w w' :=
  (read_any s n r0 g w hk hs hT hg hn).mono fun e w' hp => by
    rw [h] at hp
    exact ⟨hp.2.2, hp.1, hp.2.1⟩

theorem inssW_length (l : List Ins) : (inssW l).length = l.length * 3 := by
  induction l with
  | nil => rfl
  | cons x l ih => rw [inssW, List.flatMap_cons, List.length_append, List.length_cons]; rw [inssW] at ih; rw [ih]; simp [insW]; omega

theorem inss_new (l : List Ins) (w : World) : Inss (w.alloc (.cells (inssW l).toArray 26)) (some ⟨w.heap.size, 0, none⟩) l.length l := by
  have hk := Bk.new w 26 (inssW l).toArray
  refine ⟨by rw [inssW_length], Nat.le_refl _, fun h => (by cases h), fun _ => ⟨_, _, rfl, hk.lt, fun j _ => ?_⟩⟩
  rw [hk.cell]
  simp

/-! ### the examples -/
def icode : List Ins := [⟨4, 1, 2⟩, ⟨7, 0, 0⟩]
def itext : ByteArray := ⟨#[4, 0, 0, 0, 0, 0, 0, 0, 1, 0, 0, 0, 0, 0, 0, 0, 2, 7]⟩
theorem icode_right : ∀ x ∈ icode, rightN x := by decide
theorem icode_printed : strL (printN icode) = itext := by kernel_rfl
theorem icode_read : rdI itext (2 : Int).toNat ⟨0, false⟩ [] = (some icode, ⟨18, false⟩) := by kernel_rfl
theorem icode_more : rdI itext (3 : Int).toNat ⟨0, false⟩ [] = (none, ⟨18, true⟩) := by kernel_rfl
theorem iodd : rdI ⟨#[18]⟩ (1 : Int).toNat ⟨0, false⟩ [] = (none, ⟨1, true⟩) := by kernel_rfl

theorem new_reader {W w' : World} {o : Obj} (h : But W.heap.size (W.alloc o) w') : Below W.heap.size W w' := h.below ((Below.refl _ _).alloc (Nat.le_refl _) _) (Nat.le_refl _) (by rw [World.size_alloc]; omega)

end Go.Proofs.YtlffdaiideoijaaDoor
