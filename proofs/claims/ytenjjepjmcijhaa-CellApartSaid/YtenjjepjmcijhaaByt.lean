/-
  Rows of bytes in memory: a block whose first cells are these bytes; a store into it; the string of them. No conditions but that bytes are below 256.
-/
import Derived.Test.YtenjjepjmcijhaaStr
import Derived.Test.YtenjjepjmcijhaaWords
import Derived.Lib.ConvBytes
import Derived.Deep.OwnRows
namespace Go.Proofs.Ytenjjepjmcijhaa
open Go.RowKit

/-- the string of some bytes. -/
def strL (l : List Nat) : ByteArray := ⟨(l.map UInt8.ofNat).toArray⟩

theorem bL_strL (l : List Nat) (h : ∀ b ∈ l, b < 256) : bL (strL l) = l := by
  unfold bL strL
  simp only [List.map_map]
  conv => rhs; rw [← List.map_id l]
  apply List.map_congr_left
  intro b hb
  have := h b hb
  simp only [Function.comp_apply, id_eq]
  rw [UInt8.toNat_ofNat']
  omega

theorem strL_size (l : List Nat) : (strL l).size = l.length := by
  show ((l.map UInt8.ofNat).toArray).size = _
  simp

theorem fold_strL (l : List Nat) : (l.map fun n : Nat => (n : Int)).foldl (fun r n => r.push (UInt8.ofNat n.toNat)) ByteArray.empty = strL l := by
  have : ∀ (l : List Nat) (r : ByteArray), (l.map fun n : Nat => (n : Int)).foldl (fun r n => r.push (UInt8.ofNat n.toNat)) r = ⟨r.data ++ (l.map UInt8.ofNat).toArray⟩ := by
    intro l
    induction l with
    | nil => intro r; apply ByteArray.ext; simp
    | cons b l ih =>
      intro r
      rw [List.map_cons, List.foldl_cons, ih]
      apply ByteArray.ext
      simp
  rw [this]
  apply ByteArray.ext
  simp [strL]

/-- Block g begins with these bytes, none of them frozen. -/
structure By (w : World) (g : Nat) (l : List Nat) : Prop where
  lt : g < w.heap.size
  cell : ∀ j, j < l.length → w.cell? ⟨g, j, none⟩ = some (.int .u8 ((l[j]?.getD 0 : Nat) : Int))
  frozen : ∀ j, j < l.length → w.frozen? ⟨g, j, none⟩ = false

theorem By.below {w w' : World} {g : Nat} {l : List Nat} (h : By w g l) (hb : Below w.heap.size w w') : By w' g l :=
  ⟨Nat.lt_of_lt_of_le h.lt hb.size, fun j hj => (hb.cell (p := ⟨g, j, none⟩) h.lt).trans (h.cell j hj), fun j hj => (hb.frozen (p := ⟨g, j, none⟩) h.lt).trans (h.frozen j hj)⟩

theorem By.set {w : World} {g : Nat} {l : List Nat} (h : By w g l) (i v : Nat) (hi : i < l.length) : By (w.setCell ⟨g, i, none⟩ (.int .u8 (v : Int))) g (l.set i v) := by
  refine ⟨by simpa [World.setCell] using h.lt, fun j hj => ?_, fun j hj => ?_⟩
  · have hj' : j < l.length := by simpa using hj
    by_cases hij : i = j
    · subst hij
      rw [World.cell?_setCell_same _ _ _ (h.cell i hi)]
      simp [hi]
    · rw [World.cell?_setCell_other _ _ _ _ (fun e => hij (by injection e)), h.cell j hj', List.getElem?_set_ne hij]
  · simp [h.frozen j (by simpa using hj)]

theorem conv_by {w : World} {g : Nat} {l : List Nat} (h : By w g l) (k c : Nat) (hk : k = l.length) :
    (convert 41 9 (.slice (some ⟨g, 0, none⟩) k c)).run Try.prog w = .ok (.string (strL l)) w := by
  subst hk
  rw [run_convert_bytes_string w 41 9 5 _ _ _ Try.underlying41 Try.underlying5 Try.underlying9]
  rw [run_bytesToString w ⟨g, 0, none⟩ l.length c (l.map fun n : Nat => (n : Int)) ?_, fold_strL]
  have hl := run_loadCells_list (P := Try.prog) w ⟨g, 0, none⟩ (l.map fun n : Nat => Value.int .u8 (n : Int)) (fun j v hv => by
    rw [List.getElem?_map] at hv
    obtain ⟨n, hn, rfl⟩ := Option.map_eq_some_iff.1 hv
    have hj : j < l.length := by
      rcases Nat.lt_or_ge j l.length with hlt | hge
      · exact hlt
      · rw [List.getElem?_eq_none hge] at hn; cases hn
    have := h.cell j hj
    rw [hn] at this
    simpa [Addr.add_lit] using this)
  rw [List.map_map]
  rw [List.length_map] at hl
  exact hl

/-- the first i as x has them, the others as y. -/
def mixF (N i : Nat) (x y : Nat → Nat) : List Nat := (List.range N).map fun j => if j < i then x j else y j

theorem mixF_length (N i : Nat) (x y : Nat → Nat) : (mixF N i x y).length = N := by simp [mixF]
theorem mixF_at (N i : Nat) (x y : Nat → Nat) (j : Nat) (h : j < N) : (mixF N i x y)[j]? = some (if j < i then x j else y j) := by simp [mixF, h]
theorem mixF_set (N i : Nat) (x y : Nat → Nat) (h : i < N) : (mixF N i x y).set i (x i) = mixF N (i + 1) x y := by
  apply List.ext_getElem?
  intro j
  by_cases hj : j < N
  · by_cases hij : i = j
    · subst hij
      rw [List.getElem?_set_self (by rw [mixF_length]; exact h), mixF_at _ _ _ _ _ h, if_pos (by omega)]
    · rw [List.getElem?_set_ne hij, mixF_at _ _ _ _ _ hj, mixF_at _ _ _ _ _ hj]
      by_cases hji : j < i
      · rw [if_pos hji, if_pos (by omega)]
      · rw [if_neg hji, if_neg (by omega)]
  · rw [List.getElem?_eq_none (by simp [mixF]; omega), List.getElem?_eq_none (by simp [mixF]; omega)]
theorem mixF_full (N : Nat) (x y : Nat → Nat) : mixF N N x y = (List.range N).map x := by
  unfold mixF
  apply List.map_congr_left
  intro j hj
  rw [if_pos (by simpa using hj)]

theorem mixF_nought (N : Nat) (x : Nat → Nat) : mixF N 0 x (fun _ => 0) = List.replicate N 0 := by
  apply List.ext_getElem?
  intro j
  by_cases hj : j < N
  · rw [mixF_at _ _ _ _ _ hj, if_neg (by omega), List.getElem?_replicate, if_pos hj]
  · rw [List.getElem?_eq_none (by simp [mixF]; omega), List.getElem?_eq_none (by simp; omega)]

theorem infoU8 : (Try.prog.info? 5).map (fun i => (i.zero, i.size, i.bytes)) = some (some (.int .u8 0), 1, 1) := by kernel_rfl

theorem By.made (w : World) (n : Nat) : By (w.alloc (.cells (madeCells #[.int .u8 0] n) 5)) w.heap.size (List.replicate n 0) := by
  have hk := Bk.new w 5 (madeCells #[.int .u8 0] n)
  refine ⟨hk.lt, fun j hj => ?_, fun j _ => hk.frozen j⟩
  have hj' : j < n := by simpa using hj
  rw [hk.cell j]
  have e : (madeCells #[Value.int .u8 0] n)[j]? = (madeCells #[Value.int .u8 0] n).toList[j]? := by simp
  rw [e, toList_madeCells_one]
  simp [hj']

/-- of a new array of so many noughts. -/
theorem make_by (w : World) (n : Nat) (h : n ≤ 1048576) :
    (Instr.makeSlice 41 (.int .i64 (n : Int)) (.int .i64 (n : Int))).run Try.prog w = .ok (.slice (some ⟨w.heap.size, 0, none⟩) n n) (w.alloc (.cells (madeCells #[.int .u8 0] n) 5)) :=
  run_make_row' 41 5 _ 1 Try.underlying41 infoU8 rfl .i64 .i64 n (by omega) (by omega) w

end Go.Proofs.Ytenjjepjmcijhaa
