/-
  What token.Split answers, in whatever memory, of every text.
-/
import Derived.Test.YtjbhhlhaikmecaaDoorTokF
namespace Go.Proofs.YtjbhhlhaikmecaaDoor
open Go.RowKit

theorem own_lower {w : World} {b B : Nat} {e : TypeId} {size n : Nat} {v : Value} {xs : List Value} (h : w.ownsRow B e size v n xs) (hb : b ≤ B) : w.ownsRow b e size v n xs := by
  refine ⟨h.1, ?_⟩
  rcases h.2 with h0 | ⟨g, cap, cur, h1, h2, r⟩
  · exact .inl h0
  · exact .inr ⟨g, cap, cur, h1, by omega, r⟩

theorem RS.iter {w : World} {B g : Nat} {x : List Tok × TS} (h : RS w B g x) {k : Nat} (hk : k < B) (hg : g ≠ k) (s : ByteArray) (p : Nat) : RS (w.iterAt k s p) B g x := by
  have hr : ∀ {vt vw : Value} {q sg sz : Int} {out : List Tok} {word : List Nat}, Rdr w B g vt vw q sg sz out word → Rdr (w.iterAt k s p) B g vt vw q sg sz out word := fun h =>
    ⟨h.bk.iter hg s p, own_iter h.toks hk s p, own_iter h.word hk s p, h.lt, by rw [Lib.iterAt_size]; exact h.le⟩
  obtain ⟨out, st⟩ := x
  cases st with
  | gap => obtain ⟨a, b, c, h⟩ := h; exact ⟨a, b, c, hr h⟩
  | note => obtain ⟨a, b, c, h⟩ := h; exact ⟨a, b, c, hr h⟩
  | word wd => obtain ⟨h0, a, b, c, h⟩ := h; exact ⟨h0, a, b, c, hr h⟩
  | minus => obtain ⟨a, b, h⟩ := h; exact ⟨a, b, hr h⟩
  | num neg n => obtain ⟨h0, a, b, h⟩ := h; exact ⟨h0, a, b, hr h⟩
  | err => exact h

/-- what Split answers where the tokens are r. -/
def SplitPost (r : Option (List Tok)) (w : World) (e : Ending) (w' : World) : Prop :=
  Below w.heap.size w w' ∧ match r with
    | none => e = .returned (.tuple #[.slice none 0 0, .int .i64 9])
    | some o => ∃ vt, e = .returned (.tuple #[vt, .int .i64 0]) ∧ w'.ownsRow w.heap.size 48 3 vt o.length (toksV o)

set_option maxHeartbeats 4000000 in
theorem splitLong (s : ByteArray) (w : World) (hs : 4000 < s.size) :
    Calls Tryd.prog 22 #[.string s] w fun e w' => e = .returned (.tuple #[.slice none 0 0, .int .i64 4]) ∧ w = w' := by
  have d1 : (4000 : Int) < (s.size : Int) := by omega
  go_enter Tryd.func22, Tryd.ntmps22
  go_wp2
  go_ret2
  exact ⟨rfl, rfl⟩

set_option maxHeartbeats 4000000 in
theorem split_any (s : ByteArray) (w : World) (hs : s.size ≤ 4000) :
    Calls Tryd.prog 22 #[.string s] w (SplitPost (splitN (bL s)) w) := by
  have d1 : ¬ (4000 : Int) < (s.size : Int) := by omega
  have hst : Hid (finS (foldS ([], .gap) (runesAt s s.size 0)) = splitN (bL s)) := Lib.hid (split_runes s)
  generalize splitN (bL s) = R at *
  go_enter Tryd.func22, Tryd.ntmps22
  go_wp2
  go_loopw [6] (fun _ wr => ∃ (pos fuel : Nat) (x : List Tok × TS), wr.heap[w.heap.size + 1]? = some (.stringIter s pos) ∧ RS wr (w.heap.size + 2) w.heap.size x ∧ Below w.heap.size w wr ∧ Hid (finS (foldS x (runesAt s fuel pos)) = R) ∧ s.size ≤ pos + fuel ∧ x.1.length + pendS x.2 + fuel ≤ s.size ∧ wordLen x.2 + fuel ≤ s.size) (fun _ wr => s.size - wr.iterPos (w.heap.size + 1))
  case atStart =>
    refine ⟨0, s.size, ([], .gap), ?_, ?_, ?_, hst, by omega, by simp [pendS], by simp [wordLen]⟩
    · have h := World.iter_heap (w.alloc (.cells #[.slice none 0 0, .int .i64 0, .slice none 0 0, .int .i64 0, .int .i64 0] 70)) s 0
      rw [World.size_alloc] at h
      exact h
    · refine ⟨.slice none 0 0, .slice none 0 0, 0, (Bk.new w _ _).alloc _, ⟨rfl, .inl ⟨rfl, rfl⟩⟩, ⟨rfl, .inl ⟨rfl, rfl⟩⟩, by omega, ?_⟩
      show w.heap.size + 2 ≤ ((w.alloc _).alloc (.stringIter s 0)).heap.size
      rw [World.size_alloc, World.size_alloc]
      exact Nat.le_refl _
    · exact ((Below.refl _ _).alloc (Nat.le_refl _) _).alloc (by rw [World.size_alloc]; omega) (.stringIter s 0)
  case round =>
    clear hst
    obtain ⟨pos, fuel, x, hit, hx, hb, HS, hf, hl1, hl2⟩ := hrel
    have hpos0 := Lib.hid (iterPos_of hit)
    by_cases hp : pos < s.size
    · have hnx : ∀ ty, (Instr.next (.pointer (some ⟨w.heap.size + 1, 0, none⟩)) true ty).run Tryd.prog wr = _ := fun ty => Lib.run_next_any_at wr (w.heap.size + 1) s pos ty hit hp
      have hwd := width_pos s pos hp
      obtain ⟨fuel, rfl⟩ : ∃ f', fuel = f' + 1 := ⟨fuel - 1, by omega⟩
      have hit2 := Lib.iterAt_heap wr (w.heap.size + 1) s pos (pos + (Utf8.decode s pos).2) hit
      have hb2 := Lib.below_iterAt hb (k := w.heap.size + 1) (by omega) s (pos + (Utf8.decode s pos).2)
      have hx2 := hx.iter (k := w.heap.size + 1) (by omega) (by omega) s (pos + (Utf8.decode s pos).2)
      have hcle := decode_le s pos
      have HS2 : Hid (finS (foldS (stepS x (Utf8.decode s pos).1) (runesAt s fuel (pos + (Utf8.decode s pos).2))) = R) := Lib.hid (by
        rw [← HS.out, runesAt, if_pos hp, foldS_cons])
      have hlen := step_len x (Utf8.decode s pos).1
      obtain ⟨W1, hW1⟩ : ∃ W1, W1 = wr.iterAt (w.heap.size + 1) s (pos + (Utf8.decode s pos).2) := ⟨_, rfl⟩
      rw [← hW1] at hnx hit2 hb2 hx2
      have ht := Lib.hid (take_any (w.heap.size + 2) w.heap.size x (Utf8.decode s pos).1 W1 hx2 (by omega) (by omega) hcle)
      have hit2' := Lib.hid hit2
      have hf' : s.size ≤ pos + (Utf8.decode s pos).2 + fuel := by omega
      have hl1' : (stepS x (Utf8.decode s pos).1).1.length + pendS (stepS x (Utf8.decode s pos).1).2 + fuel ≤ s.size := by omega
      have hl2' : wordLen (stepS x (Utf8.decode s pos).1).2 + fuel ≤ s.size := by omega
      have hq : s.size - (pos + (Utf8.decode s pos).2) < s.size - pos := by omega
      have hq' := Lib.hid hq
      clear hW1 hit hx hb HS hx2 hcle hit2 hlen hl1 hl2 hf hwd hq
      generalize stepS x (Utf8.decode s pos).1 = y at *
      generalize pos + (Utf8.decode s pos).2 = pos2 at *
      generalize (Utf8.decode s pos).1 = c at *
      cases hy : fineS y.2 with
      | true =>
        go_wp2_with (go_at_call 39; go_must ((with_reducible refine ht.out.mono ?_); rintro e w2 ⟨rfl, hbt, hk2⟩; simp only [hy]))
        have hne : y.2 ≠ .err := fun h => by rw [h] at hy; cases hy
        have hit3 : w2.heap[w.heap.size + 1]? = some (.stringIter s pos2) := (hbt.block _ (by omega) (by omega)).trans hit2'.out
        go_roundw
        case rel => exact ⟨pos2, fuel, y, hit3, hk2 hne, hbt.below hb2 (by omega) (Nat.le_refl _), HS2, hf', hl1', hl2'⟩
        case measure => rw [iterPos_of hit3, hpos0.out]; exact hq'.out
      | false =>
        have hyn : Hid (none = R) := Lib.hid (by
          obtain ⟨yo, ys⟩ := y
          cases ys with
          | err => rw [← HS2.out, fold_err]; rfl
          | _ => cases hy)
        go_wp2_with (go_at_call 39; go_must ((with_reducible refine ht.out.mono ?_); rintro e w2 ⟨rfl, hbt, -⟩; simp only [hy]))
        go_ret2
        rw [← hyn.out]
        exact ⟨hbt.below hb2 (by omega) (Nat.le_refl _), rfl⟩
    · have hnx : ∀ ty, (Instr.next (.pointer (some ⟨w.heap.size + 1, 0, none⟩)) true ty).run Tryd.prog wr = _ := fun ty => Lib.run_next_end_at wr (w.heap.size + 1) s pos ty hit hp
      have HR : finS x = R := by rw [← HS.out, runesAt_end s fuel pos hp, foldS_nil]
      have he := Lib.hid (end_any (w.heap.size + 2) w.heap.size x wr hx (by omega))
      clear hit hx HS
      cases R with
      | none =>
        go_wp2_with (go_at_call 40; go_must ((with_reducible refine he.out.mono ?_); rintro e w2 ⟨hbt, hm⟩; rw [HR] at hm; obtain rfl := hm))
        go_ret2
        exact ⟨hbt.below hb (by omega) (Nat.le_refl _), rfl⟩
      | some o =>
        go_wp2_with (go_at_call 40; go_must ((with_reducible refine he.out.mono ?_); rintro e w2 ⟨hbt, hm⟩; rw [HR] at hm; obtain ⟨rfl, vt, vw, p, sg, hk, -⟩ := hm; have c0 := hk.bk.cell 0; simp only [List.getElem?_toArray, List.getElem?_cons_zero] at c0))
        go_ret2
        exact ⟨hbt.below hb (by omega) (Nat.le_refl _), vt, rfl, own_lower hk.toks (by omega)⟩

theorem split_yes (s : ByteArray) (o : List Tok) (w : World) (hs : s.size ≤ 4000) (h : splitN (bL s) = some o) :
    Calls Tryd.prog 22 #[.string s] w fun e w' => ∃ vt, e = .returned (.tuple #[vt, .int .i64 0]) ∧ w'.ownsRow w.heap.size 48 3 vt o.length (toksV o) ∧ Below w.heap.size w w' :=
  (split_any s w hs).mono fun e w' hp => by rw [h] at hp; obtain ⟨hb, vt, he, ho⟩ := hp; exact ⟨vt, he, ho, hb⟩

theorem split_no (s : ByteArray) (w : World) (hs : s.size ≤ 4000) (h : splitN (bL s) = none) :
    Calls Tryd.prog 22 #[.string s] w fun e w' => e = .returned (.tuple #[.slice none 0 0, .int .i64 9]) ∧ Below w.heap.size w w' :=
  (split_any s w hs).mono fun e w' hp => by rw [h] at hp; exact ⟨hp.2, hp.1⟩

end Go.Proofs.YtjbhhlhaikmecaaDoor
