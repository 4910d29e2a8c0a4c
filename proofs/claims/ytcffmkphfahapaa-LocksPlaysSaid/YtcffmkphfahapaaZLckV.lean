/-
  Commands that ask one by one, by their numbers; what right says of a list. No conditions but those that stand there.
-/
import Derived.Test.YtcffmkphfahapaaZLckW
namespace Go.Proofs.Ytcffmkphfahapaa
open Go.RowKit Go.Shelf

/-- the first so many, each with its number. -/
def whoN (l : List CmL) (i : Nat) : Who := (List.range i).map fun j => (((j : Nat) : Int) + 1, (l[j]?.getD default).c)
theorem whoN_zero (l : List CmL) : whoN l 0 = [] := rfl
theorem whoN_succ {l : List CmL} {i : Nat} {x : CmL} (hx : l[i]? = some x) : whoN l (i + 1) = whoN l i ++ [((i : Int) + 1, x.c)] := by
  unfold whoN
  rw [List.range_succ, List.map_append]
  simp [hx]
theorem whoN_length (l : List CmL) (i : Nat) : (whoN l i).length = i := by simp [whoN]
theorem whoN_mem {l : List CmL} {n : Nat} {y : Int × Cmd} (hy : y ∈ whoN l n) : ∃ j, j < n ∧ y = ((j : Int) + 1, (l[j]?.getD default).c) := by
  obtain ⟨j, hj, rfl⟩ := List.mem_map.1 hy
  exact ⟨j, List.mem_range.1 hj, rfl⟩
theorem whoN_one {l : List CmL} {n : Nat} {y : Int × Cmd} (hy : y ∈ whoN l n) {k : Nat} {x : CmL} (hx : l[k]? = some x) (e : y.1 = (k : Int) + 1) : y.2 = x.c := by
  obtain ⟨j, -, rfl⟩ := whoN_mem hy
  simp only at e ⊢
  obtain rfl : j = k := by omega
  rw [hx]
  rfl
theorem whoN_le {l : List CmL} {n : Nat} {y : Int × Cmd} (hy : y ∈ whoN l n) : y.1 ≤ n := by
  obtain ⟨j, hj, rfl⟩ := whoN_mem hy
  simp only
  omega
theorem whoN_at {l : List CmL} {n i : Nat} {x : CmL} (h : i < n) (hx : l[i]? = some x) : ((i : Int) + 1, x.c) ∈ whoN l n := by
  refine List.mem_map.2 ⟨i, List.mem_range.2 h, ?_⟩
  rw [hx]
  rfl

/-- each may be, and its blocks are there; few of them. -/
def RightL (l : List CmL) (n : Nat) : Prop := (∀ x ∈ l, MayBe x.c ∧ fitsT x.c n) ∧ l.length ≤ 30
theorem RightL.at {l : List CmL} {n i : Nat} {x : CmL} (h : RightL l n) (hx : l[i]? = some x) : MayBe x.c ∧ fitsT x.c n := h.1 x (List.mem_of_getElem? hx)

section
variable (l : List CmL) (A : Option Addr) (n c : Nat) (w : World)
theorem right_yes (h : Cmds w A c l) (hN : l.length = n) (hr : RightL l 6) : Calls Try.prog 8 #[.slice A n c, .int .i64 6] w fun e w' => e = .returned (.bool true) ∧ Below w.heap.size w w' :=
  right15_any l A n c 6 w h hN (by have := hr.2; omega) true ⟨fun _ => ⟨hr.1, by have := hr.2; omega⟩, fun _ => rfl⟩
theorem right_no (h : Cmds w A c l) (hN : l.length = n) (hz : n ≤ 9223372036854775807) (hr : ¬ RightL l 6) : Calls Try.prog 8 #[.slice A n c, .int .i64 6] w fun e w' => e = .returned (.bool false) ∧ Below w.heap.size w w' :=
  right15_any l A n c 6 w h hN hz false ⟨fun q => (by cases q), fun q => absurd ⟨q.1, by omega⟩ hr⟩
end

/-- the commands of a list, one by one. -/
theorem CmL.lkR {l : List CmL} {w : World} {A : Option Addr} {c n i : Nat} {x : CmL} (h : Cmds w A c l) (hr : RightL l n) (hx : l[i]? = some x) : CmLk w x.c x.ra x.nr x.rc x.wa x.nw x.wc n := by
  obtain ⟨h1, h2⟩ := hr.at hx
  exact CmL.lk (h.2 x (List.mem_of_getElem? hx)) h1 h2

/-! ### what is ready -/
theorem ready_bool {u : Who} {n : Nat} {c : Cmd} (hc : setsN c) (hf : fitsT c n) (s : Int) (b : Bool) : readyL (lksW u n) c s = b ↔ (readyN u s c ↔ b = true) := by
  have := ready_W u hc hf s
  cases b with
  | true => simp [this]
  | false =>
    rw [← this]
    simp
theorem readyL_more {u : Who} {n : Nat} {c : Cmd} (hc : setsN c) (hf : fitsT c n) {s t : Int} (d : Cmd) (h : t ≠ s) : readyL (lksW (u ++ [(t, d)]) n) c s = readyL (lksW u n) c s := by
  rw [Bool.eq_iff_iff, ready_W _ hc hf, ready_W _ hc hf]
  exact ready_more u t s d c h
theorem readyL_less {u : Who} {n : Nat} {c : Cmd} (hc : setsN c) (hf : fitsT c n) {s t : Int} (h : s ≠ t) (hr : readyL (lksW u n) c s = true) : readyL (lksW (u.filter fun x => decide (x.1 ≠ t)) n) c s = true := by
  rw [ready_W _ hc hf] at hr ⊢
  exact ready_less h hr
theorem filter_all {u : Who} {t : Int} (h : ∀ x ∈ u, x.1 ≠ t) (d : Cmd) : (u ++ [(t, d)]).filter (fun x => decide (x.1 ≠ t)) = u := by
  rw [List.filter_append, List.filter_cons_of_neg (by simp), List.filter_nil, List.append_nil, List.filter_eq_self]
  intro x hx
  simpa using h x hx

end Go.Proofs.Ytcffmkphfahapaa
