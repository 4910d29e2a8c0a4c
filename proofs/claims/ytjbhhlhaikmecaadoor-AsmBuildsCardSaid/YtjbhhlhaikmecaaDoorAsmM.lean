/-
  The labels of a text as a map in memory. No conditions but those that stand there.
-/
import Derived.Test.YtjbhhlhaikmecaaDoorAsmA
import Derived.Maps.OwnSet
import Derived.Maps.Views
import Derived.StringKeys
namespace Go.Proofs.YtjbhhlhaikmecaaDoor
open Go.RowKit Go.Maps Go.WideMaps

theorem lawS : Keyed Tryd.prog 9 := string_keyed Tryd.underlying9
theorem zeroI (w : World) : (zeroValue 3).run Tryd.prog w = .ok (.int .i64 0) w := by kernel_rfl

/-- a word whose letters are bytes. -/
def byteW (g : List Nat) : Prop := ∀ c ∈ g, c < 256
theorem byteW_letters {g : List Nat} (h : ∀ c ∈ g, isLetter c) : byteW g := fun c hc => by have := h c hc; unfold isLetter at this; omega
theorem strL_inj {a b : List Nat} (ha : byteW a) (hb : byteW b) (h : strL a = strL b) : a = b := by
  rw [← bL_strL a ha, ← bL_strL b hb, h]

def keyL (g : List Nat) : Lit := .string (strL g).data.toList
theorem keyL_inj {a b : List Nat} (ha : byteW a) (hb : byteW b) (h : keyL a = keyL b) : a = b := by
  unfold keyL at h
  injection h with h
  exact strL_inj ha hb (ByteArray.ext (Array.ext' h))
theorem keyOf_word (g : List Nat) (h : g.length ≤ 1048576) : keyOf Tryd.prog 9 (.string (strL g)) = some (keyL g) :=
  keyOf_string_mk Tryd.underlying9 (by rw [strL_size]; unfold maxLen; omega)
theorem keyLit (g : List Nat) : WideAt.IsKeyLit (keyL g) := trivial

def putL (m : DataW Unit) (p : List Nat × Nat) : DataW Unit := m.put (keyL p.1) (.lit (.int .i64 (p.2 : Int)))
def labD (labs : List (List Nat × Nat)) : DataW Unit := labs.foldl putL (.map [])
theorem labD_snoc (labs : List (List Nat × Nat)) (p : List Nat × Nat) : labD (labs ++ [p]) = putL (labD labs) p := by simp [labD, List.foldl_append]

theorem fold_has (g : List Nat) (hg : byteW g) : ∀ (labs : List (List Nat × Nat)) (m : DataW Unit), IsMap m → (∀ p ∈ labs, byteW p.1) → Maps.has (labs.foldl putL m) (keyL g) = (Maps.has m (keyL g) || decide (g ∈ labs.map (·.1)))
  | [], m, _, _ => by simp
  | p :: labs, m, hm, hl => by
    rw [List.foldl_cons, fold_has g hg labs (putL m p) (hm.put _ _) (fun q hq => hl q (List.mem_cons_of_mem _ hq))]
    by_cases h : p.1 = g
    · subst h
      rw [putL, has_put_same hm (keyLit _)]
      simp
    · rw [putL, has_put_other (fun e => h (keyL_inj hg (hl p List.mem_cons_self) e).symm)]
      congr 1
      rw [List.map_cons]
      apply decide_eq_decide.2
      rw [List.mem_cons]
      exact ⟨fun e => .inr e, fun e => e.elim (fun e => absurd e.symm h) id⟩

theorem labD_has (labs : List (List Nat × Nat)) (g : List Nat) (hg : byteW g) (hl : ∀ p ∈ labs, byteW p.1) : Maps.has (labD labs) (keyL g) = decide (g ∈ labs.map (·.1)) := by
  rw [labD, fold_has g hg labs _ isMap_empty hl]
  simp [Maps.has]

theorem fold_at (g : List Nat) (hg : byteW g) (z : DataW Unit) : ∀ (labs : List (List Nat × Nat)) (m : DataW Unit) (a : Int), IsMap m → (∀ p ∈ labs, byteW p.1) → m.atKey (keyL g) z = .lit (.int .i64 a) →
    (labs.foldl putL m).atKey (keyL g) z = .lit (.int .i64 (labs.foldl (fun at_ p => if p.1 = g then (p.2 : Int) else at_) a))
  | [], _, _, _, _, h => h
  | p :: labs, m, a, hm, hl, h => by
    rw [List.foldl_cons, List.foldl_cons]
    refine fold_at g hg z labs (putL m p) _ (hm.put _ _) (fun q hq => hl q (List.mem_cons_of_mem _ hq)) ?_
    by_cases hp : p.1 = g
    · rw [if_pos hp, putL, hp, atKey_put_same hm (keyLit _)]
    · rw [if_neg hp, putL, atKey_put_other (fun e => hp (keyL_inj hg (hl p List.mem_cons_self) e).symm), h]

theorem where_any (g : List Nat) : ∀ (labs : List (List Nat × Nat)) (a b : Int), g ∈ labs.map (·.1) → labs.foldl (fun at_ p => if p.1 = g then (p.2 : Int) else at_) a = labs.foldl (fun at_ p => if p.1 = g then (p.2 : Int) else at_) b
  | [], _, _, h => by simp at h
  | p :: labs, a, b, h => by
    rw [List.foldl_cons, List.foldl_cons]
    by_cases hp : p.1 = g
    · rw [if_pos hp, if_pos hp]
    · rw [if_neg hp, if_neg hp]
      refine where_any g labs a b ?_
      rw [List.map_cons, List.mem_cons] at h
      exact h.elim (fun e => absurd e.symm hp) id

theorem where_none (g : List Nat) : ∀ (labs : List (List Nat × Nat)) (a : Int), g ∉ labs.map (·.1) → labs.foldl (fun at_ p => if p.1 = g then (p.2 : Int) else at_) a = a
  | [], _, _ => rfl
  | p :: labs, a, h => by
    rw [List.map_cons, List.mem_cons] at h
    rw [List.foldl_cons, if_neg (fun e => h (.inl e.symm))]
    exact where_none g labs a (fun e => h (.inr e))

theorem labD_at (labs : List (List Nat × Nat)) (g : List Nat) (hg : byteW g) (hl : ∀ p ∈ labs, byteW p.1) (h : g ∈ labs.map (·.1)) : (labD labs).atKey (keyL g) (.lit (.int .i64 0)) = .lit (.int .i64 (whereN labs g)) := by
  rw [labD, fold_at g hg _ labs _ 0 isMap_empty hl (by simp [DataW.atKey]), whereN, where_any g labs 0 (-1) h]

theorem where_no {labs : List (List Nat × Nat)} {g : List Nat} (h : g ∉ labs.map (·.1)) : whereN labs g = -1 := where_none g labs _ h

/-- the labels lie in block m. -/
def Labs (w : World) (m : Nat) (labs : List (List Nat × Nat)) : Prop := w.ownsMap Tryd.prog 9 (plainElem Tryd.prog 3) m labs.length (labD labs)

theorem Labs.made (w : World) : Labs (w.alloc (.map #[] 0)) w.heap.size [] := World.ownsMap_made w _ _ _
theorem Labs.lt {w : World} {m : Nat} {labs : List (List Nat × Nat)} (h : Labs w m labs) : m < w.heap.size := World.ownsMap.lt h
theorem Labs.heap {w w' : World} {m : Nat} {labs : List (List Nat × Nat)} (h : Labs w m labs) (hh : w'.heap[m]? = w.heap[m]?) : Labs w' m labs := by
  unfold Labs World.ownsMap at h ⊢
  rw [hh]
  exact h

/-- a label more. -/
theorem Labs.more {w' : World} {m : Nat} {labs : List (List Nat × Nat)} (g : List Nat) (n : Nat) (hw : w'.ownsMap Tryd.prog 9 (plainElem Tryd.prog 3) m (labs.length + 1) ((labD labs).put (keyL g) (.lit (.int .i64 (n : Int))))) : Labs w' m (labs ++ [(g, n)]) := by
  unfold Labs
  rw [labD_snoc, List.length_append]
  exact hw

end Go.Proofs.YtjbhhlhaikmecaaDoor
