/-
  A strings.Builder in memory, and what WriteString leaves in it: texts up to 2^20 bytes. No conditions but those that stand there.
-/
import Derived.Test.YtenjjepjmcijhaaWords
import Derived.Test.YtenjjepjmcijhaaByt
import Derived.Test.YtenjjepjmcijhaaShelfWr
namespace Go.Proofs.Ytenjjepjmcijhaa
open Go.RowKit

theorem ownF_below {w w' : World} {B : Nat} {e : TypeId} {size n : Nat} {v : Value} {xs : List Value} (h : w.ownsRowF B e size v n xs) (hb : Below w.heap.size w w') : w'.ownsRowF B e size v n xs := by
  refine ⟨h.1, ?_⟩
  rcases h.2 with h0 | ⟨g, cap, cur, fz, hv, hB, hg, r⟩
  · exact .inl h0
  · have hlt : g < w.heap.size := by
      rcases Nat.lt_or_ge g w.heap.size with q | q
      · exact q
      · rw [Array.getElem?_eq_none q] at hg; cases hg
    exact .inr ⟨g, cap, cur, fz, hv, hB, (hb.block g hlt).trans hg, r⟩

theorem builder_below {T e : TypeId} {B b : Nat} {bs : List Value} {w w' : World} (h : Lib.IsBuilderF T e B b bs w) (hb : Below w.heap.size w w') : Lib.IsBuilderF T e B b bs w' := by
  have key : ∀ p, Lib.BuilderAtF T e B b p bs w → Lib.BuilderAtF T e B b p bs w' := by
    rintro p ⟨h1, v, h2, h3, h4⟩
    exact ⟨h1, v, Bk.below (t := T) (cs := #[p, v]) h2 hb, ownF_below h3 hb, h4⟩
  exact h.imp (key _) (key _)

theorem builder_new (w : World) (T e : TypeId) : Lib.IsBuilderF T e w.heap.size w.heap.size [] (w.alloc (.cells #[.pointer none, .slice none 0 0] T)) :=
  .inl ⟨Nat.le_refl _, .slice none 0 0, Bk.new w T _, ⟨rfl, .inl ⟨rfl, rfl⟩⟩, by simp [Value.ownBlock]⟩

theorem kept_bk {e T : TypeId} {b k : Nat} {w w' : World} {cs : Array Value} (h : Lib.OthersKept e (some b) w w') (hk : Bk w k T cs) (hne : k ≠ b) (hT : T ≠ e) : Bk w' k T cs :=
  h k _ hk (fun e1 => hne (Option.some.inj e1)) (fun _ _ e1 => by injection e1 with _ e2; exact hT e2)

theorem bk_belowB {w w' : World} {B k : Nat} {T : TypeId} {cs : Array Value} (hk : Bk w k T cs) (hb : Below B w w') (h : k < B) : Bk w' k T cs := (hb.block k h).trans hk

def u8L (l : List Nat) : List UInt8 := l.map UInt8.ofNat

theorem cells_str (l : List Nat) : Lib.strCells (strL l) = Lib.byteCells (u8L l) := rfl

theorem u8L_append (l m : List Nat) : Lib.byteCells (u8L l) ++ Lib.byteCells (u8L m) = Lib.byteCells (u8L (l ++ m)) := by simp [u8L, Lib.byteCells]

theorem u8L_length (l : List Nat) : (Lib.byteCells (u8L l)).length = l.length := by simp [u8L, Lib.byteCells]

/-- a text is written behind what a builder holds. -/
theorem write_any (B b : Nat) (l m : List Nat) (w : World) (h : Lib.IsBuilderF 43 5 B b (Lib.byteCells (u8L l)) w) (hl : l.length + m.length ≤ 1048576) (hB : B ≤ w.heap.size) :
    Calls Try.prog 17 #[.pointer (some ⟨b, 0, none⟩), .string (strL m)] w fun e w' => e = .returned (.tuple #[.int .i64 ((strL m).size : Nat), .nilIface]) ∧ Lib.IsBuilderF 43 5 B b (Lib.byteCells (u8L (l ++ m))) w' ∧ Below B w w' ∧ Lib.OthersKept 5 (some b) w w' :=
  (Try.write_string B b _ (strL m) w h (by rw [u8L_length, strL_size]; omega) hB).mono fun e w' ⟨he, hb, hbel, hk⟩ => ⟨he, by rw [← u8L_append, ← cells_str]; exact .inr hb, hbel, hk⟩

end Go.Proofs.Ytenjjepjmcijhaa
