/-
  What the reference's Split answers, by what the tokens are.
-/
import Derived.Test.YtjbhhlhaikmecaaDoorTokT
namespace Go.Proofs.YtjbhhlhaikmecaaDoor
open Go.RowKit

theorem rsplit_yes (s : ByteArray) (o : List Tok) (w : World) (hs : s.size ≤ 4000) (h : splitN (bL s) = some o) :
    Calls Tryd.prog 21 #[.string s] w fun e w' => ∃ vt, e = .returned (.tuple #[vt, .int .i64 0]) ∧ w'.ownsRow w.heap.size 48 3 vt o.length (toksV o) ∧ Below w.heap.size w w' :=
  (rsplit_any s w hs).mono fun e w' hp => by rw [h] at hp; obtain ⟨hb, vt, he, ho⟩ := hp; exact ⟨vt, he, ho, hb⟩

theorem rsplit_no (s : ByteArray) (w : World) (hs : s.size ≤ 4000) (h : splitN (bL s) = none) :
    Calls Tryd.prog 21 #[.string s] w fun e w' => e = .returned (.tuple #[.slice none 0 0, .int .i64 9]) ∧ Below w.heap.size w w' :=
  (rsplit_any s w hs).mono fun e w' hp => by rw [h] at hp; exact ⟨hp.2, hp.1⟩

end Go.Proofs.YtjbhhlhaikmecaaDoor
