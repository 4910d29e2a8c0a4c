/-
  What layer 17's laws begin with: commands that may be, and a crew that has them pending. No conditions but those that stand there.
-/
import Derived.Test.YtpaocjpjlogkgaaQPooV
import Derived.Test.YtpaocjpjlogkgaaZCrwC
import Derived.Test.YtpaocjpjlogkgaaQCrwF
import Derived.Test.YtpaocjpjlogkgaaZCrwTu
namespace Go.Proofs.Ytpaocjpjlogkgaa
open Go Go.RowKit
set_option maxRecDepth 100000

/-- commands that may be, of 6 blocks, 20 at most. -/
def R17 (l : List CmL) : Prop := (∀ x ∈ l, MayBe x.c ∧ fitsT x.c 6) ∧ l.length ≤ 20
abbrev csOf (l : List CmL) : List Cmd := l.map CmL.c
abbrev b06 : List Ent := List.replicate 6 entZ
theorem goodT6 : goodT b06 := goodT_new 6
section
variable {l : List CmL} {A : Option Addr} {n c : Nat} {w : World}
theorem right17_yes (h : Cmds w A c l) (hN : l.length = n) (hr : R17 l) : Calls Try.prog 6 #[.slice A n c] w fun e w' => e = .returned (.bool true) ∧ Below w.heap.size w w' :=
  right17_any l A n c w h hN (by have := hr.2; omega) true ⟨fun _ => ⟨hr.1, by rw [← hN]; exact hr.2⟩, fun _ => rfl⟩
theorem right17_no (h : Cmds w A c l) (hN : l.length = n) (hz : n ≤ 9223372036854775807) (hr : ¬ R17 l) : Calls Try.prog 6 #[.slice A n c] w fun e w' => e = .returned (.bool false) ∧ Below w.heap.size w w' :=
  right17_any l A n c w h hN hz false ⟨fun h => (by cases h), fun h => absurd ⟨h.1, by rw [hN]; exact h.2⟩ hr⟩
theorem R17.cmds (h : R17 l) : ∀ c ∈ csOf l, MayBe c ∧ fitsT c 6 := fun c hc => by
  obtain ⟨x, hx, rfl⟩ := List.mem_map.1 hc
  exact h.1 x hx
theorem R17.cmds' (h : R17 l) : ∀ c ∈ csOf l, MayBe c ∧ fitsT c b06.length := fun c hc => by rw [List.length_replicate]; exact h.cmds c hc
theorem R17.few (h : R17 l) : (csOf l).length ≤ 20 := by rw [List.length_map]; exact h.2
theorem R17.inv (h : R17 l) : CInv (csOf l) b06 3 (startX 6 (csOf l)) := start_inv h.cmds (by decide)
theorem addAll_length (cs : List Cmd) : (addAll cs).length = cs.length := by unfold addAll; rw [List.length_map, List.length_range]
theorem R17.fuels (h : R17 l) : ∀ T ∈ addAll (csOf l), 0 ≤ T.m.fuel ∧ T.m.fuel ≤ 200 := fun T hT => by
  obtain ⟨k, hk, rfl⟩ := List.mem_map.1 hT
  have hk := List.mem_range.1 hk
  obtain ⟨hm, -⟩ := h.cmds _ (cmAt_mem hk)
  obtain ⟨-, -, -, -, f5, f6⟩ := hm.few
  exact ⟨(by show 0 ≤ (cmAt (csOf l) k).fuel; omega), f6⟩
theorem fuel_sum : ∀ {L : List Tsk}, (∀ T ∈ L, 0 ≤ T.m.fuel ∧ T.m.fuel ≤ 200) → 0 ≤ fuelP L ∧ fuelP L ≤ 200 * (L.length : Int)
  | [], _ => ⟨Int.le_refl _, Int.le_refl _⟩
  | T :: L, h => by
    obtain ⟨h1, h2⟩ := h T (by simp)
    obtain ⟨h3, h4⟩ := fuel_sum (L := L) (fun T hT => h T (by simp [hT]))
    have e : fuelP (T :: L) = T.m.fuel + fuelP L := by simp [fuelP]
    rw [e, List.length_cons]
    omega
theorem R17.fuel (h : R17 l) : 0 ≤ fuelP (addAll (csOf l)) ∧ fuelP (addAll (csOf l)) ≤ 4000 := by
  have := fuel_sum h.fuels
  rw [addAll_length] at this
  have := h.few
  omega
/-- all is done, if so many turns may be. -/
theorem R17.goes (h : R17 l) (ts : List Nat) {most : Nat} (hm : fuelP (addAll (csOf l)) + 2 * (l.length : Int) ≤ most) :
    (goP ts most 0 (startX 6 (csOf l))).1.tasks = [] ∧ CInv (csOf l) b06 3 (goP ts most 0 (startX 6 (csOf l))).1 ∧ 0 ≤ (goP ts most 0 (startX 6 (csOf l))).2 ∧ (goP ts most 0 (startX 6 (csOf l))).2 ≤ (most : Int) := by
  obtain ⟨g1, g2, g3, g4⟩ := CInv.go h.cmds' goodT6 ts most 0 (startX 6 (csOf l)) h.inv (by
    show potP (addAll (csOf l)) ≤ _
    rw [pot_start, List.length_map]
    exact hm)
  exact ⟨g1, g2, by omega, by omega⟩
theorem R17.goes5000 (h : R17 l) (ts : List Nat) :
    (goP ts 5000 0 (startX 6 (csOf l))).1.tasks = [] ∧ CInv (csOf l) b06 3 (goP ts 5000 0 (startX 6 (csOf l))).1 ∧ 0 ≤ (goP ts 5000 0 (startX 6 (csOf l))).2 ∧ (goP ts 5000 0 (startX 6 (csOf l))).2 ≤ 5000 :=
  h.goes ts (most := 5000) (by have := h.fuel; have := h.2; omega)
/-- a crew with all of them pending. -/
theorem start_any (h : Cmds w A c l) (hN : l.length = n) (hr : R17 l) {z : CwL} (hz : CwIs 6 0 (restX 6) w z) : Calls Try.prog 8 #[.agg (cwA 6 0 hd0 z), .slice A n c, .int .i64 1] w (AddPost 6 0 hd0 (startX 6 (csOf l)) w) := by
  have := cadd_any 6 0 hd0 (restX 6) z l A n c 1 w hz h hN hr.1 (by have := hr.2; show 0 + n ≤ 900; omega) (by decide) (by decide)
  rwa [start_is 6 l hN] at this
end

end Go.Proofs.Ytpaocjpjlogkgaa
