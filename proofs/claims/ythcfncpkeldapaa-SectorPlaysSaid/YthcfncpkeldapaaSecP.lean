/-
  The document's example, reckoned on plain devices. No conditions.
-/
import Derived.Test.YthcfncpkeldapaaSecF
import Derived.Test.YthcfncpkeldapaaSecG
namespace Go.Proofs.Ythcfncpkeldapaa
open Go.RowKit

def zB : ByteArray := padB ByteArray.empty
def abB : ByteArray := padB ⟨#[97, 98]⟩
def xyzB : ByteArray := padB ⟨#[120, 121, 122]⟩
def xbB : ByteArray := padB ⟨#[120, 98]⟩

def E1 : Dk := ⟨[zB, zB, zB], [], false, -1⟩
def E2 : Dk := ⟨[zB, zB, zB], [(1, abB)], false, -1⟩
def E3 : Dk := ⟨[zB, abB, zB], [], false, -1⟩
def E4 : Dk := ⟨[zB, abB, zB], [(1, xyzB)], false, -1⟩
def E5 : Dk := ⟨[zB, xbB, zB], [], false, -1⟩
def E6 : Dk := ⟨[zB, abB, zB], [], false, -1⟩
def E7 : Dk := ⟨[zB, abB, zB], [(1, xyzB)], false, 0⟩
def E8 : Dk := ⟨[zB, abB, zB], [(1, xyzB)], true, 0⟩
def E9 : Dk := ⟨[zB, xyzB, zB], [], false, -1⟩

theorem e1 : newD 3 = E1 := rfl
theorem e2 : putD E1 1 ⟨#[97, 98]⟩ = (E2, 0) := rfl
theorem e3 : flushD E2 = (E3, 0) := rfl
theorem e4 : putD E3 1 ⟨#[120, 121, 122]⟩ = (E4, 0) := rfl
theorem e5 : readD E4 1 = (xyzB, 0) := rfl
theorem torn1 : tornB abB xyzB 1 = xbB := by decide +kernel
theorem e6 : startD E4 [] 0 1 = E5 := by
  show Dk.mk [zB, tornB abB xyzB 1, zB] [] false (-1) = E5
  rw [torn1]; rfl
theorem e7 : readD E5 1 = (xbB, 0) := rfl
theorem e8 : startD E4 [] (-1) 0 = E6 := rfl
theorem e9 : readD E6 1 = (abB, 0) := rfl
theorem e10 : putD E4 3 ⟨#[]⟩ = (E4, 2) := rfl
theorem e11 : armD E4 0 = E7 := rfl
theorem e12 : putD E7 1 ⟨#[]⟩ = (E8, 17) := rfl
theorem e13 : startD E4 [true] (-1) 0 = E9 := rfl

theorem ok1 : E1.ok := e1 ▸ newD_ok 3 (by omega)
theorem ok2 : E2.ok := by have := putD_ok E1 1 ⟨#[97, 98]⟩ ok1; rwa [e2] at this
theorem ok3 : E3.ok := by have := flushD_ok E2 ok2; rwa [e3] at this
theorem ok4 : E4.ok := by have := putD_ok E3 1 ⟨#[120, 121, 122]⟩ ok3; rwa [e4] at this
theorem ok5 : E5.ok := by have := startD_ok E4 [] 0 1 ok4; rwa [e6] at this
theorem ok6 : E6.ok := by have := startD_ok E4 [] (-1) 0 ok4; rwa [e8] at this
theorem ok7 : E7.ok := by have := armD_ok E4 0 ok4 (by omega); rwa [e11] at this

end Go.Proofs.Ythcfncpkeldapaa
