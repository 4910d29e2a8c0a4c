/-
  What WriteByte leaves in a strings.Builder: texts up to 2^20 bytes, a byte below 256; its String. No conditions but those that stand there.
-/
import Derived.Test.YtlffdaiideoijaaDoorBldr
import Derived.Test.YtlffdaiideoijaaDoorShelfBd
namespace Go.Proofs.YtlffdaiideoijaaDoor
open Go.RowKit

theorem byte_cells (l : List Nat) (o : Nat) (h : o < 256) : Lib.byteCells (u8L l) ++ [.int .u8 (o : Int)] = Lib.byteCells (u8L (l ++ [o])) := by
  rw [← u8L_append]
  congr 1
  simp only [u8L, Lib.byteCells, List.map_cons, List.map_nil]
  rw [UInt8.toNat_ofNat', Nat.mod_eq_of_lt h]

/-- a byte is written behind what a builder holds. -/
theorem write_one (B b : Nat) (l : List Nat) (o : Nat) (ho : o < 256) (w : World) (h : Lib.IsBuilderF 46 5 B b (Lib.byteCells (u8L l)) w) (hl : l.length ≤ 1048576) (hB : B ≤ w.heap.size) :
    Calls Tryd.prog 18 #[.pointer (some ⟨b, 0, none⟩), .int .u8 (o : Int)] w fun e w' => e = .returned .nilIface ∧ Lib.IsBuilderF 46 5 B b (Lib.byteCells (u8L (l ++ [o]))) w' ∧ Below B w w' ∧ Lib.OthersKept 5 (some b) w w' :=
  (Tryd.write_byte B b _ o w h (by rw [u8L_length]; omega) hB).mono fun e w' ⟨he, hb, hbel, hk⟩ => ⟨he, by rw [← byte_cells l o ho]; exact .inr hb, hbel, hk⟩

end Go.Proofs.YtlffdaiideoijaaDoor
