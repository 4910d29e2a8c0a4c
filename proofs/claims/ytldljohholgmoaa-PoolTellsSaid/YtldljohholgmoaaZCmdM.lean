/-
  A command in memory: its value, its box, its four slices. They name no function of the program. No conditions but those that stand there.
-/
import Derived.Test.YtldljohholgmoaaQStr
import Derived.Test.YtldljohholgmoaaZBlw
import Derived.Test.YtldljohholgmoaaZAsmW
import Derived.Test.YtldljohholgmoaaZIntS
namespace Go.Proofs.Ytldljohholgmoaa
open Go.RowKit

/-- a command's value: four slices and its fuel. -/
abbrev cmV (ra : Option Addr) (nr rc : Nat) (wa : Option Addr) (nw wc : Nat) (aa : Option Addr) (na ac : Nat) (fuel : Int) (ca : Option Addr) (nc cc : Nat) : Value :=
  .agg #[.slice ra nr rc, .slice wa nw wc, .slice aa na ac, .int .i64 fuel, .slice ca nc cc]

theorem Bk.cmd {w : World} {g : Nat} {t : TypeId} {a b c d e : Value} (h : Bk w g t #[a, b, c, d, e]) :
    w.cell? ⟨g, 0, none⟩ = some a ∧ w.cell? ⟨g, 1, none⟩ = some b ∧ w.cell? ⟨g, 2, none⟩ = some c ∧ w.cell? ⟨g, 3, none⟩ = some d ∧ w.cell? ⟨g, 4, none⟩ = some e ∧ ∀ o, w.frozen? ⟨g, o, none⟩ = false :=
  ⟨h.cell 0, h.cell 1, h.cell 2, h.cell 3, h.cell 4, fun o => h.frozen o⟩

theorem below_drewQ (B : Nat) (w : World) (n : Nat) : Below B w (w.drewN n) := ⟨rfl, rfl, rfl, Nat.le_refl _, fun _ _ => rfl⟩

/-- a command in memory: its four slices. -/
structure CmIn (w : World) (c : Cmd) (ra : Option Addr) (nr rc : Nat) (wa : Option Addr) (nw wc : Nat) (aa : Option Addr) (na ac : Nat) (ca : Option Addr) (nc cc : Nat) : Prop where
  lr : c.reads.length = nr
  lw : c.writes.length = nw
  la : c.args.length = na
  lc : c.code.length = nc
  reads : Ints w ra rc c.reads
  writes : Ints w wa wc c.writes
  args : Ints w aa ac c.args
  code : Inss w ca cc c.code
  br : nr ≤ 1000
  bw : nw ≤ 1000
  ba : na ≤ 1000
  bc : nc ≤ 1000

theorem CmIn.below {w w' : World} {c : Cmd} {ra : Option Addr} {nr rc : Nat} {wa : Option Addr} {nw wc : Nat} {aa : Option Addr} {na ac : Nat} {ca : Option Addr} {nc cc : Nat} (h : CmIn w c ra nr rc wa nw wc aa na ac ca nc cc) (hb : Below w.heap.size w w') : CmIn w' c ra nr rc wa nw wc aa na ac ca nc cc :=
  ⟨h.lr, h.lw, h.la, h.lc, h.reads.below hb, h.writes.below hb, h.args.below hb, h.code.below hb, h.br, h.bw, h.ba, h.bc⟩

abbrev CmObj (ra : Option Addr) (nr rc : Nat) (wa : Option Addr) (nw wc : Nat) (aa : Option Addr) (na ac : Nat) (fuel : Int) (ca : Option Addr) (nc cc : Nat) : Obj :=
  .cells #[.slice ra nr rc, .slice wa nw wc, .slice aa na ac, .int .i64 fuel, .slice ca nc cc] 33

/-- a command in memory, of whatever size. -/
structure CmRaw (w : World) (c : Cmd) (ra : Option Addr) (nr rc : Nat) (wa : Option Addr) (nw wc : Nat) (aa : Option Addr) (na ac : Nat) (ca : Option Addr) (nc cc : Nat) : Prop where
  lr : c.reads.length = nr
  lw : c.writes.length = nw
  la : c.args.length = na
  lc : c.code.length = nc
  reads : Ints w ra rc c.reads
  writes : Ints w wa wc c.writes
  args : Ints w aa ac c.args
  code : Inss w ca cc c.code

theorem CmRaw.into {w : World} {c : Cmd} {ra : Option Addr} {nr rc : Nat} {wa : Option Addr} {nw wc : Nat} {aa : Option Addr} {na ac : Nat} {ca : Option Addr} {nc cc : Nat} (h : CmRaw w c ra nr rc wa nw wc aa na ac ca nc cc) (hs : nr ≤ 20 ∧ nw ≤ 20 ∧ na ≤ 20 ∧ nc ≤ 100) : CmIn w c ra nr rc wa nw wc aa na ac ca nc cc :=
  ⟨h.lr, h.lw, h.la, h.lc, h.reads, h.writes, h.args, h.code, by omega, by omega, by omega, by omega⟩

end Go.Proofs.Ytldljohholgmoaa
