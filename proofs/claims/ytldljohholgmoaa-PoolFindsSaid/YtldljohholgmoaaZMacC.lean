/-
  A machine's cells: loaded whole, stored whole. They name no function of the program. No conditions but those that stand there.
-/
import Derived.Test.YtldljohholgmoaaZCmdM
import Derived.Test.YtldljohholgmoaaZBlw
import Derived.Test.YtldljohholgmoaaZBut
import Derived.Test.YtldljohholgmoaaZCelM
import Derived.Deep.DeepMust
import Derived.Deep.MidRow
namespace Go.Proofs.Ytldljohholgmoaa
open Go.RowKit

/-- a machine's cells. -/
abbrev mC (pc fuel : Int) (S : Value) (r0 r1 r2 r3 : Int) (O : Value) (ov : Bool) (e : Int) : Array Value :=
  #[.int .i64 pc, .int .i64 fuel, S, .int .i64 r0, .int .i64 r1, .int .i64 r2, .int .i64 r3, O, .bool ov, .int .i64 e]

theorem infoMc : (Try.prog.info? 38).map (·.size) = some 10 := by kernel_rfl

section
variable {ops : Array Oper} {rest : List Oper} {o : Oper} {a : Act} {w : World} {Q : Exit → Act → World → Prop}

/-- a machine is loaded whole. -/
theorem ld_mach (g : Nat) {pc fuel : Int} {S : Value} {r0 r1 r2 r3 : Int} {O : Value} {ov : Bool} {e0 : Int} (hk : Bk w g 38 (mC pc fuel S r0 r1 r2 r3 O ov e0)) (x : Operand) (hgd : o.guard = none) (ho : o.op = .load 38 x) (hx : a.eval x = .pointer (some ⟨g, 0, none⟩))
    (h : wpList Try.prog ops Q rest (a.put o.dst (.agg (mC pc fuel S r0 r1 r2 r3 O ov e0))) w) : wpList Try.prog ops Q (o :: rest) a w :=
  wpList_load_row hgd _ x ho g hx _ _ (0, 0) _ hk Try.underlying38 rfl infoMc h

/-- and stored whole. -/
theorem st_mach (g : Nat) {pc fuel : Int} {S : Value} {r0 r1 r2 r3 : Int} {O : Value} {ov : Bool} {e0 : Int} {pc' fuel' : Int} {S' : Value} {r0' r1' r2' r3' : Int} {O' : Value} {ov' : Bool} {e0' : Int} (hk : Bk w g 38 (mC pc' fuel' S' r0' r1' r2' r3' O' ov' e0'))
    (hS : S.oneCell' = true) (hO : O.oneCell' = true) (x y : Operand) (hgd : o.guard = none) (ho : o.op = .store 38 x y) (hx : a.eval x = .pointer (some ⟨g, 0, none⟩)) (hy : a.eval y = .agg (mC pc fuel S r0 r1 r2 r3 O ov e0))
    (h : wpList Try.prog ops Q rest (a.put o.dst undef) (w.setRow g (mC pc fuel S r0 r1 r2 r3 O ov e0))) : wpList Try.prog ops Q (o :: rest) a w :=
  wpList_store_row hgd _ x y ho g _ hx hy _ _ hk infoMc rfl (by simp [Value.oneCell']; exact ⟨hS, hO⟩) h
end

theorem res_mach {fn : Func} {p : Tmp} (hf : fn.results = #[.cell p 38]) (tmps : Array Value) (w : World) (g : Nat) {pc fuel : Int} {S : Value} {r0 r1 r2 r3 : Int} {O : Value} {ov : Bool} {e0 : Int}
    (hp : tmps.getD p undef = .pointer (some ⟨g, 0, none⟩)) (hk : Bk w g 38 (mC pc fuel S r0 r1 r2 r3 O ov e0)) : (results fn tmps).run Try.prog w = .ok (.agg (mC pc fuel S r0 r1 r2 r3 O ov e0)) w :=
  results_cell_row hf tmps w g _ _ (0, 0) _ hp hk Try.underlying38 rfl infoMc

/-- a machine without anything. -/
abbrev mZ : Array Value := mC 0 0 (.slice none 0 0) 0 0 0 0 (.slice none 0 0) false 0

theorem Bk.drewN {w : World} {g : Nat} {t : TypeId} {cs : Array Value} (h : Bk w g t cs) (n : Nat) : Bk (w.drewN n) g t cs := h.below (drewN_below w n)

end Go.Proofs.Ytldljohholgmoaa
