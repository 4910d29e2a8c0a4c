/-
  What machine.New and over answer, and the reference's New and over of layer 10, in whatever memory. No conditions but those that stand there.
-/
import Derived.Test.YtibmfhmeoohdeaaQStr
import Derived.Test.YtibmfhmeoohdeaaZCmdM
import Derived.Test.YtibmfhmeoohdeaaZBut
import Derived.Test.YtibmfhmeoohdeaaZCelM
import Derived.Deep.DeepMust
import Derived.Deep.MidRow
namespace Go.Proofs.Ytibmfhmeoohdeaa
open Go.RowKit

/-- a machine's cells. -/
abbrev mC (pc fuel : Int) (S : Value) (r0 r1 r2 r3 : Int) (O : Value) (ov : Bool) (e : Int) : Array Value :=
  #[.int .i64 pc, .int .i64 fuel, S, .int .i64 r0, .int .i64 r1, .int .i64 r2, .int .i64 r3, O, .bool ov, .int .i64 e]

theorem infoMc : (Try.prog.info? 54).map (·.size) = some 10 := by kernel_rfl

section
variable {ops : Array Oper} {rest : List Oper} {o : Oper} {a : Act} {w : World} {Q : Exit → Act → World → Prop}

/-- a machine is loaded whole. -/
theorem ld_mach (g : Nat) {pc fuel : Int} {S : Value} {r0 r1 r2 r3 : Int} {O : Value} {ov : Bool} {e0 : Int} (hk : Bk w g 54 (mC pc fuel S r0 r1 r2 r3 O ov e0)) (x : Operand) (hgd : o.guard = none) (ho : o.op = .load 54 x) (hx : a.eval x = .pointer (some ⟨g, 0, none⟩))
    (h : wpList Try.prog ops Q rest (a.put o.dst (.agg (mC pc fuel S r0 r1 r2 r3 O ov e0))) w) : wpList Try.prog ops Q (o :: rest) a w :=
  wpList_load_row hgd _ x ho g hx _ _ (0, 0) _ hk Try.underlying54 rfl infoMc h

/-- and stored whole. -/
theorem st_mach (g : Nat) {pc fuel : Int} {S : Value} {r0 r1 r2 r3 : Int} {O : Value} {ov : Bool} {e0 : Int} {pc' fuel' : Int} {S' : Value} {r0' r1' r2' r3' : Int} {O' : Value} {ov' : Bool} {e0' : Int} (hk : Bk w g 54 (mC pc' fuel' S' r0' r1' r2' r3' O' ov' e0'))
    (hS : S.oneCell' = true) (hO : O.oneCell' = true) (x y : Operand) (hgd : o.guard = none) (ho : o.op = .store 54 x y) (hx : a.eval x = .pointer (some ⟨g, 0, none⟩)) (hy : a.eval y = .agg (mC pc fuel S r0 r1 r2 r3 O ov e0))
    (h : wpList Try.prog ops Q rest (a.put o.dst undef) (w.setRow g (mC pc fuel S r0 r1 r2 r3 O ov e0))) : wpList Try.prog ops Q (o :: rest) a w :=
  wpList_store_row hgd _ x y ho g _ hx hy _ _ hk infoMc rfl (by simp [Value.oneCell']; exact ⟨hS, hO⟩) h
end

theorem res_mach {fn : Func} {p : Tmp} (hf : fn.results = #[.cell p 54]) (tmps : Array Value) (w : World) (g : Nat) {pc fuel : Int} {S : Value} {r0 r1 r2 r3 : Int} {O : Value} {ov : Bool} {e0 : Int}
    (hp : tmps.getD p undef = .pointer (some ⟨g, 0, none⟩)) (hk : Bk w g 54 (mC pc fuel S r0 r1 r2 r3 O ov e0)) : (results fn tmps).run Try.prog w = .ok (.agg (mC pc fuel S r0 r1 r2 r3 O ov e0)) w :=
  results_cell_row hf tmps w g _ _ (0, 0) _ hp hk Try.underlying54 rfl infoMc

/-- a machine without anything. -/
abbrev mZ : Array Value := mC 0 0 (.slice none 0 0) 0 0 0 0 (.slice none 0 0) false 0

/-- a box and a result's block. -/
abbrev mB2 (cs : Array Value) (w : World) : World := (w.alloc (.cells cs 54)).alloc (.cells mZ 54)
theorem mB2_below (cs : Array Value) (w : World) : Below w.heap.size w (mB2 cs w) := ((Below.refl _ _).alloc (Nat.le_refl _) _).alloc (by rw [World.size_alloc]; omega) _
theorem mB2_box (cs : Array Value) (w : World) : Bk (mB2 cs w) w.heap.size 54 cs := (Bk.new w _ _).alloc _
theorem mB2_res (cs : Array Value) (w : World) : Bk (mB2 cs w) (w.heap.size + 1) 54 mZ := by
  have := Bk.new (w.alloc (.cells cs 54)) 54 mZ
  rwa [World.size_alloc] at this

section
variable (pc fuel : Int) (sA : Option Addr) (sn sc : Nat) (r0 r1 r2 r3 : Int) (oA : Option Addr) (on oc : Nat) (ov : Bool) (e0 : Int)

theorem over_well (w : World) : Calls Try.prog 42 #[.agg (mC pc fuel (.slice sA sn sc) r0 r1 r2 r3 (.slice oA on oc) ov e0), .int .i64 0] w
    fun e w' => e = .returned (.agg (mC pc fuel (.slice sA sn sc) r0 r1 r2 r3 (.slice oA on oc) true 0)) ∧ Below w.heap.size w w' := by
  have hb := Lib.hid (mB2_box (mC pc fuel (.slice sA sn sc) r0 r1 r2 r3 (.slice oA on oc) true 0) w)
  have hr := Lib.hid (mB2_res (mC pc fuel (.slice sA sn sc) r0 r1 r2 r3 (.slice oA on oc) true 0) w)
  have hB := Lib.hid (mB2_below (mC pc fuel (.slice sA sn sc) r0 r1 r2 r3 (.slice oA on oc) true 0) w)
  go_enter Try.func42, Try.ntmps42
  go_wp2_with (first
    | (with_reducible refine ld_mach w.heap.size hb.out _ rfl rfl rfl ?_)
    | (with_reducible refine st_mach (w.heap.size + 1) hr.out rfl rfl _ _ rfl rfl rfl rfl ?_))
  exact bodyPost_ret (v := .agg (mC pc fuel (.slice sA sn sc) r0 r1 r2 r3 (.slice oA on oc) true 0)) (res_mach rfl _ _ (w.heap.size + 1) rfl (Bk.setRow hr.out _)) rfl ⟨rfl, below_row hB.out (by omega) _⟩

theorem over_bad (told : Int) (ht : told ≠ 0) (w : World) : Calls Try.prog 42 #[.agg (mC pc fuel (.slice sA sn sc) r0 r1 r2 r3 (.slice oA on oc) ov e0), .int .i64 told] w
    fun e w' => e = .returned (.agg (mC pc fuel (.slice sA sn sc) r0 r1 r2 r3 (.slice none 0 0) true told)) ∧ Below w.heap.size w w' := by
  have hb := Lib.hid (mB2_box (mC pc fuel (.slice sA sn sc) r0 r1 r2 r3 (.slice none 0 0) true told) w)
  have hr := Lib.hid (mB2_res (mC pc fuel (.slice sA sn sc) r0 r1 r2 r3 (.slice none 0 0) true told) w)
  have hB := Lib.hid (mB2_below (mC pc fuel (.slice sA sn sc) r0 r1 r2 r3 (.slice none 0 0) true told) w)
  have ht' : (told != 0) = true := by simpa using ht
  clear ht
  go_enter Try.func42, Try.ntmps42
  go_wp2_with (first
    | (with_reducible refine ld_mach w.heap.size hb.out _ rfl rfl rfl ?_)
    | (with_reducible refine st_mach (w.heap.size + 1) hr.out rfl rfl _ _ rfl rfl rfl rfl ?_))
  exact bodyPost_ret (v := .agg (mC pc fuel (.slice sA sn sc) r0 r1 r2 r3 (.slice none 0 0) true told)) (res_mach rfl _ _ (w.heap.size + 1) rfl (Bk.setRow hr.out _)) rfl ⟨rfl, below_row hB.out (by omega) _⟩

theorem rover_well (w : World) : Calls Try.prog 45 #[.agg (mC pc fuel (.slice sA sn sc) r0 r1 r2 r3 (.slice oA on oc) ov e0), .int .i64 0] w
    fun e w' => e = .returned (.agg (mC pc fuel (.slice sA sn sc) r0 r1 r2 r3 (.slice oA on oc) true 0)) ∧ Below w.heap.size w w' := by
  have hb := Lib.hid (mB2_box (mC pc fuel (.slice sA sn sc) r0 r1 r2 r3 (.slice oA on oc) true 0) w)
  have hr := Lib.hid (mB2_res (mC pc fuel (.slice sA sn sc) r0 r1 r2 r3 (.slice oA on oc) true 0) w)
  have hB := Lib.hid (mB2_below (mC pc fuel (.slice sA sn sc) r0 r1 r2 r3 (.slice oA on oc) true 0) w)
  go_enter Try.func45, Try.ntmps45
  go_wp2_with (first
    | (with_reducible refine ld_mach w.heap.size hb.out _ rfl rfl rfl ?_)
    | (with_reducible refine st_mach (w.heap.size + 1) hr.out rfl rfl _ _ rfl rfl rfl rfl ?_))
  exact bodyPost_ret (v := .agg (mC pc fuel (.slice sA sn sc) r0 r1 r2 r3 (.slice oA on oc) true 0)) (res_mach rfl _ _ (w.heap.size + 1) rfl (Bk.setRow hr.out _)) rfl ⟨rfl, below_row hB.out (by omega) _⟩

theorem rover_bad (told : Int) (ht : told ≠ 0) (w : World) : Calls Try.prog 45 #[.agg (mC pc fuel (.slice sA sn sc) r0 r1 r2 r3 (.slice oA on oc) ov e0), .int .i64 told] w
    fun e w' => e = .returned (.agg (mC pc fuel (.slice sA sn sc) r0 r1 r2 r3 (.slice none 0 0) true told)) ∧ Below w.heap.size w w' := by
  have hb := Lib.hid (mB2_box (mC pc fuel (.slice sA sn sc) r0 r1 r2 r3 (.slice none 0 0) true told) w)
  have hr := Lib.hid (mB2_res (mC pc fuel (.slice sA sn sc) r0 r1 r2 r3 (.slice none 0 0) true told) w)
  have hB := Lib.hid (mB2_below (mC pc fuel (.slice sA sn sc) r0 r1 r2 r3 (.slice none 0 0) true told) w)
  have ht' : (told != 0) = true := by simpa using ht
  clear ht
  go_enter Try.func45, Try.ntmps45
  go_wp2_with (first
    | (with_reducible refine ld_mach w.heap.size hb.out _ rfl rfl rfl ?_)
    | (with_reducible refine st_mach (w.heap.size + 1) hr.out rfl rfl _ _ rfl rfl rfl rfl ?_))
  exact bodyPost_ret (v := .agg (mC pc fuel (.slice sA sn sc) r0 r1 r2 r3 (.slice none 0 0) true told)) (res_mach rfl _ _ (w.heap.size + 1) rfl (Bk.setRow hr.out _)) rfl ⟨rfl, below_row hB.out (by omega) _⟩

end

theorem mnew_any (ra : Option Addr) (nr rc : Nat) (wa : Option Addr) (nw wc : Nat) (aa : Option Addr) (na ac : Nat) (fuel : Int) (ca : Option Addr) (nc cc : Nat) (w : World) :
    Calls Try.prog 33 #[cmV ra nr rc wa nw wc aa na ac fuel ca nc cc] w fun e w' => e = .returned (.agg (mC 0 fuel (.slice none 0 0) 0 0 0 0 (.slice none 0 0) false 0)) ∧ Below w.heap.size w w' := by
  have hr : Hid (Bk ((w.alloc (CmObj ra nr rc wa nw wc aa na ac fuel ca nc cc)).alloc (.cells mZ 54)) (w.heap.size + 1) 54 mZ) := Lib.hid (by
    have := Bk.new (w.alloc (CmObj ra nr rc wa nw wc aa na ac fuel ca nc cc)) 54 mZ
    rwa [World.size_alloc] at this)
  have hB := Lib.hid (((Below.refl w.heap.size w).alloc (Nat.le_refl _) (CmObj ra nr rc wa nw wc aa na ac fuel ca nc cc)).alloc (by rw [World.size_alloc]; omega) (.cells mZ 54))
  go_enter Try.func33, Try.ntmps33
  go_wp2_with (with_reducible refine st_mach (w.heap.size + 1) hr.out rfl rfl _ _ rfl rfl rfl rfl ?_)
  exact bodyPost_ret (v := .agg (mC 0 fuel (.slice none 0 0) 0 0 0 0 (.slice none 0 0) false 0)) (res_mach rfl _ _ (w.heap.size + 1) rfl (Bk.setRow hr.out _)) rfl ⟨rfl, below_row hB.out (by omega) _⟩

theorem rmnew_any (ra : Option Addr) (nr rc : Nat) (wa : Option Addr) (nw wc : Nat) (aa : Option Addr) (na ac : Nat) (fuel : Int) (ca : Option Addr) (nc cc : Nat) (w : World) :
    Calls Try.prog 36 #[cmV ra nr rc wa nw wc aa na ac fuel ca nc cc] w fun e w' => e = .returned (.agg (mC 0 fuel (.slice none 0 0) 0 0 0 0 (.slice none 0 0) false 0)) ∧ Below w.heap.size w w' := by
  have hr : Hid (Bk ((w.alloc (CmObj ra nr rc wa nw wc aa na ac fuel ca nc cc)).alloc (.cells mZ 54)) (w.heap.size + 1) 54 mZ) := Lib.hid (by
    have := Bk.new (w.alloc (CmObj ra nr rc wa nw wc aa na ac fuel ca nc cc)) 54 mZ
    rwa [World.size_alloc] at this)
  have hB := Lib.hid (((Below.refl w.heap.size w).alloc (Nat.le_refl _) (CmObj ra nr rc wa nw wc aa na ac fuel ca nc cc)).alloc (by rw [World.size_alloc]; omega) (.cells mZ 54))
  go_enter Try.func36, Try.ntmps36
  go_wp2_with (with_reducible refine st_mach (w.heap.size + 1) hr.out rfl rfl _ _ rfl rfl rfl rfl ?_)
  exact bodyPost_ret (v := .agg (mC 0 fuel (.slice none 0 0) 0 0 0 0 (.slice none 0 0) false 0)) (res_mach rfl _ _ (w.heap.size + 1) rfl (Bk.setRow hr.out _)) rfl ⟨rfl, below_row hB.out (by omega) _⟩

end Go.Proofs.Ytibmfhmeoohdeaa
