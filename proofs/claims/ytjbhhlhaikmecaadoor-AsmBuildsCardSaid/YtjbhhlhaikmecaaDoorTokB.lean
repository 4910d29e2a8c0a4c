/-
  The reader of a text in memory; what its addDigit, addNumber and addWord leave, in whatever memory. No conditions but those that stand there.
-/
import Derived.Test.YtjbhhlhaikmecaaDoorBt
import Derived.Test.YtjbhhlhaikmecaaDoorOwnB
import Derived.Test.YtjbhhlhaikmecaaDoorTokA
import Derived.Deep.QuietTactic
import Derived.BigQuiet
import Derived.Deep.DeepMust
import Derived.Deep.RegionLaw
import Derived.IntWalk
namespace Go.Proofs.YtjbhhlhaikmecaaDoor
open Go.RowKit

def tokV (t : Tok) : List Value := [.int .i64 (t.kind : Nat), .string (strL t.word), .int .i64 t.n]
def toksV (l : List Tok) : List Value := l.flatMap tokV
theorem toksV_snoc (l : List Tok) (t : Tok) : toksV (l ++ [t]) = toksV l ++ tokV t := by simp [toksV]

theorem infoTok0 : (Tryd.prog.info? 48).map (fun i => (i.zero, i.size, i.bytes)) = some (some (.agg #[.int .i64 0, .string ByteArray.empty, .int .i64 0]), 3, 32) := by kernel_rfl
theorem infoTok : ∃ i, Tryd.prog.info? 48 = some i ∧ i.zero = some (.agg #[.int .i64 0, .string ByteArray.empty, .int .i64 0]) ∧ i.size = 3 ∧ i.bytes = 32 := by
  have h := infoTok0
  cases hi : Tryd.prog.info? 48 with
  | none => rw [hi] at h; cases h
  | some i =>
    rw [hi] at h
    simp only [Option.map_some, Option.some.injEq, Prod.mk.injEq] at h
    exact ⟨i, rfl, h.1, h.2.1, h.2.2⟩

theorem Bk.five {w : World} {g : Nat} {t : TypeId} {a b c d e : Value} (h : Bk w g t #[a, b, c, d, e]) :
    w.cell? ⟨g, 0, none⟩ = some a ∧ w.cell? ⟨g, 1, none⟩ = some b ∧ w.cell? ⟨g, 2, none⟩ = some c ∧ w.cell? ⟨g, 3, none⟩ = some d ∧ w.cell? ⟨g, 4, none⟩ = some e ∧ ∀ o, w.frozen? ⟨g, o, none⟩ = false :=
  ⟨h.cell 0, h.cell 1, h.cell 2, h.cell 3, h.cell 4, fun o => h.frozen o⟩

/-- the reader lies in block g; its rows from B on. -/
structure Rdr (w : World) (B g : Nat) (vt vw : Value) (p sg sz : Int) (out : List Tok) (word : List Nat) : Prop where
  bk : Bk w g 70 #[vt, .int .i64 p, vw, .int .i64 sg, .int .i64 sz]
  toks : w.ownsRow B 48 3 vt out.length (toksV out)
  word : w.ownsRow B 5 1 vw word.length (u8s word)
  lt : g < B
  le : B ≤ w.heap.size

set_option maxHeartbeats 1000000 in
theorem addDigit_any (B g : Nat) (vt vw : Value) (p sg : Int) (sz c : Nat) (out : List Tok) (word : List Nat) (w : World) (hk : Rdr w B g vt vw p sg sz out word) (hsz : sz ≤ 1099511627776) (hc : isDigit c) :
    Calls Tryd.prog 51 #[.pointer (some ⟨g, 0, none⟩), .int .i32 (c : Nat)] w
      fun e w' => e = .returned (.bool (decide (10 * sz + (c - 48) ≤ 1099511627776))) ∧ Rdr w' B g vt vw 4 sg (10 * sz + (c - 48) : Nat) out word ∧ Bt B g w w' := by
  obtain ⟨c0, c1, c2, c3, c4, hf⟩ := hk.bk.five
  have hk' := Lib.hid hk
  clear hk
  obtain ⟨d, hd, rfl⟩ : ∃ d, d < 10 ∧ c = 48 + d := ⟨c - 48, by unfold isDigit at hc; omega, by unfold isDigit at hc; omega⟩
  rw [Nat.add_sub_cancel_left]
  clear hc
  have e1 : IntKind.i32.wrap ((48 + d : Nat) - 48 : Int) = d := by simp only [IntKind.wrap, IntKind.bits, IntKind.signed]; simp; omega
  have e2 : IntKind.i64.wrap (10 * (sz : Int) + d) = ((10 * sz + d : Nat) : Int) := by simp only [IntKind.wrap, IntKind.bits, IntKind.signed]; simp; omega
  go_enter Tryd.func51, Tryd.ntmps51
  go_wp2
  go_ret
  have hk := hk'.out
  rw [show (10 * (sz : Int) + (48 + (d : Int) - 48)) = ((10 * sz + d : Nat) : Int) by omega]
  refine ⟨?_, ⟨?_, own_setCell (own_setCell hk.toks hk.lt _ _) hk.lt _ _, own_setCell (own_setCell hk.word hk.lt _ _) hk.lt _ _, hk.lt, by simpa using hk.le⟩, ((Bt.refl _ _ _).set _ _).set _ _⟩
  · show Ending.returned (.bool (decide ((((10 * sz + d : Nat) : Int)) ≤ 1099511627776))) = _
    congr 2
    exact decide_eq_decide.2 (by omega)
  · have := (hk.bk.set 1 (.int .i64 4)).set 4 (.int .i64 ((10 * sz + d : Nat) : Int))
    simpa using this

set_option maxHeartbeats 4000000 in
theorem addNumber_any (B g : Nat) (vt vw : Value) (p : Int) (neg : Bool) (sz : Nat) (out : List Tok) (word : List Nat) (w : World) (hk : Rdr w B g vt vw p (if neg = true then -1 else 1) sz out word) (hsz : sz ≤ 1099511627776) (hn : out.length ≤ 1048576) :
    Calls Tryd.prog 53 #[.pointer (some ⟨g, 0, none⟩)] w
      fun e w' => e = .returned (.tuple #[]) ∧ (∃ vt', Rdr w' B g vt' vw 0 (if neg = true then -1 else 1) 0 (out ++ [⟨2, [], signed neg sz⟩]) word) ∧ Bt B g w w' := by
  obtain ⟨i0, hi0, hz0, hz1, hz2⟩ := infoTok
  obtain ⟨c0, c1, c2, c3, c4, hf⟩ := hk.bk.five
  have hlt := hk.bk.lt
  have hk' := Lib.hid hk
  clear hk
  have e1 : IntKind.i64.wrap ((if neg = true then -1 else 1 : Int) * sz) = signed neg sz := by
    unfold signed
    cases neg <;> (simp only [IntKind.wrap, IntKind.bits, IntKind.signed]; simp; try omega)
  generalize (if neg = true then -1 else 1 : Int) = sg at *
  have hown1 : Hid ((w.drew.alloc (.cells #[.int .i64 2, .string ByteArray.empty, .int .i64 (signed neg sz)] 48)).ownsRow B 48 3 vt out.length (toksV out)) := Lib.hid (hk'.out.toks.drew.alloc _)
  have hbk1 : Hid (Bk (w.drew.alloc (.cells #[.int .i64 2, .string ByteArray.empty, .int .i64 (signed neg sz)] 48)) g 70 #[vt, .int .i64 p, vw, .int .i64 sg, .int .i64 sz]) := Lib.hid ((hk'.out.bk.below (below_drew1 w)).alloc _)
  have hwd1 : Hid ((w.drew.alloc (.cells #[.int .i64 2, .string ByteArray.empty, .int .i64 (signed neg sz)] 48)).ownsRow B 5 1 vw word.length (u8s word)) := Lib.hid (hk'.out.word.drew.alloc _)
  have hnew : Hid (Bk (w.drew.alloc (.cells #[.int .i64 2, .string ByteArray.empty, .int .i64 (signed neg sz)] 48)) w.heap.size 48 #[.int .i64 2, .string ByteArray.empty, .int .i64 (signed neg sz)]) := Lib.hid (Bk.new w.drew _ _)
  have q1 : Hid (out.length + 1 ≤ maxLen) := Lib.hid (by unfold maxLen; omega)
  have q2 : Hid ((out.length + 1) * 32 ≤ 140737488355328) := Lib.hid (by omega)
  have q3 : Hid (B ≤ (w.drew.alloc (.cells #[.int .i64 2, .string ByteArray.empty, .int .i64 (signed neg sz)] 48)).heap.size) := Lib.hid (by rw [World.size_alloc]; exact Nat.le_succ_of_le hk'.out.le)
  go_enter Tryd.func53, Tryd.ntmps53
  go_wp2
  go_region_law (first | (refine step_row (by rfl) _ _ _ (by rfl) B 48 i0 _ 3 32 Tryd.underlying36 hi0 hz0 hz1 hz2 rfl (by decide) vt out.length _ (by rfl) hown1.out w.heap.size #[.int .i64 2, .string ByteArray.empty, .int .i64 (signed neg sz)] (by rfl) hnew.out rfl rfl q1.out q2.out q3.out ?_; intro gg cap w1 hown2 hgr; have hk2 := hbk1.out.grown hgr (Ne.symm (own_ne hown1.out hk'.out.lt)); have s0 := hk2.cell 0; have s1 := hk2.cell 1; have s4 := hk2.cell 4; have hf1 := fun o => hk2.frozen o; simp only [List.getElem?_toArray, List.getElem?_cons_zero, List.getElem?_cons_succ] at s0 s1 s4))
  all_goals
    go_wp2
    go_end0
    have hk := hk'.out
    have hw2 := own_grown hwd1.out hgr (fun k hk2 => own_apart hwd1.out hown1.out (by decide) k hk2)
    refine ⟨rfl, ⟨.slice (some ⟨gg, 0, none⟩) (out.length + 1) cap, ?_, ?_, own_setCell (own_setCell (own_setCell hw2 hk.lt _ _) hk.lt _ _) hk.lt _ _, hk.lt, ?_⟩, ?_⟩
    · have := ((hk2.set 0 (.slice (some ⟨gg, 0, none⟩) (out.length + 1) cap)).set 1 (.int .i64 0)).set 4 (.int .i64 0)
      simpa using this
    · rw [toksV_snoc, List.length_append]
      exact own_setCell (own_setCell (own_setCell hown2 hk.lt _ _) hk.lt _ _) hk.lt _ _
    · exact Nat.le_trans q3.out (by simpa using hgr.size)
    · exact ((((((Bt.refl B g w).drew.alloc hk.le _).grown q3.out hgr (fun k hk2 => own_ge hown1.out hk2)).set _ _).set _ _).set _ _)
end Go.Proofs.YtjbhhlhaikmecaaDoor
