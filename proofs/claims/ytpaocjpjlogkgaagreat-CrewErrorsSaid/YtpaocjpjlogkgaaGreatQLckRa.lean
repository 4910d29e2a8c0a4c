/-
  Words and contracts of this claim, 3 texts laid into one, each under its own remark. No conditions but those that stand at each.
-/
import Derived.Test.YtpaocjpjlogkgaaGreatQWords
import Derived.Test.YtpaocjpjlogkgaaGreatQQueP
import Derived.Test.YtpaocjpjlogkgaaGreatQRely
import Derived.BigQuiet
import Derived.OwnWalk

/-
  What foremanref15.New, with and Ask answer, in whatever memory, of commands whose blocks are there. No conditions but those that stand there.
-/
namespace Go.Proofs.YtpaocjpjlogkgaaGreat
open Go.RowKit
set_option maxRecDepth 100000
attribute [local go_sem] look findAt
attribute [local simp] depsOf isV Region.binds

theorem rnew15_any (n : Nat) (h1 : 1 ≤ n) (hn : n ≤ 1000) (w : World) :
    Calls Tryz.prog 22 #[.int .i64 (n : Int)] w (LkPost (List.replicate n []) n w) := by
  have hmk := makeLk w n hn
  have HO := Lib.hid (LkOwn.made w n hn)
  have HB := Lib.hid (below_alloc1 w (.cells (madeCells #[.slice none 0 0] n) 98))
  have d1 : (0 : Int) < (n : Int) := by omega
  go_enter Tryz.func22, Tryz.ntmps22
  go_wp2
  go_ret
  exact ⟨_, _, rfl, HO.out, HB.out⟩

section
variable (c : Cmd) (ra : Option Addr) (nr rc : Nat) (wa : Option Addr) (nw wc : Nat) (aa : Option Addr) (na ac : Nat) (fuel : Int) (ca : Option Addr) (nc cc : Nat) (L : Lks) (A : Option Addr) (n k : Nat) (s : Int)

end

end Go.Proofs.YtpaocjpjlogkgaaGreat

/-
  foremanref15's New, Ask and Ready, as those who wait say it. No conditions but those that stand there.
-/
namespace Go.Proofs.YtpaocjpjlogkgaaGreat
open Go.RowKit

theorem line_length (u : Who) (b : Nat) : (lineOf u b).length ≤ u.length := by
  unfold lineOf
  induction u with
  | nil => simp
  | cons x u ih =>
    rw [List.flatMap_cons, List.length_append, List.length_cons]
    have : (wantOf x b).length ≤ 1 := by unfold wantOf; split <;> simp
    omega

theorem lksW_len (u : Who) (n b : Nat) : (lkAt (lksW u n) b).length ≤ u.length := by
  by_cases h : b < n
  · rw [lksW_at u h, grK_length]
    exact line_length u b
  · unfold lkAt
    rw [List.getElem?_eq_none (by rw [lksW_length]; omega)]
    simp

/-- a command's blocks, by what may be. -/
theorem CmL.lk {x : CmL} {w : World} {n : Nat} (h : x.In w) (hm : MayBe x.c) (hf : fitsT x.c n) : CmLk w x.c x.ra x.nr x.rc x.wa x.nw x.wc n := by
  have h1 := hm.few.1
  have h2 : x.c.reads.length = x.nr := h.lr
  have h3 : x.c.writes.length = x.nw := h.lw
  refine ⟨h.lr, h.lw, h.reads, h.writes, by omega, by omega, fun y hy => ⟨risesT_ge hm.sets.1 y hy, hf.1 y hy⟩, fun y hy => ⟨risesT_ge hm.sets.2.1 y hy, hf.2 y hy⟩⟩

section
variable (c : Cmd) (ra : Option Addr) (nr rc : Nat) (wa : Option Addr) (nw wc : Nat) (aa : Option Addr) (na ac : Nat) (fuel : Int) (ca : Option Addr) (nc cc : Nat) (u : Who) (A : Option Addr) (n k : Nat) (s : Int) (W : World)

theorem rnew_who (h1 : 1 ≤ n) (hn : n ≤ 1000) : Calls Tryz.prog 22 #[.int .i64 (n : Int)] W (LkPost (lksW [] n) n W) := by
  rw [lks_nil]
  exact rnew15_any n h1 hn W

end

end Go.Proofs.YtpaocjpjlogkgaaGreat

/-
  What foremanref15.Ask answers, in whatever memory, of lists in rows of their own, and that they stay where a row of another type turns. No conditions but those that stand there.
-/
namespace Go.Proofs.YtpaocjpjlogkgaaGreat
open Go.RowKit
set_option maxRecDepth 100000
attribute [local go_sem] look findAt
attribute [local simp] depsOf isV Region.binds

/-- they stay where a row of another type turns. -/
theorem LkOwn.turns {B g : Nat} {w w' : World} {A : Option Addr} {n c : Nat} {L : List (List Wnt)} (h : LkOwn B w A n c L) (hg : w.grownBy w' (some g)) {t : TypeId} {cs : Array Value} (hk : Bk w g t cs) (h1 : t ≠ 136) (h2 : t ≠ 98) : LkOwn B w' A n c L :=
  h.grown hg (fun b cur hb e => by injection e with e; exact hk.ne hb h1 e) (fun b cur hb e => by injection e with e; exact hk.ne hb h2 e)

section
variable (c : Cmd) (ra : Option Addr) (nr rc : Nat) (wa : Option Addr) (nw wc : Nat) (aa : Option Addr) (na ac : Nat) (fuel : Int) (ca : Option Addr) (nc cc : Nat) (L : Lks) (A : Option Addr) (n k : Nat) (s : Int)

end

end Go.Proofs.YtpaocjpjlogkgaaGreat
