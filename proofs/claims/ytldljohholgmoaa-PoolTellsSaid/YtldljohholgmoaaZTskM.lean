/-
  Tasks in memory: rows of them. They name no function of the program. No conditions but those that stand there.
-/
import Derived.Test.YtldljohholgmoaaZCmsM
import Derived.Test.YtldljohholgmoaaZMacI
import Derived.Test.YtldljohholgmoaaZPolP
namespace Go.Proofs.Ytldljohholgmoaa
open Go.RowKit

/-- a task as it lies in memory: its number, its command, its machine and the machine's lists, its own blocks, its worker. -/
structure TkL where
  s : Int
  x : CmL
  m : Mac
  sA : Option Addr
  sn : Nat
  sc : Nat
  oA : Option Addr
  on : Nat
  oc : Nat
  own : Blks
  bA : Option Addr
  bn : Nat
  bc : Nat
  wk : Int
def TkL.tsk (t : TkL) : Tsk := ⟨t.s, t.x.c, t.m, t.own, t.wk⟩
/-- its cells, and its value. -/
def tkC (t : TkL) : List Value := [.int .i64 t.s, .slice t.x.ra t.x.nr t.x.rc, .slice t.x.wa t.x.nw t.x.wc, .slice t.x.aa t.x.na t.x.ac, .int .i64 t.x.c.fuel, .slice t.x.ca t.x.nc t.x.cc,
  .int .i64 t.m.pc, .int .i64 t.m.fuel, .slice t.sA t.sn t.sc, .int .i64 (rg t.m.regs 0), .int .i64 (rg t.m.regs 1), .int .i64 (rg t.m.regs 2), .int .i64 (rg t.m.regs 3), .slice t.oA t.on t.oc, .bool t.m.over, .int .i64 t.m.told,
  .slice t.bA t.bn t.bc, .int .i64 t.wk]
/-- the same as an array. -/
abbrev tkA (t : TkL) : Array Value := #[.int .i64 t.s, .slice t.x.ra t.x.nr t.x.rc, .slice t.x.wa t.x.nw t.x.wc, .slice t.x.aa t.x.na t.x.ac, .int .i64 t.x.c.fuel, .slice t.x.ca t.x.nc t.x.cc,
  .int .i64 t.m.pc, .int .i64 t.m.fuel, .slice t.sA t.sn t.sc, .int .i64 (rg t.m.regs 0), .int .i64 (rg t.m.regs 1), .int .i64 (rg t.m.regs 2), .int .i64 (rg t.m.regs 3), .slice t.oA t.on t.oc, .bool t.m.over, .int .i64 t.m.told,
  .slice t.bA t.bn t.bc, .int .i64 t.wk]
theorem tkA_list (t : TkL) : (tkA t).toList = tkC t := rfl
def tksW (l : List TkL) : List Value := l.flatMap tkC
structure TkL.In (t : TkL) (w : World) : Prop where
  cmd : t.x.In w
  mac : MIn w t.m.stack t.m.out t.own t.sA t.sn t.sc t.oA t.on t.oc t.bA t.bn t.bc
  four : t.m.regs.length = 4
  own : t.own.length = t.bn
  eight : ∀ b ∈ t.own, b.length = 8
theorem TkL.In.below {t : TkL} {w w' : World} (h : t.In w) (hb : Below w.heap.size w w') : t.In w' := ⟨h.cmd.below hb, h.mac.below hb, h.four, h.own, h.eight⟩
theorem tkC_length (t : TkL) : (tkC t).length = 18 := rfl
theorem tksW_length (l : List TkL) : (tksW l).length = l.length * 18 := recs_length tkC_length l
theorem tkC_one (t : TkL) : ∀ u ∈ tkC t, u.oneCell' = true := fun u hu => by
  simp only [tkC, List.mem_cons, List.not_mem_nil, or_false] at hu
  rcases hu with rfl | rfl | rfl | rfl | rfl | rfl | rfl | rfl | rfl | rfl | rfl | rfl | rfl | rfl | rfl | rfl | rfl | rfl <;> rfl
theorem tksW_one (l : List TkL) : ∀ u ∈ tksW l, u.oneCell' = true := recs_one tkC_one l
theorem tksW_append (l m : List TkL) : tksW (l ++ m) = tksW l ++ tksW m := by simp [tksW]
theorem tksW_sing (t : TkL) : tksW [t] = tkC t := by simp [tksW]

/-- nothing. -/
abbrev tkZ : Array Value := #[.int .i64 0, .slice none 0 0, .slice none 0 0, .slice none 0 0, .int .i64 0, .slice none 0 0, .int .i64 0, .int .i64 0, .slice none 0 0, .int .i64 0, .int .i64 0, .int .i64 0, .int .i64 0, .slice none 0 0, .bool false, .int .i64 0, .slice none 0 0, .int .i64 0]
theorem infoTsk : ∃ i, Try.prog.info? 41 = some i ∧ i.zero = some (.agg tkZ) ∧ i.size = 18 ∧ i.bytes = 256 := by
  have h : (Try.prog.info? 41).map (fun i => (i.zero, i.size, i.bytes)) = some (some (.agg tkZ), 18, 256) := by kernel_rfl
  cases hi : Try.prog.info? 41 with
  | none => rw [hi] at h; cases h
  | some i =>
    rw [hi] at h
    simp only [Option.map_some, Option.some.injEq, Prod.mk.injEq] at h
    exact ⟨i, rfl, h.1, h.2.1, h.2.2⟩
theorem infoTk : (Try.prog.info? 41).map (·.size) = some 18 := by kernel_rfl

/-- a slice of tasks. -/
def Tks (w : World) (A : Option Addr) (c : Nat) (l : List TkL) : Prop := Sl w 18 A l.length c (tksW l) ∧ ∀ t ∈ l, t.In w
theorem Tks.below {w w' : World} {A : Option Addr} {c : Nat} {l : List TkL} (h : Tks w A c l) (hb : Below w.heap.size w w') : Tks w' A c l := ⟨Sl.below h.1 hb, fun t ht => (h.2 t ht).below hb⟩
theorem Tks.nil (w : World) : Tks w none 0 [] := ⟨⟨rfl, Nat.le_refl _, fun _ => ⟨rfl, rfl⟩, fun h => absurd h (by simp)⟩, by simp⟩
theorem Tks.cap {w : World} {A : Option Addr} {c : Nat} {l : List TkL} (h : Tks w A c l) : l.length ≤ c := h.1.2.1
theorem tk_at {l : List TkL} {i : Nat} (h : i < l.length) : ∃ t, l[i]? = some t := ⟨l[i], List.getElem?_eq_getElem h⟩
theorem tk_lt {l : List TkL} {i : Nat} {t : TkL} (h : l[i]? = some t) : i < l.length := by
  rcases Nat.lt_or_ge i l.length with q | q
  · exact q
  · rw [List.getElem?_eq_none q] at h; cases h

/-- a task's cells, one by one. -/
structure TkCells (X : World) (b o : Nat) (t : TkL) : Prop where
  s : X.cell? ⟨b, o, none⟩ = some (.int .i64 t.s)
  ra : X.cell? ⟨b, o + 1, none⟩ = some (.slice t.x.ra t.x.nr t.x.rc)
  wa : X.cell? ⟨b, o + 1 + 1, none⟩ = some (.slice t.x.wa t.x.nw t.x.wc)
  aa : X.cell? ⟨b, o + 1 + 2, none⟩ = some (.slice t.x.aa t.x.na t.x.ac)
  fu : X.cell? ⟨b, o + 1 + 3, none⟩ = some (.int .i64 t.x.c.fuel)
  ca : X.cell? ⟨b, o + 1 + 4, none⟩ = some (.slice t.x.ca t.x.nc t.x.cc)
  fuel : X.cell? ⟨b, o + 6 + 1, none⟩ = some (.int .i64 t.m.fuel)
  own : X.cell? ⟨b, o + 16, none⟩ = some (.slice t.bA t.bn t.bc)
  wk : X.cell? ⟨b, o + 17, none⟩ = some (.int .i64 t.wk)
  all : X.rangeAt b o (tkC t)
  mac : X.rangeAt b (o + 6) (mC t.m.pc t.m.fuel (.slice t.sA t.sn t.sc) (rg t.m.regs 0) (rg t.m.regs 1) (rg t.m.regs 2) (rg t.m.regs 3) (.slice t.oA t.on t.oc) t.m.over t.m.told).toList
  lt : b < X.heap.size
/-- where one lies, whatever has been made since. -/
def TkAt (w : World) (b o : Nat) (t : TkL) : Prop := ∀ X, Below w.heap.size w X → TkCells X b o t

theorem Tks.at {w : World} {A : Option Addr} {c : Nat} {l : List TkL} (h : Tks w A c l) {i : Nat} {t : TkL} (ht : l[i]? = some t) : ∃ b off, A = some ⟨b, off, none⟩ ∧ TkCells w b (off + i * 18) t ∧ t.In w := by
  obtain ⟨b, off, rfl, hb, hc⟩ := Sl.recs h.1 tkC_length (by decide) ht
  refine ⟨b, off, rfl, ⟨hc 0 (by decide), hc 1 (by decide), hc 2 (by decide), hc 3 (by decide), hc 4 (by decide), hc 5 (by decide), hc 7 (by decide), hc 16 (by decide), hc 17 (by decide), fun j v hv => ?_, fun j v hv => ?_, hb⟩, h.2 t (List.mem_of_getElem? ht)⟩
  · have hj : j < 18 := by
      rcases Nat.lt_or_ge j 18 with q | q
      · exact q
      · rw [List.getElem?_eq_none (by rw [tkC_length]; omega)] at hv; cases hv
    rw [hc j hj]
    exact hv
  · have hj : j < 10 := by
      rcases Nat.lt_or_ge j 10 with q | q
      · exact q
      · rw [List.getElem?_eq_none (by exact q)] at hv; cases hv
    rw [Nat.add_assoc, hc (6 + j) (by omega), ← hv]
    rcases (show j = 0 ∨ j = 1 ∨ j = 2 ∨ j = 3 ∨ j = 4 ∨ j = 5 ∨ j = 6 ∨ j = 7 ∨ j = 8 ∨ j = 9 by omega) with e | e | e | e | e | e | e | e | e | e <;> subst e <;> rfl
theorem Tks.lies {w : World} {A : Option Addr} {c : Nat} {l : List TkL} (h : Tks w A c l) {i : Nat} {t : TkL} (ht : l[i]? = some t) : ∃ b off, A = some ⟨b, off, none⟩ ∧ TkAt w b (off + i * 18) t := by
  obtain ⟨b, off, rfl, -, -⟩ := h.at ht
  refine ⟨b, off, rfl, fun X hX => ?_⟩
  obtain ⟨b', off', e, hc, -⟩ := (h.below hX).at ht
  injection e with e
  injection e with e1 e2
  subst e1
  subst e2
  exact hc

/-- a row of one's own of tasks. -/
def TkOwn (B : Nat) (w : World) (A : Option Addr) (n c : Nat) (l : List TkL) : Prop := l.length = n ∧ w.ownsRow B 41 18 (.slice A n c) n (tksW l) ∧ ∀ t ∈ l, t.In w
theorem TkOwn.sl {B : Nat} {w : World} {A : Option Addr} {n c : Nat} {l : List TkL} (h : TkOwn B w A n c l) : Tks w A c l := by
  obtain ⟨rfl, h, hi⟩ := h
  exact ⟨Sl.own' h, hi⟩
theorem TkOwn.below {B : Nat} {w w' : World} {A : Option Addr} {n c : Nat} {l : List TkL} (h : TkOwn B w A n c l) (hb : Below w.heap.size w w') : TkOwn B w' A n c l := ⟨h.1, own_below h.2.1 hb, fun t ht => (h.2.2 t ht).below hb⟩
theorem TkOwn.lower {B B' : Nat} {w : World} {A : Option Addr} {n c : Nat} {l : List TkL} (h : TkOwn B w A n c l) (hb : B' ≤ B) : TkOwn B' w A n c l := ⟨h.1, own_lower h.2.1 hb, h.2.2⟩
theorem TkOwn.nil (B : Nat) (w : World) : TkOwn B w none 0 0 [] := ⟨rfl, ⟨rfl, .inl ⟨rfl, rfl⟩⟩, by simp⟩
theorem TkOwn.cap {B : Nat} {w : World} {A : Option Addr} {n c : Nat} {l : List TkL} (h : TkOwn B w A n c l) : n ≤ c := by
  have := h.sl.cap
  rw [h.1] at this
  exact this

theorem TkOwn.pos {B : Nat} {w : World} {A : Option Addr} {n c : Nat} {l : List TkL} (h : TkOwn B w A n c l) (hn : 0 < n) : ∃ g cs, A = some ⟨g, 0, none⟩ ∧ B ≤ g ∧ Bk w g 41 cs ∧ n * 18 ≤ cs.size := by
  have hcap := h.cap
  rcases h.2.1.2 with ⟨h0, hn0⟩ | ⟨g, cap, cur, hv, hb, hg, hnc, hcm, hcs, ht⟩
  · omega
  · injection hv with h1 h2 h3
    refine ⟨g, cur, h1, hb, hg, ?_⟩
    rw [hcs]
    exact Nat.mul_le_mul_right 18 hnc
/-- one set. -/
theorem TkOwn.set {B : Nat} {w : World} {g n c : Nat} {l : List TkL} (h : TkOwn B w (some ⟨g, 0, none⟩) n c l) {i : Nat} (hi : i < n) {t : TkL} (ht : ∀ u ∈ l.set i t, u.In (w.setCells g (i * 18) (tkC t))) : TkOwn B (w.setCells g (i * 18) (tkC t)) (some ⟨g, 0, none⟩) n c (l.set i t) := by
  refine ⟨by rw [List.length_set]; exact h.1, ?_, ht⟩
  have := own_setCells (tkC t) (i * 18) h.2.1
  rwa [show setL (tksW l) (i * 18) (tkC t) = tksW (l.set i t) from recs_set tkC_length l (by rw [h.1]; exact hi) t] at this

/-- a slice of another type's block stays. -/
theorem Sl.set18 {w : World} {size n c : Nat} {A : Option Addr} {xs : List Value} (h : Sl w size A n c xs) {g o : Nat} {vs : List Value} (hg : ∀ b off, A = some ⟨b, off, none⟩ → 0 < n → b ≠ g) : Sl (w.setCells g o vs) size A n c xs := by
  refine ⟨h.1, h.2.1, h.2.2.1, fun hn => ?_⟩
  obtain ⟨b, off, rfl, hb, hc⟩ := h.2.2.2 hn
  refine ⟨b, off, rfl, by rw [size_setCells]; exact hb, fun j hj => ?_⟩
  have hne := hg b off rfl hn
  rw [← hc j hj]
  unfold World.cell? 
  simp only
  rw [heap_setCells vs o w b hne]

/-- an answer: a row of one's own of tasks. -/
def TkPost (l : List TkL) (w : World) (e : Ending) (w' : World) : Prop := ∃ A n c, e = .returned (.slice A n c) ∧ TkOwn w.heap.size w' A n c l ∧ Below w.heap.size w w'

end Go.Proofs.Ytldljohholgmoaa
