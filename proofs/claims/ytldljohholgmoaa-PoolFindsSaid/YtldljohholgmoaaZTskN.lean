/-
  Tasks whose lists are new, or lie off a row; rows of tasks that are told by what they say. They name no function of the program. No conditions but those that stand there.
-/
import Derived.Test.YtldljohholgmoaaZTskM
import Derived.Test.YtldljohholgmoaaZRowX
namespace Go.Proofs.Ytldljohholgmoaa
open Go.RowKit

/-- a slice none of whose cells lie below block B. -/
def overA (B : Nat) (A : Option Addr) (n : Nat) : Prop := 0 < n → ∀ b off, A = some ⟨b, off, none⟩ → B ≤ b
theorem overA.lower {B B' n : Nat} {A : Option Addr} (h : overA B A n) (hB : B' ≤ B) : overA B' A n := fun hn b off e => Nat.le_trans hB (h hn b off e)
theorem overA.off {B G n : Nat} {A : Option Addr} (h : overA B A n) (hG : G < B) : offA G A n := fun hn b off e => by have := h hn b off e; omega
theorem overA.nil (B : Nat) (A : Option Addr) : overA B A 0 := fun h => absurd h (Nat.lt_irrefl 0)
theorem own_over {w : World} {B n c : Nat} {e : TypeId} {size : Nat} {A : Option Addr} {xs : List Value} (h : w.ownsRow B e size (.slice A n c) n xs) : overA B A n := fun _ b off he => own_ge h (by rw [he]; rfl)
theorem Sl.off_ge {w : World} {size n c G : Nat} {A : Option Addr} {xs : List Value} (h : Sl w size A n c xs) (hG : w.heap.size ≤ G) : offA G A n := fun hn b off e => by
  obtain ⟨b', off', e', hb, -⟩ := h.2.2.2 hn
  rw [e] at e'
  injection e' with e'
  injection e' with e1
  omega
/-- what lies off a block stays, whatever becomes of it. -/
theorem Sl.offKeep {w w' : World} {size n c G : Nat} {A : Option Addr} {xs : List Value} (h : Sl w size A n c xs) (ho : offA G A n) (hs : w.heap.size ≤ w'.heap.size) (hk : ∀ k, k ≠ G → k < w.heap.size → w'.heap[k]? = w.heap[k]?) : Sl w' size A n c xs := by
  refine ⟨h.1, h.2.1, h.2.2.1, fun hn => ?_⟩
  obtain ⟨b, off, e, hb, hc⟩ := h.2.2.2 hn
  refine ⟨b, off, e, by omega, fun j hj => ?_⟩
  rw [← hc j hj]
  unfold World.cell?
  simp only
  rw [hk b (ho hn b off e) hb]

structure CmL.Over (B : Nat) (x : CmL) : Prop where
  r : overA B x.ra x.nr
  w : overA B x.wa x.nw
  a : overA B x.aa x.na
  c : overA B x.ca x.nc
structure CmL.Off (G : Nat) (x : CmL) : Prop where
  r : offA G x.ra x.nr
  w : offA G x.wa x.nw
  a : offA G x.aa x.na
  c : offA G x.ca x.nc
theorem CmL.Over.lower {B B' : Nat} {x : CmL} (h : x.Over B) (hB : B' ≤ B) : x.Over B' := ⟨h.r.lower hB, h.w.lower hB, h.a.lower hB, h.c.lower hB⟩
theorem CmL.Over.off {B G : Nat} {x : CmL} (h : x.Over B) (hG : G < B) : x.Off G := ⟨h.r.off hG, h.w.off hG, h.a.off hG, h.c.off hG⟩
theorem CmL.In.off_ge {x : CmL} {w : World} (h : x.In w) {G : Nat} (hG : w.heap.size ≤ G) : x.Off G := by
  have h1 := h.reads
  have h2 := h.writes
  have h3 := h.args
  have h4 := h.code
  unfold Ints at h1 h2 h3
  unfold Inss at h4
  rw [h.lr] at h1
  rw [h.lw] at h2
  rw [h.la] at h3
  rw [h.lc] at h4
  exact ⟨h1.off_ge hG, h2.off_ge hG, h3.off_ge hG, h4.off_ge hG⟩
theorem CmL.In.keep {x : CmL} {w w' : World} {G : Nat} (h : x.In w) (ho : x.Off G) (hs : w.heap.size ≤ w'.heap.size) (hk : ∀ k, k ≠ G → k < w.heap.size → w'.heap[k]? = w.heap[k]?) : x.In w' := by
  have h1 := h.reads
  have h2 := h.writes
  have h3 := h.args
  have h4 := h.code
  unfold Ints at h1 h2 h3
  unfold Inss at h4
  rw [h.lr] at h1
  rw [h.lw] at h2
  rw [h.la] at h3
  rw [h.lc] at h4
  refine ⟨h.lr, h.lw, h.la, h.lc, ?_, ?_, ?_, ?_⟩
  · unfold Ints; rw [h.lr]; exact h1.offKeep ho.r hs hk
  · unfold Ints; rw [h.lw]; exact h2.offKeep ho.w hs hk
  · unfold Ints; rw [h.la]; exact h3.offKeep ho.a hs hk
  · unfold Inss; rw [h.lc]; exact h4.offKeep ho.c hs hk

structure TkL.Over (B : Nat) (t : TkL) : Prop where
  x : t.x.Over B
  s : overA B t.sA t.sn
  o : overA B t.oA t.on
  b : overA B t.bA t.bn
structure TkL.Off (G : Nat) (t : TkL) : Prop where
  x : t.x.Off G
  m : off3 G t.sA t.sn t.oA t.on t.bA t.bn
theorem TkL.Over.lower {B B' : Nat} {t : TkL} (h : t.Over B) (hB : B' ≤ B) : t.Over B' := ⟨h.x.lower hB, h.s.lower hB, h.o.lower hB, h.b.lower hB⟩
theorem TkL.Over.off {B G : Nat} {t : TkL} (h : t.Over B) (hG : G < B) : t.Off G := ⟨h.x.off hG, h.s.off hG, h.o.off hG, h.b.off hG⟩
theorem TkL.In.off_ge {t : TkL} {w : World} (h : t.In w) {G : Nat} (hG : w.heap.size ≤ G) : t.Off G := ⟨h.cmd.off_ge hG, h.mac.st.off_ge hG, h.mac.ou.off_ge hG, h.mac.bk.off_ge hG⟩
theorem TkL.In.keep {t : TkL} {w w' : World} {G : Nat} (h : t.In w) (ho : t.Off G) (hs : w.heap.size ≤ w'.heap.size) (hk : ∀ k, k ≠ G → k < w.heap.size → w'.heap[k]? = w.heap[k]?) : t.In w' :=
  ⟨h.cmd.keep ho.x hs hk, ⟨h.mac.st.offKeep ho.m.1 hs hk, h.mac.ou.offKeep ho.m.2.1 hs hk, h.mac.bk.offKeep ho.m.2.2 hs hk⟩, h.four, h.own, h.eight⟩
theorem TkL.In.setCells {t : TkL} {w : World} {G : Nat} (h : t.In w) (ho : t.Off G) (o : Nat) (vs : List Value) : t.In (w.setCells G o vs) :=
  h.keep ho (by rw [size_setCells]; exact Nat.le_refl _) fun k hk _ => heap_setCells vs o w k hk
theorem TkL.In.setCell {t : TkL} {w : World} {G : Nat} (h : t.In w) (ho : t.Off G) (o : Nat) (v : Value) : t.In (w.setCell ⟨G, o, none⟩ v) := h.setCells ho o [v]

/-- its lists are short. -/
structure fewT (t : TkL) : Prop where
  r : t.x.nr ≤ 1000
  w : t.x.nw ≤ 1000
  a : t.x.na ≤ 1000
  c : t.x.nc ≤ 1000
  s : t.sn ≤ 1000
  o : t.on ≤ 1000
  b : t.bn ≤ 1000
/-- how long its lists are hangs on what it says. -/
theorem TkL.In.lens {t : TkL} {w : World} (h : t.In w) : t.x.nr = t.tsk.cmd.reads.length ∧ t.x.nw = t.tsk.cmd.writes.length ∧ t.x.na = t.tsk.cmd.args.length ∧ t.x.nc = t.tsk.cmd.code.length ∧ t.sn = t.tsk.m.stack.length ∧ t.on = t.tsk.m.out.length ∧ t.bn = t.tsk.own.length := by
  have a := h.mac.st.1
  have b := h.mac.ou.1
  simp only [List.length_map] at a b
  exact ⟨h.cmd.lr.symm, h.cmd.lw.symm, h.cmd.la.symm, h.cmd.lc.symm, by show t.sn = t.m.stack.length; omega, by show t.on = t.m.out.length; omega, h.own.symm⟩
theorem fewT.of {t u : TkL} {w w' : World} (h : fewT t) (ht : t.In w) (hu : u.In w') (e : u.tsk = t.tsk) : fewT u := by
  obtain ⟨a1, a2, a3, a4, a5, a6, a7⟩ := ht.lens
  obtain ⟨b1, b2, b3, b4, b5, b6, b7⟩ := hu.lens
  rw [e] at b1 b2 b3 b4 b5 b6 b7
  exact ⟨by rw [b1, ← a1]; exact h.r, by rw [b2, ← a2]; exact h.w, by rw [b3, ← a3]; exact h.a, by rw [b4, ← a4]; exact h.c, by rw [b5, ← a5]; exact h.s, by rw [b6, ← a6]; exact h.o, by rw [b7, ← a7]; exact h.b⟩

/-- none of them has a list in the row that they lie in. -/
def TkOff (A : Option Addr) (l : List TkL) : Prop := ∀ g off, A = some ⟨g, off, none⟩ → ∀ t ∈ l, t.Off g
/-- rows that say the same. -/
def saysT (l : List TkL) (L : List Tsk) : Prop := l.map TkL.tsk = L
theorem saysT.len {l : List TkL} {L : List Tsk} (h : saysT l L) : l.length = L.length := by rw [← h, List.length_map]
theorem saysT.at {l : List TkL} {L : List Tsk} (h : saysT l L) {i : Nat} {t : TkL} (ht : l[i]? = some t) : L[i]? = some t.tsk := by rw [← h, List.getElem?_map, ht]; rfl
/-- a new row of tasks, that say so, all of whose lists are new. -/
structure TkNew (L : List Tsk) (B : Nat) (w : World) (A : Option Addr) (n c : Nat) (l : List TkL) : Prop where
  own : TkOwn B w A n c l
  says : saysT l L
  few : ∀ t ∈ l, fewT t
  over : ∀ t ∈ l, t.Over B
  off : TkOff A l
theorem TkNew.below {L : List Tsk} {B : Nat} {w w' : World} {A : Option Addr} {n c : Nat} {l : List TkL} (h : TkNew L B w A n c l) (hb : Below w.heap.size w w') : TkNew L B w' A n c l := ⟨h.own.below hb, h.says, h.few, h.over, h.off⟩
theorem TkNew.lower {L : List Tsk} {B B' : Nat} {w : World} {A : Option Addr} {n c : Nat} {l : List TkL} (h : TkNew L B w A n c l) (hb : B' ≤ B) : TkNew L B' w A n c l := ⟨h.own.lower hb, h.says, h.few, fun t ht => (h.over t ht).lower hb, h.off⟩
theorem TkNew.len {L : List Tsk} {B : Nat} {w : World} {A : Option Addr} {n c : Nat} {l : List TkL} (h : TkNew L B w A n c l) : L.length = n := by rw [← h.says.len]; exact h.own.1
theorem TkNew.sl {L : List Tsk} {B : Nat} {w : World} {A : Option Addr} {n c : Nat} {l : List TkL} (h : TkNew L B w A n c l) : Tks w A c l := h.own.sl
def TpPost (L : List Tsk) (w : World) (e : Ending) (w' : World) : Prop := ∃ A n c l, e = .returned (.slice A n c) ∧ TkNew L w.heap.size w' A n c l ∧ Below w.heap.size w w'

end Go.Proofs.Ytldljohholgmoaa
