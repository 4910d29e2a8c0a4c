/-
  Commands in memory: rows of them. They name no function of the program. No conditions but those that stand there.
-/
import Derived.Test.YtldljohholgmoaaZCmdM
import Derived.Test.YtldljohholgmoaaZRecW
import Derived.Test.YtldljohholgmoaaZBlw
namespace Go.Proofs.Ytldljohholgmoaa
open Go.RowKit

/-- a command as it lies in memory. -/
structure CmL where
  c : Cmd
  ra : Option Addr
  nr : Nat
  rc : Nat
  wa : Option Addr
  nw : Nat
  wc : Nat
  aa : Option Addr
  na : Nat
  ac : Nat
  ca : Option Addr
  nc : Nat
  cc : Nat
instance : Inhabited CmL := ⟨⟨⟨[], [], [], 0, []⟩, none, 0, 0, none, 0, 0, none, 0, 0, none, 0, 0⟩⟩
/-- its cells, and its value. -/
def cmlC (x : CmL) : List Value := [.slice x.ra x.nr x.rc, .slice x.wa x.nw x.wc, .slice x.aa x.na x.ac, .int .i64 x.c.fuel, .slice x.ca x.nc x.cc]
def cmlsW (l : List CmL) : List Value := l.flatMap cmlC
def CmL.In (x : CmL) (w : World) : Prop := CmRaw w x.c x.ra x.nr x.rc x.wa x.nw x.wc x.aa x.na x.ac x.ca x.nc x.cc
theorem CmL.In.below {x : CmL} {w w' : World} (h : x.In w) (hb : Below w.heap.size w w') : x.In w' :=
  ⟨h.lr, h.lw, h.la, h.lc, h.reads.below hb, h.writes.below hb, h.args.below hb, h.code.below hb⟩
theorem cmlC_length (x : CmL) : (cmlC x).length = 5 := rfl
theorem cmlsW_length (l : List CmL) : (cmlsW l).length = l.length * 5 := recs_length cmlC_length l
theorem cmlsW_one (l : List CmL) : ∀ u ∈ cmlsW l, u.oneCell' = true := recs_one (fun x u hu => by
  simp only [cmlC, List.mem_cons, List.not_mem_nil, or_false] at hu
  rcases hu with rfl | rfl | rfl | rfl | rfl <;> rfl) l
theorem cmlsW_append (l m : List CmL) : cmlsW (l ++ m) = cmlsW l ++ cmlsW m := by simp [cmlsW]
theorem cmlsW_sing (x : CmL) : cmlsW [x] = cmlC x := by simp [cmlsW]

/-- a slice of commands. -/
def Cmds (w : World) (A : Option Addr) (c : Nat) (l : List CmL) : Prop := Sl w 5 A l.length c (cmlsW l) ∧ ∀ x ∈ l, x.In w
theorem Cmds.below {w w' : World} {A : Option Addr} {c : Nat} {l : List CmL} (h : Cmds w A c l) (hb : Below w.heap.size w w') : Cmds w' A c l := ⟨Sl.below h.1 hb, fun x hx => (h.2 x hx).below hb⟩
theorem Cmds.nil (w : World) : Cmds w none 0 [] := ⟨⟨rfl, Nat.le_refl _, fun _ => ⟨rfl, rfl⟩, fun h => absurd h (by simp)⟩, by simp⟩
theorem Cmds.cap {w : World} {A : Option Addr} {c : Nat} {l : List CmL} (h : Cmds w A c l) : l.length ≤ c := h.1.2.1
theorem cml_at {l : List CmL} {i : Nat} (h : i < l.length) : ∃ x, l[i]? = some x := ⟨l[i], List.getElem?_eq_getElem h⟩
theorem Cmds.at {w : World} {A : Option Addr} {c : Nat} {l : List CmL} (h : Cmds w A c l) {i : Nat} {x : CmL} (hx : l[i]? = some x) :
    ∃ b off, A = some ⟨b, off, none⟩ ∧ b < w.heap.size ∧ w.cell? ⟨b, off + i * 5, none⟩ = some (.slice x.ra x.nr x.rc) ∧ w.cell? ⟨b, off + i * 5 + 1, none⟩ = some (.slice x.wa x.nw x.wc) ∧ w.cell? ⟨b, off + i * 5 + 2, none⟩ = some (.slice x.aa x.na x.ac) ∧ w.cell? ⟨b, off + i * 5 + 3, none⟩ = some (.int .i64 x.c.fuel) ∧ w.cell? ⟨b, off + i * 5 + 4, none⟩ = some (.slice x.ca x.nc x.cc) ∧ x.In w := by
  obtain ⟨b, off, rfl, hb, hc⟩ := Sl.recs h.1 cmlC_length (by decide) hx
  exact ⟨b, off, rfl, hb, hc 0 (by decide), hc 1 (by decide), hc 2 (by decide), hc 3 (by decide), hc 4 (by decide), h.2 x (List.mem_of_getElem? hx)⟩

/-- where one lies, whatever has been made since. -/
def CmAt (w : World) (b o : Nat) (x : CmL) : Prop := ∀ X, Below w.heap.size w X → X.cell? ⟨b, o, none⟩ = some (.slice x.ra x.nr x.rc) ∧ X.cell? ⟨b, o + 1, none⟩ = some (.slice x.wa x.nw x.wc) ∧ X.cell? ⟨b, o + 2, none⟩ = some (.slice x.aa x.na x.ac) ∧ X.cell? ⟨b, o + 3, none⟩ = some (.int .i64 x.c.fuel) ∧ X.cell? ⟨b, o + 4, none⟩ = some (.slice x.ca x.nc x.cc) ∧ b < X.heap.size
theorem Cmds.lies {w : World} {A : Option Addr} {c : Nat} {l : List CmL} (h : Cmds w A c l) {i : Nat} {x : CmL} (hx : l[i]? = some x) : ∃ b off, A = some ⟨b, off, none⟩ ∧ CmAt w b (off + i * 5) x := by
  obtain ⟨b, off, rfl, hb, -⟩ := h.at hx
  refine ⟨b, off, rfl, fun X hX => ?_⟩
  obtain ⟨b', off', e, hb', h0, h1, h2, h3, h4, -⟩ := (h.below hX).at hx
  injection e with e
  injection e with e1 e2
  subst e1
  subst e2
  exact ⟨h0, h1, h2, h3, h4, hb'⟩

/-- a row of one's own of commands. -/
def CmOwn (B : Nat) (w : World) (A : Option Addr) (n c : Nat) (l : List CmL) : Prop := l.length = n ∧ w.ownsRow B 33 5 (.slice A n c) n (cmlsW l) ∧ ∀ x ∈ l, x.In w
theorem CmOwn.sl {B : Nat} {w : World} {A : Option Addr} {n c : Nat} {l : List CmL} (h : CmOwn B w A n c l) : Cmds w A c l := by
  obtain ⟨rfl, h, hi⟩ := h
  exact ⟨Sl.own' h, hi⟩
theorem CmOwn.below {B : Nat} {w w' : World} {A : Option Addr} {n c : Nat} {l : List CmL} (h : CmOwn B w A n c l) (hb : Below w.heap.size w w') : CmOwn B w' A n c l := ⟨h.1, own_below h.2.1 hb, fun x hx => (h.2.2 x hx).below hb⟩
theorem CmOwn.nil (B : Nat) (w : World) : CmOwn B w none 0 0 [] := ⟨rfl, ⟨rfl, .inl ⟨rfl, rfl⟩⟩, by simp⟩
theorem CmOwn.cap {B : Nat} {w : World} {A : Option Addr} {n c : Nat} {l : List CmL} (h : CmOwn B w A n c l) : n ≤ c := by
  have := h.sl.cap
  rw [h.1] at this
  exact this

end Go.Proofs.Ytldljohholgmoaa
