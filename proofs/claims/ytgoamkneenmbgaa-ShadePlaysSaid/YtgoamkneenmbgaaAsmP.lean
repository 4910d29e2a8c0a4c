/-
  Instructions out of tokens, and as a text, on plain numbers: one token at a time. No conditions but those that stand there.
-/
import Derived.Test.YtgoamkneenmbgaaTokQ
namespace Go.Proofs.Ytgoamkneenmbgaa

structure Ins where
  op : Int
  a : Int
  b : Int

def insAt (l : List Ins) (i : Nat) : Ins := l[i]?.getD ⟨0, 0, 0⟩

def namesN : List (List Nat) := [[], [112, 117, 115, 104], [108, 111, 97, 100], [107, 101, 101, 112], [103, 101, 116], [112, 117, 116], [97, 114, 103], [97, 100, 100], [115, 117, 98], [109, 117, 108], [100, 105, 118], [108, 101, 115, 115], [115, 97, 109, 101], [115, 107, 105, 112], [103, 111], [101, 109, 105, 116], [115, 116, 111, 112], [101, 110, 100]]

def takesN (op : Int) : Nat := if op = 4 ∨ op = 5 then 2 else if op = 1 ∨ op = 2 ∨ op = 3 ∨ op = 6 ∨ op = 13 ∨ op = 14 then 1 else 0
def jumpsN (op : Int) : Prop := op = 13 ∨ op = 14
instance (op : Int) : Decidable (jumpsN op) := inferInstanceAs (Decidable (_ ∨ _))
def wordN (op : Int) : List Nat := if 1 ≤ op ∧ op ≤ 17 then namesN.getD op.toNat [] else []
/-- the kind of a word: 0, if there is none. -/
def ofN (w : List Nat) : Int := match (namesN.drop 1).findIdx? (fun x => decide (x = w)) with
  | some i => (i : Int) + 1
  | none => 0

theorem of_word_nat : ∀ i, i < 17 → ofN (namesN.getD (i + 1) []) = (i : Int) + 1 := by decide
theorem word_letters_nat : ∀ i, i < 17 → namesN.getD (i + 1) [] ≠ [] ∧ ∀ c ∈ namesN.getD (i + 1) [], isLetter c := by decide

theorem op_nat {op : Int} (h : 1 ≤ op ∧ op ≤ 17) : ∃ i : Nat, i < 17 ∧ op = (i : Int) + 1 ∧ wordN op = namesN.getD (i + 1) [] := by
  refine ⟨op.toNat - 1, by omega, by omega, ?_⟩
  rw [wordN, if_pos h, show op.toNat - 1 + 1 = op.toNat by omega]

theorem of_word {op : Int} (h : 1 ≤ op ∧ op ≤ 17) : ofN (wordN op) = op := by
  obtain ⟨i, hi, rfl, hw⟩ := op_nat h
  rw [hw, of_word_nat i hi]

theorem word_letters {op : Int} (h : 1 ≤ op ∧ op ≤ 17) : wordN op ≠ [] ∧ ∀ c ∈ wordN op, isLetter c := by
  obtain ⟨i, hi, _, hw⟩ := op_nat h
  rw [hw]
  exact word_letters_nat i hi

theorem of_some {w : List Nat} (h : ofN w ≠ 0) : 1 ≤ ofN w ∧ ofN w ≤ 17 ∧ wordN (ofN w) = w := by
  unfold ofN at h ⊢
  cases hf : (namesN.drop 1).findIdx? (fun x => decide (x = w)) with
  | none => rw [hf] at h; exact absurd rfl h
  | some i =>
    rw [List.findIdx?_eq_some_iff_getElem] at hf
    obtain ⟨hi, hp, _⟩ := hf
    have hi' : i < 17 := hi
    simp only
    refine ⟨by omega, by omega, ?_⟩
    rw [wordN, if_pos (by omega), show ((i : Int) + 1).toNat = i + 1 by omega]
    have he := of_decide_eq_true hp
    rw [List.getElem_drop] at he
    rw [List.getD_eq_getElem?_getD, List.getElem?_eq_getElem (by show i + 1 < 18; omega)]
    simp only [Option.getD_some]
    rw [← he]
    congr 1
    omega

theorem of_nil : ofN [] = 0 := by decide

/-! ### tokens, one by one -/
inductive BM where
  | ready
  | want (op : Int)
  | more (op : Int) (a : Int)
  | bad (e : Nat)

structure BS where
  out : List Ins
  goals : List (List Nat)
  labs : List (List Nat × Nat)
  mode : BM

def pushB (x : BS) (i : Ins) (g : List Nat) : BS := if 64 < x.out.length + 1 then { x with mode := .bad 4 } else ⟨x.out ++ [i], x.goals ++ [g], x.labs, .ready⟩

def stepB (x : BS) (t : Tok) : BS := match x.mode with
  | .ready =>
    if t.kind = 3 then (if t.word ∈ x.labs.map (·.1) then { x with mode := .bad 10 } else { x with labs := x.labs ++ [(t.word, x.out.length)] })
    else if t.kind ≠ 1 ∨ ofN t.word = 0 then { x with mode := .bad 5 }
    else if takesN (ofN t.word) = 0 then pushB x ⟨ofN t.word, 0, 0⟩ []
    else { x with mode := .want (ofN t.word) }
  | .want op =>
    if jumpsN op then (if t.kind = 1 then pushB x ⟨op, 0, 0⟩ t.word else { x with mode := .bad 5 })
    else if t.kind ≠ 2 then { x with mode := .bad 5 }
    else if takesN op = 1 then pushB x ⟨op, t.n, 0⟩ []
    else { x with mode := .more op t.n }
  | .more op a => if t.kind ≠ 2 then { x with mode := .bad 5 } else pushB x ⟨op, a, t.n⟩ []
  | .bad _ => x

def foldB (x : BS) (l : List Tok) : BS := l.foldl stepB x

theorem foldB_nil (x : BS) : foldB x [] = x := rfl
theorem foldB_cons (x : BS) (t : Tok) (l : List Tok) : foldB x (t :: l) = foldB (stepB x t) l := rfl
theorem foldB_append (x : BS) (l m : List Tok) : foldB x (l ++ m) = foldB (foldB x l) m := List.foldl_append

/-- where a label stands: the last of its name; -1, if there is none. -/
def whereN (labs : List (List Nat × Nat)) (g : List Nat) : Int := labs.foldl (fun at_ p => if p.1 = g then (p.2 : Int) else at_) (-1)

/-- does the jump at place i lead somewhere? -/
def leads (labs : List (List Nat × Nat)) (goals : List (List Nat)) (i : Nat) : Prop := (i : Int) < whereN labs (goals[i]?.getD [])
def aimed (labs : List (List Nat × Nat)) (goals : List (List Nat)) (i : Nat) (x : Ins) : Ins := if jumpsN x.op then ⟨x.op, whereN labs (goals[i]?.getD []) - i - 1, x.b⟩ else x

/-- the end: instructions, or an error. -/
def finB (x : BS) : Except Nat (List Ins) := match x.mode with
  | .ready => if ∀ i < x.out.length, jumpsN (insAt x.out i).op → (i : Int) < whereN x.labs (x.goals[i]?.getD []) then .ok ((List.range x.out.length).map fun i => aimed x.labs x.goals i (insAt x.out i)) else .error 10
  | .want _ => .error 5
  | .more _ _ => .error 5
  | .bad e => .error e

def emptyB : BS := ⟨[], [], [], .ready⟩
def buildT (l : List Tok) : Except Nat (List Ins) := finB (foldB emptyB l)
/-- a text's instructions, or an error. -/
def buildN (s : List Nat) : Except Nat (List Ins) := if 4000 < s.length then .error 4 else match splitN s with
  | none => .error 9
  | some l => buildT l

/-! ### as a text -/
def labelN (n : Nat) : List Nat := [120, 97 + n / 26, 97 + n % 26]
/-- does a jump ahead of place i lead there? -/
def aimAt (l : List Ins) (i : Nat) : Prop := ∃ k, k < i ∧ k < l.length ∧ jumpsN (insAt l k).op ∧ (k : Int) + 1 + (insAt l k).a = i
instance (l : List Ins) (i : Nat) : Decidable (aimAt l i) := decidable_of_iff (∃ k, k < i ∧ (k < l.length ∧ jumpsN (insAt l k).op ∧ (k : Int) + 1 + (insAt l k).a = i)) Iff.rfl

def markT (l : List Ins) (i : Nat) : List (Tok × Nat) := if aimAt l i then [(⟨3, labelN i, 0⟩, 10)] else []
/-- an instruction's line, as tokens and what stands behind each. -/
def lineT (i : Nat) (x : Ins) : List (Tok × Nat) :=
  if jumpsN x.op then [(⟨1, wordN x.op, 0⟩, 32), (⟨1, labelN ((i : Int) + 1 + x.a).toNat, 0⟩, 10)]
  else if takesN x.op = 2 then [(⟨1, wordN x.op, 0⟩, 32), (⟨2, [], x.a⟩, 32), (⟨2, [], x.b⟩, 10)]
  else if takesN x.op = 1 then [(⟨1, wordN x.op, 0⟩, 32), (⟨2, [], x.a⟩, 10)]
  else [(⟨1, wordN x.op, 0⟩, 10)]
def upToT (l : List Ins) (n : Nat) : List (Tok × Nat) := (List.range n).flatMap fun i => markT l i ++ lineT i (insAt l i)
def tellT (l : List Ins) : List (Tok × Nat) := upToT l l.length ++ markT l l.length
def textT (l : List (Tok × Nat)) : List Nat := l.flatMap fun p => textOf p.1 ++ [p.2]
def tellN (l : List Ins) : List Nat := textT (tellT l)

/-- a known kind, with numbers that a text may have. -/
structure goodIns (x : Ins) : Prop where
  op : 1 ≤ x.op ∧ x.op ≤ 17
  noA : takesN x.op < 1 → x.a = 0
  noB : takesN x.op < 2 → x.b = 0
  a : -1099511627776 ≤ x.a ∧ x.a ≤ 1099511627776
  b : -1099511627776 ≤ x.b ∧ x.b ≤ 1099511627776
/-- may they be told? -/
structure tellable (l : List Ins) : Prop where
  len : l.length ≤ 64
  good : ∀ i, i < l.length → goodIns (insAt l i)
  jump : ∀ i, i < l.length → jumpsN (insAt l i).op → 0 ≤ (insAt l i).a ∧ (insAt l i).a ≤ (l.length : Int) - i - 1

def inI (x : Ins) : Prop := (-9223372036854775808 ≤ x.a ∧ x.a ≤ 9223372036854775807) ∧ (-9223372036854775808 ≤ x.b ∧ x.b ≤ 9223372036854775807)

theorem insAt_mem {l : List Ins} {i : Nat} (h : i < l.length) : insAt l i ∈ l := by
  rw [insAt, List.getElem?_eq_getElem h]
  exact List.getElem_mem _

theorem insAt_left {l : List Ins} {i : Nat} (h : i < l.length) (m : List Ins) : insAt (l ++ m) i = insAt l i := by
  unfold insAt
  rw [List.getElem?_append_left h]

end Go.Proofs.Ytgoamkneenmbgaa
