/-
  The reference's way to build, on plain numbers and in memory: an instruction's tokens, one by one; four rows that grow. No conditions but those that stand there.
-/
import Derived.Test.YtjbhhlhaikmecaaDoorAsmL
import Derived.Test.YtjbhhlhaikmecaaDoorAsmRa
import Derived.Test.YtjbhhlhaikmecaaDoorTokUr
import Derived.Test.YtjbhhlhaikmecaaDoorAsmS
namespace Go.Proofs.YtjbhhlhaikmecaaDoor
open Go.RowKit

/-- an instruction's numbers, or its goal, token by token. -/
def argsN (op : Int) : Nat → Nat → Int → Int → List Nat → List Tok → Option (Ins × List Nat × List Tok)
  | 0, _, a, b, g, l => some (⟨op, a, b⟩, g, l)
  | _ + 1, _, _, _, _, [] => none
  | n + 1, k, a, b, g, t :: l =>
    if jumpsN op then (if t.kind = 1 then argsN op n (k + 1) a b t.word l else none)
    else if t.kind = 2 then (if k = 0 then argsN op n (k + 1) t.n b g l else argsN op n (k + 1) a t.n g l) else none

theorem args_zero (op : Int) (k : Nat) (a b : Int) (g : List Nat) (l : List Tok) : argsN op 0 k a b g l = some (⟨op, a, b⟩, g, l) := by cases l <;> rfl

theorem instrB_args (x : BS) {wd : List Nat} (h0 : ofN wd ≠ 0) (l : List Tok) : instrB x wd l = match argsN (ofN wd) (takesN (ofN wd)) 0 0 0 [] l with
    | none => .error 5
    | some r => pushed x r.1 r.2.1 r.2.2 := by
  unfold instrB
  rw [if_neg h0]
  generalize ofN wd = op
  by_cases hj : jumpsN op
  · rw [if_pos hj, takes_jump hj]
    cases l with
    | nil => rfl
    | cons t l =>
      simp only [argsN, if_pos hj]
      by_cases hk : t.kind = 1
      · rw [if_pos hk, if_pos hk]
      · rw [if_neg hk, if_neg hk]
  · rw [if_neg hj]
    have hle := takes_le op
    rcases (show takesN op = 0 ∨ takesN op = 1 ∨ takesN op = 2 by omega) with ht | ht | ht
    · rw [ht, nums_zero, args_zero]
      rfl
    · rw [ht]
      cases l with
      | nil => rfl
      | cons t l =>
        simp only [argsN, numsT, if_neg hj]
        by_cases hk : t.kind = 2
        · rw [if_pos hk, if_pos hk, if_pos trivial]
          rfl
        · rw [if_neg hk, if_neg hk]
    · rw [ht]
      cases l with
      | nil => rfl
      | cons t l =>
        simp only [argsN, numsT, if_neg hj]
        by_cases hk : t.kind = 2
        · rw [if_pos hk, if_pos hk, if_pos trivial]
          cases l with
          | nil => rfl
          | cons u l =>
            simp only [argsN, numsT, if_neg hj]
            by_cases hu : u.kind = 2
            · rw [if_pos hu, if_pos hu, if_neg (by decide)]
              rfl
            · rw [if_neg hu, if_neg hu]
              rfl
        · rw [if_neg hk, if_neg hk]

theorem dropT {l : List Tok} {i : Nat} {t : Tok} (h : l[i]? = some t) : l.drop i = t :: l.drop (i + 1) := by
  obtain ⟨q, e⟩ := List.getElem?_eq_some_iff.1 h
  rw [List.drop_eq_getElem_cons q, e]

/-- what comes behind an instruction's tokens. -/
theorem instr_next {x : BS} (hx : OkX x) {t : Tok} {l : List Tok} (hk : ∀ u ∈ t :: l, okG u) (h1 : t.kind = 1) (h0 : ofN t.word ≠ 0) {R : Except Nat (List Ins)} (hR : finB (foldB x (t :: l)) = R) :
    (argsN (ofN t.word) (takesN (ofN t.word)) 0 0 0 [] l = none → R = .error 5) ∧
    ∀ i g l', argsN (ofN t.word) (takesN (ofN t.word)) 0 0 0 [] l = some (i, g, l') →
      (64 < x.out.length + 1 → R = .error 4) ∧ (¬ 64 < x.out.length + 1 → OkX ⟨x.out ++ [i], x.goals ++ [g], x.labs, .ready⟩ ∧ finB (foldB ⟨x.out ++ [i], x.goals ++ [g], x.labs, .ready⟩ l') = R) := by
  have hp : partP x (t :: l) = instrB x t.word l := by rw [partP, if_neg (by omega), if_pos h1]
  rw [instrB_args x h0] at hp
  refine ⟨fun hn => ?_, fun i g l' hs => ?_⟩
  · rw [hn] at hp
    rw [← hR]
    exact (partP_err hx hp).1
  · rw [hs] at hp
    simp only [pushed] at hp
    refine ⟨fun hm => ?_, fun hm => ?_⟩
    · rw [if_pos hm] at hp
      rw [← hR]
      exact (partP_err hx hp).1
    · rw [if_neg hm] at hp
      obtain ⟨h1, _, _, _, h5⟩ := partP_ok hx hk hp
      exact ⟨h1, by rw [← h5]; exact hR⟩

theorem label_next {x : BS} (hx : OkX x) {t : Tok} {l : List Tok} (hk : ∀ u ∈ t :: l, okG u) (h3 : t.kind = 3) {R : Except Nat (List Ins)} (hR : finB (foldB x (t :: l)) = R) :
    (t.word ∈ x.labs.map (·.1) → R = .error 10) ∧ (t.word ∉ x.labs.map (·.1) → OkX { x with labs := x.labs ++ [(t.word, x.out.length)] } ∧ finB (foldB { x with labs := x.labs ++ [(t.word, x.out.length)] } l) = R) := by
  refine ⟨fun h => ?_, fun h => ?_⟩
  · have hp : partP x (t :: l) = .error 10 := by rw [partP, if_pos h3, if_pos h]
    rw [← hR]
    exact (partP_err hx hp).1
  · have hp : partP x (t :: l) = .ok ({ x with labs := x.labs ++ [(t.word, x.out.length)] }, l) := by rw [partP, if_pos h3, if_neg h]
    obtain ⟨h1, _, _, _, h5⟩ := partP_ok hx hk hp
    exact ⟨h1, by rw [← h5]; exact hR⟩

theorem other_next {x : BS} (hx : OkX x) {t : Tok} {l : List Tok} (h : t.kind ≠ 3) (h1 : t.kind ≠ 1 ∨ ofN t.word = 0) {R : Except Nat (List Ins)} (hR : finB (foldB x (t :: l)) = R) : R = .error 5 := by
  have hp : partP x (t :: l) = .error 5 := by
    rw [partP, if_neg h]
    by_cases hk : t.kind = 1
    · rw [if_pos hk]
      unfold instrB
      rw [if_pos (h1.resolve_left (fun q => q hk))]
    · rw [if_neg hk]
  rw [← hR]
  exact (partP_err hx hp).1

/-! ### rows -/
def strsW (l : List (List Nat)) : List Value := l.map fun g => Value.string (strL g)
def natsW (l : List (List Nat × Nat)) : List Value := l.map fun p => Value.int .i64 (p.2 : Nat)
theorem strsW_snoc (l : List (List Nat)) (g : List Nat) : strsW (l ++ [g]) = strsW l ++ [.string (strL g)] := by simp [strsW]
theorem natsW_snoc (l : List (List Nat × Nat)) (p : List Nat × Nat) : natsW (l ++ [p]) = natsW l ++ [.int .i64 (p.2 : Nat)] := by simp [natsW]
theorem strsW_at {l : List (List Nat)} {j : Nat} {g : List Nat} (h : l[j]? = some g) : (strsW l)[j]? = some (.string (strL g)) := by simp [strsW, h]
theorem natsW_at {l : List (List Nat × Nat)} {j : Nat} {p : List Nat × Nat} (h : l[j]? = some p) : (natsW l)[j]? = some (.int .i64 (p.2 : Nat)) := by simp [natsW, h]

theorem infoStr : ∃ i, Tryd.prog.info? 9 = some i ∧ i.zero = some (.string ByteArray.empty) ∧ i.size = 1 ∧ i.bytes = 16 := by
  have h : (Tryd.prog.info? 9).map (fun i => (i.zero, i.size, i.bytes)) = some (some (.string ByteArray.empty), 1, 16) := by kernel_rfl
  cases hi : Tryd.prog.info? 9 with
  | none => rw [hi] at h; cases h
  | some i =>
    rw [hi] at h
    simp only [Option.map_some, Option.some.injEq, Prod.mk.injEq] at h
    exact ⟨i, rfl, h.1, h.2.1, h.2.2⟩
theorem infoI64 : ∃ i, Tryd.prog.info? 3 = some i ∧ i.zero = some (.int .i64 0) ∧ i.size = 1 ∧ i.bytes = 8 := by
  have h : (Tryd.prog.info? 3).map (fun i => (i.zero, i.size, i.bytes)) = some (some (.int .i64 0), 1, 8) := by kernel_rfl
  cases hi : Tryd.prog.info? 3 with
  | none => rw [hi] at h; cases h
  | some i =>
    rw [hi] at h
    simp only [Option.map_some, Option.some.injEq, Prod.mk.injEq] at h
    exact ⟨i, rfl, h.1, h.2.1, h.2.2⟩

/-- append of one value that lies in a block of its own; the row's block is the old one or a new one. -/
theorem append_rowH {P : Program} {ops : Array Oper} {rest : List Oper} {o : Oper} {a : Act} {w : World} {Q : Exit → Act → World → Prop} (hgd : o.guard = none) (s x : Operand) (t : TypeId)
    (ho : o.op = .call { callee := .builtin .append, args := #[s, x], argTypes := #[t, t] })
    (base : Nat) (e : TypeId) (i : TypeInfo) (z : Value) (size bytes : Nat) (ht : P.underlying t = some (.slice e)) (hi : P.info? e = some i) (hz : i.zero = some z)
    (hsize : i.size = size) (hby : i.bytes = bytes) (hzs : z.cells.size = size) (hsz : 0 < size)
    (v : Value) (n : Nat) (xs : List Value) (hs : a.eval s = v) (hown : w.ownsRow base e size v n xs)
    (b : Nat) (us : Array Value) (hx : a.eval x = .slice (some ⟨b, 0, none⟩) 1 1) (hb : Bk w b e us) (hl : us.size = size) (h1 : us.toList.all Value.oneCell' = true)
    (h63 : n + 1 ≤ maxLen) (hbytes : (n + 1) * bytes ≤ 140737488355328) (hbase : base ≤ w.heap.size)
    (h : ∀ g cap w', w'.ownsRow base e size (.slice (some ⟨g, 0, none⟩) (n + 1) cap) (n + 1) (xs ++ us.toList) → w.grownBy w' v.ownBlock → (v.ownBlock = some g ∨ g = w.heap.size) → wpList P ops Q rest (a.put o.dst (.slice (some ⟨g, 0, none⟩) (n + 1) cap)) w') : wpList P ops Q (o :: rest) a w :=
  wpList_append_lies w hgd s x t ho base e i z size bytes ht hi hz hsize hby hzs hsz v n xs hs hown ⟨b, 0, none⟩ 1 1 us.toList hx (by simpa using hl)
    (World.news_of_block hb) (fun u hu => List.all_eq_true.1 h1 u hu) Nat.one_pos h63 hbytes hbase _ rfl (fun g cap w' h2 h3 h4 _ => h g cap w' h2 h3 h4)

/-- the reference's rows. -/
structure RB (w1 w : World) (vo vw vg vm : Value) (x : BS) : Prop where
  out : w.ownsRow w1.heap.size 35 3 vo x.out.length (inssW x.out)
  whr : w.ownsRow w1.heap.size 9 1 vw x.labs.length (strsW (x.labs.map (·.1)))
  gls : w.ownsRow w1.heap.size 9 1 vg x.goals.length (strsW x.goals)
  mks : w.ownsRow w1.heap.size 3 1 vm x.labs.length (natsW x.labs)
  ne : ∀ k, vw.ownBlock = some k → vg.ownBlock ≠ some k
  old : Below w1.heap.size w1 w

theorem RB.start (w1 : World) : RB w1 w1 (.slice none 0 0) (.slice none 0 0) (.slice none 0 0) (.slice none 0 0) emptyB :=
  ⟨⟨rfl, .inl ⟨rfl, rfl⟩⟩, ⟨rfl, .inl ⟨rfl, rfl⟩⟩, ⟨rfl, .inl ⟨rfl, rfl⟩⟩, ⟨rfl, .inl ⟨rfl, rfl⟩⟩, fun _ h => (by cases h), Below.refl _ _⟩

theorem RB.below {w1 w w' : World} {vo vw vg vm : Value} {x : BS} (h : RB w1 w vo vw vg vm x) (hb : Below w.heap.size w w') : RB w1 w' vo vw vg vm x :=
  ⟨own_below h.out hb, own_below h.whr hb, own_below h.gls hb, own_below h.mks hb, h.ne, h.old.trans (hb.mono h.old.size)⟩

/-- a row stays where another grows. -/
theorem row_kept {w W w2 : World} {B : Nat} {e : TypeId} {size n : Nat} {v : Value} {xs : List Value} {row : Option Nat} (h : w.ownsRow B e size v n xs) (hW : Below w.heap.size w W) (hgr : W.grownBy w2 row) (hne : ∀ k, v.ownBlock = some k → row ≠ some k) : w2.ownsRow B e size v n xs := own_grown (own_below h hW) hgr hne

theorem new_ne {w W : World} {B : Nat} {e : TypeId} {size n : Nat} {v u : Value} {xs : List Value} (h : w.ownsRow B e size u n xs) (hs : w.heap.size ≤ W.heap.size) {g : Nat} (hg : v.ownBlock = some g ∨ g = W.heap.size) (hne : ∀ k, v.ownBlock = some k → u.ownBlock ≠ some k) : u.ownBlock ≠ some g := by
  rcases hg with hg | hg
  · exact hne g hg
  · intro he
    have := own_lt h he
    omega

/-- a label more. -/
theorem RB.label {w1 w W w2 W2 w3 : World} {vo vw vg vm : Value} {x : BS} (h : RB w1 w vo vw vg vm x) {g c g3 c3 : Nat} {wd : List Nat}
    (hW : Below w.heap.size w W) (hgr : W.grownBy w2 vw.ownBlock) (hg : vw.ownBlock = some g ∨ g = W.heap.size) (ho : w2.ownsRow w1.heap.size 9 1 (.slice (some ⟨g, 0, none⟩) (x.labs.length + 1) c) (x.labs.length + 1) (strsW (x.labs.map (·.1)) ++ [.string (strL wd)]))
    (hW2 : Below w2.heap.size w2 W2) (hgr2 : W2.grownBy w3 vm.ownBlock) (ho3 : w3.ownsRow w1.heap.size 3 1 (.slice (some ⟨g3, 0, none⟩) (x.labs.length + 1) c3) (x.labs.length + 1) (natsW x.labs ++ [.int .i64 (x.out.length : Nat)])) :
    RB w1 w3 vo (.slice (some ⟨g, 0, none⟩) (x.labs.length + 1) c) vg (.slice (some ⟨g3, 0, none⟩) (x.labs.length + 1) c3) { x with labs := x.labs ++ [(wd, x.out.length)] } := by
  have o2 := row_kept h.out hW hgr (fun k hk e => own_apart h.out h.whr (by decide) k hk e)
  have l2 := row_kept h.gls hW hgr (fun k hk e => h.ne k e hk)
  have m2 := row_kept h.mks hW hgr (fun k hk e => own_apart h.mks h.whr (by decide) k hk e)
  have hb2 : Below w1.heap.size w1 w2 := (h.old.trans (hW.mono h.old.size)).grown hgr (Nat.le_trans h.old.size hW.size) (fun k hk => own_ge h.whr hk)
  refine ⟨row_kept o2 hW2 hgr2 (fun k hk e => own_apart o2 m2 (by decide) k hk e), ?_, row_kept l2 hW2 hgr2 (fun k hk e => own_apart l2 m2 (by decide) k hk e), ?_, ?_, ?_⟩
  · have := row_kept ho hW2 hgr2 (fun k hk e => own_apart ho m2 (by decide) k hk e)
    simp only [List.length_append, List.length_singleton, List.map_append, List.map_cons, List.map_nil, strsW_snoc]
    exact this
  · simp only [List.length_append, List.length_singleton, natsW_snoc]
    exact ho3
  · intro k hk
    simp only [Value.ownBlock, Option.some.injEq] at hk
    subst hk
    exact new_ne h.gls hW.size hg h.ne
  · exact (hb2.trans (hW2.mono hb2.size)).grown hgr2 (Nat.le_trans hb2.size hW2.size) (fun k hk => own_ge m2 hk)

/-- an instruction more. -/
theorem RB.instr {w1 w W w2 W2 w3 : World} {vo vw vg vm : Value} {x : BS} (h : RB w1 w vo vw vg vm x) {g c g3 c3 : Nat} {i : Ins} {gl : List Nat}
    (hW : Below w.heap.size w W) (hgr : W.grownBy w2 vo.ownBlock) (ho : w2.ownsRow w1.heap.size 35 3 (.slice (some ⟨g, 0, none⟩) (x.out.length + 1) c) (x.out.length + 1) (inssW x.out ++ insW i))
    (hW2 : Below w2.heap.size w2 W2) (hgr2 : W2.grownBy w3 vg.ownBlock) (hg : vg.ownBlock = some g3 ∨ g3 = W2.heap.size) (ho3 : w3.ownsRow w1.heap.size 9 1 (.slice (some ⟨g3, 0, none⟩) (x.goals.length + 1) c3) (x.goals.length + 1) (strsW x.goals ++ [.string (strL gl)])) :
    RB w1 w3 (.slice (some ⟨g, 0, none⟩) (x.out.length + 1) c) vw (.slice (some ⟨g3, 0, none⟩) (x.goals.length + 1) c3) vm ⟨x.out ++ [i], x.goals ++ [gl], x.labs, .ready⟩ := by
  have s2 := row_kept h.whr hW hgr (fun k hk e => own_apart h.whr h.out (by decide) k hk e)
  have l2 := row_kept h.gls hW hgr (fun k hk e => own_apart h.gls h.out (by decide) k hk e)
  have m2 := row_kept h.mks hW hgr (fun k hk e => own_apart h.mks h.out (by decide) k hk e)
  have hb2 : Below w1.heap.size w1 w2 := (h.old.trans (hW.mono h.old.size)).grown hgr (Nat.le_trans h.old.size hW.size) (fun k hk => own_ge h.out hk)
  refine ⟨?_, row_kept s2 hW2 hgr2 (fun k hk e => h.ne k hk e), ?_, row_kept m2 hW2 hgr2 (fun k hk e => own_apart m2 l2 (by decide) k hk e), ?_, ?_⟩
  · have := row_kept ho hW2 hgr2 (fun k hk e => own_apart ho l2 (by decide) k hk e)
    simp only [List.length_append, List.length_singleton, inssW_snoc]
    exact this
  · simp only [List.length_append, List.length_singleton, strsW_snoc]
    exact ho3
  · intro k hk
    simp only [Value.ownBlock, ne_eq, Option.some.injEq]
    rintro rfl
    rcases hg with hg | hg
    · exact h.ne _ hk hg
    · have := own_lt s2 hk
      have := hW2.size
      omega
  · exact (hb2.trans (hW2.mono hb2.size)).grown hgr2 (Nat.le_trans hb2.size hW2.size) (fun k hk => own_ge l2 hk)

/-! ### labels, one by one -/
theorem where_take (labs : List (List Nat × Nat)) (g : List Nat) {k : Nat} {p : List Nat × Nat} (h : labs[k]? = some p) : whereN (labs.take (k + 1)) g = if p.1 = g then (p.2 : Int) else whereN (labs.take k) g := by
  obtain ⟨q, e⟩ := List.getElem?_eq_some_iff.1 h
  rw [List.take_succ_eq_append_getElem q, e]
  unfold whereN
  rw [List.foldl_append]
  rfl

theorem fin_ok {x : BS} (hx : x.mode = .ready) (h : ∀ i, i < x.out.length → jumpsN (insAt x.out i).op → (i : Int) < whereN x.labs (x.goals[i]?.getD [])) : finB x = .ok (mixI x x.out.length) := by
  unfold finB
  rw [hx]
  simp only
  rw [if_pos h, mixI_end]
theorem fin_no {x : BS} (hx : x.mode = .ready) {i : Nat} (hi : i < x.out.length) (hj : jumpsN (insAt x.out i).op) (h : whereN x.labs (x.goals[i]?.getD []) ≤ i) : finB x = .error 10 := by
  unfold finB
  rw [hx]
  simp only
  rw [if_neg]
  intro hall
  have := hall i hi hj
  omega

/-! ### jumps, one by one -/
structure RL (w1 w : World) (vo vw vg vm : Value) (x : BS) (j : Nat) : Prop where
  out : w.ownsRow w1.heap.size 35 3 vo x.out.length (inssW (mixI x j))
  whr : w.ownsRow w1.heap.size 9 1 vw x.labs.length (strsW (x.labs.map (·.1)))
  gls : w.ownsRow w1.heap.size 9 1 vg x.goals.length (strsW x.goals)
  mks : w.ownsRow w1.heap.size 3 1 vm x.labs.length (natsW x.labs)
  old : Below w1.heap.size w1 w

theorem RB.lead {w1 w : World} {vo vw vg vm : Value} {x : BS} (h : RB w1 w vo vw vg vm x) : RL w1 w vo vw vg vm x 0 := ⟨by rw [mixI_zero]; exact h.out, h.whr, h.gls, h.mks, h.old⟩
theorem RL.below {w1 w w' : World} {vo vw vg vm : Value} {x : BS} {j : Nat} (h : RL w1 w vo vw vg vm x j) (hb : Below w.heap.size w w') : RL w1 w' vo vw vg vm x j :=
  ⟨own_below h.out hb, own_below h.whr hb, own_below h.gls hb, own_below h.mks hb, h.old.trans (hb.mono h.old.size)⟩
theorem RL.skip {w1 w : World} {vo vw vg vm : Value} {x : BS} {j : Nat} (h : RL w1 w vo vw vg vm x j) (hj : ¬ jumpsN (insAt x.out j).op) : RL w1 w vo vw vg vm x (j + 1) := ⟨by rw [← mixI_skip x hj]; exact h.out, h.whr, h.gls, h.mks, h.old⟩
theorem mixI_here (x : BS) {j : Nat} (h : j < x.out.length) : insAt (mixI x j) j = insAt x.out j := by
  unfold insAt
  rw [mixI_at x j h, if_neg (by omega)]
  rfl
theorem RL.set {w1 w : World} {g n c : Nat} {vw vg vm : Value} {x : BS} {j : Nat} (h : RL w1 w (.slice (some ⟨g, 0, none⟩) n c) vw vg vm x j) (hl : j < x.out.length) (hj : jumpsN (insAt x.out j).op) :
    RL w1 (w.setCell ⟨g, j * 3 + 1, none⟩ (.int .i64 (whereN x.labs (x.goals[j]?.getD []) - j - 1))) (.slice (some ⟨g, 0, none⟩) n c) vw vg vm x (j + 1) := by
  obtain rfl : n = x.out.length := by
    rcases h.out.2 with ⟨h0, _⟩ | ⟨g', cap', cur, hv, _⟩
    · cases h0
    · injection hv
  refine ⟨?_, own_setFar h.whr (fun e => own_apart h.whr h.out (by decide) g e rfl) _ _, own_setFar h.gls (fun e => own_apart h.gls h.out (by decide) g e rfl) _ _, own_setFar h.mks (fun e => own_apart h.mks h.out (by decide) g e rfl) _ _, h.old.setCell (p := ⟨g, j * 3 + 1, none⟩) (show w1.heap.size ≤ g from own_ge h.out rfl) _⟩
  rw [← mixI_set x hl hj, ← inssW_set (mixI x j) j _ (by rw [mixI_length]; exact hl)]
  exact own_set h.out _ _
theorem mix_cell {w : World} {A : Option Addr} {c : Nat} {x : BS} {j : Nat} (h : Sl w 3 A x.out.length c (inssW (mixI x j))) (hj : j < x.out.length) : ∃ b off, A = some ⟨b, off, none⟩ ∧ b < w.heap.size ∧ w.cell? ⟨b, off + j * 3, none⟩ = some (.int .i64 (insAt x.out j).op) ∧ ∃ z, w.cell? ⟨b, off + j * 3 + 1, none⟩ = some z := by
  obtain ⟨b, off, rfl, hb, hc⟩ := h.2.2.2 (by omega)
  obtain ⟨e0, e1, _⟩ := inssW_at (mixI x j) j (by rw [mixI_length]; exact hj)
  rw [mixI_here x hj] at e0
  exact ⟨b, off, rfl, hb, (hc (j * 3) (by omega)).trans e0, _, by rw [Nat.add_assoc]; exact (hc (j * 3 + 1) (by omega)).trans e1⟩
/-- a row of strings, a row of numbers: a place. -/
theorem str_cell {w : World} {A : Option Addr} {n c : Nat} {l : List (List Nat)} (h : Sl w 1 A n c (strsW l)) {k : Nat} {g : List Nat} (hg : l[k]? = some g) : ∃ b off, A = some ⟨b, off, none⟩ ∧ b < w.heap.size ∧ w.cell? ⟨b, off + k, none⟩ = some (.string (strL g)) ∧ k < n := by
  have hk : k < n := by
    have h1 := h.1
    obtain ⟨q, _⟩ := List.getElem?_eq_some_iff.1 hg
    simp only [strsW, List.length_map, Nat.mul_one] at h1
    omega
  obtain ⟨b, off, rfl, hb, hc⟩ := h.2.2.2 (by omega)
  exact ⟨b, off, rfl, hb, (hc k (by omega)).trans (strsW_at hg), hk⟩
theorem nat_cell {w : World} {A : Option Addr} {n c : Nat} {l : List (List Nat × Nat)} (h : Sl w 1 A n c (natsW l)) {k : Nat} {p : List Nat × Nat} (hp : l[k]? = some p) : ∃ b off, A = some ⟨b, off, none⟩ ∧ b < w.heap.size ∧ w.cell? ⟨b, off + k, none⟩ = some (.int .i64 (p.2 : Nat)) ∧ k < n := by
  have hk : k < n := by
    have h1 := h.1
    obtain ⟨q, _⟩ := List.getElem?_eq_some_iff.1 hp
    simp only [natsW, List.length_map, Nat.mul_one] at h1
    omega
  obtain ⟨b, off, rfl, hb, hc⟩ := h.2.2.2 (by omega)
  exact ⟨b, off, rfl, hb, (hc k (by omega)).trans (natsW_at hp), hk⟩

end Go.Proofs.YtjbhhlhaikmecaaDoor
