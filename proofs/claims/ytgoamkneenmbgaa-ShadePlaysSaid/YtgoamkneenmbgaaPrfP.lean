/-
  Which commands may be, on plain numbers: depths ahead of each instruction, in one walk; ways that lead forwards. No conditions but those that stand there.
-/
import Derived.Test.YtgoamkneenmbgaaInsP
namespace Go.Proofs.Ytgoamkneenmbgaa

structure Cmd where
  reads : List Int
  writes : List Int
  args : List Int
  fuel : Int
  code : List Ins

def offN (op : Int) : Nat := if op = 3 ∨ op = 5 ∨ op = 13 ∨ op = 15 then 1 else if 7 ≤ op ∧ op ≤ 12 then 2 else 0
def onN (op : Int) : Nat := if op = 1 ∨ op = 2 ∨ op = 4 ∨ op = 6 then 1 else if 7 ≤ op ∧ op ≤ 12 then 1 else 0
def waysN (x : Ins) : List Int := if x.op = 16 ∨ x.op = 17 then [] else if x.op = 14 then [x.a] else if x.op = 13 then [0, x.a] else [0]

def dAt (d : List Int) (i : Nat) : Int := d[i]?.getD (-1)

theorem dAt_set_same {d : List Int} {i : Nat} {v : Int} (h : i < d.length) : dAt (d.set i v) i = v := by simp [dAt, h]
theorem dAt_set_ne {d : List Int} {i j : Nat} {v : Int} (h : i ≠ j) : dAt (d.set i v) j = dAt d j := by simp [dAt, List.getElem?_set_ne h]

/-- way by way. -/
def wayD (len i : Nat) (v : Int) : List Int → List Int → Except Nat (List Int)
  | [], d => .ok d
  | w :: ws, d => if w < 0 ∨ (len : Int) - i - 1 ≤ w then .error 6
    else if 0 ≤ dAt d (i + 1 + w.toNat) ∧ dAt d (i + 1 + w.toNat) ≠ v then .error 7
    else wayD len i v ws (d.set (i + 1 + w.toNat) v)

/-- one instruction. -/
def insD (l : List Ins) (i : Nat) (d : List Int) : Except Nat (List Int) :=
  if dAt d i < 0 then .ok d
  else if dAt d i < offN (insAt l i).op ∨ 8 < dAt d i - offN (insAt l i).op + onN (insAt l i).op then .error 7
  else wayD l.length i (dAt d i - offN (insAt l i).op + onN (insAt l i).op) (waysN (insAt l i)) d

/-- so many more, from place i on. -/
def goD (l : List Ins) : Nat → Nat → List Int → Except Nat (List Int)
  | 0, _, d => .ok d
  | n + 1, i, d => match insD l i d with
    | .error e => .error e
    | .ok d' => goD l n (i + 1) d'

def startD0 (n : Nat) : List Int := (List.range n).map fun i => if i = 0 then 0 else -1
def depthsN (l : List Ins) : Except Nat (List Int) := goD l l.length 0 (startD0 l.length)

theorem startD0_length (n : Nat) : (startD0 n).length = n := by simp [startD0]
theorem startD0_at {n i : Nat} (h : i < n) : dAt (startD0 n) i = if i = 0 then 0 else -1 := by simp [dAt, startD0, h]

/-! ### what holds behind it -/
/-- of the ways of an instruction all lead on, within, with this depth. -/
def wayOk (len i : Nat) (v : Int) (d : List Int) (w : Int) : Prop := 0 ≤ w ∧ w < (len : Int) - i - 1 ∧ dAt d (i + 1 + w.toNat) = v

/-- instruction i is fine. -/
def insOk (l : List Ins) (d : List Int) (i : Nat) : Prop := 0 ≤ dAt d i → (offN (insAt l i).op : Int) ≤ dAt d i ∧ dAt d i - offN (insAt l i).op + onN (insAt l i).op ≤ 8 ∧ ∀ w ∈ waysN (insAt l i), wayOk l.length i (dAt d i - offN (insAt l i).op + onN (insAt l i).op) d w

/-- d' is d, but that places behind i that had no depth may have one. -/
structure Grew (i : Nat) (d d' : List Int) : Prop where
  len : d'.length = d.length
  low : ∀ j, j ≤ i → dAt d' j = dAt d j
  kept : ∀ j, 0 ≤ dAt d j → dAt d' j = dAt d j

theorem Grew.refl (i : Nat) (d : List Int) : Grew i d d := ⟨rfl, fun _ _ => rfl, fun _ _ => rfl⟩
theorem Grew.trans {i : Nat} {a b c : List Int} (h : Grew i a b) (k : Grew i b c) : Grew i a c :=
  ⟨k.len.trans h.len, fun j hj => (k.low j hj).trans (h.low j hj), fun j hj => (k.kept j (by rw [h.kept j hj]; exact hj)).trans (h.kept j hj)⟩
theorem Grew.mono {i j : Nat} {a b : List Int} (h : Grew i a b) (hj : j ≤ i) : Grew j a b := ⟨h.len, fun k hk => h.low k (by omega), h.kept⟩

theorem way_grew {len i : Nat} {v : Int} (hv : 0 ≤ v) : ∀ (ws : List Int) (d d' : List Int), d.length = len → wayD len i v ws d = .ok d' → Grew i d d' ∧ ∀ w ∈ ws, wayOk len i v d' w
  | [], d, d', _, h => by
    simp only [wayD, Except.ok.injEq] at h
    subst h
    exact ⟨Grew.refl _ _, by simp⟩
  | w :: ws, d, d', hl, h => by
    rw [wayD] at h
    split at h
    · cases h
    · split at h
      · cases h
      · rename_i h1 h2
        have hw : 0 ≤ w ∧ w < (len : Int) - i - 1 := by omega
        have hlt : i + 1 + w.toNat < d.length := by omega
        have hg : Grew i d (d.set (i + 1 + w.toNat) v) := by
          refine ⟨by simp, fun j hj => dAt_set_ne (by omega), fun j hj => ?_⟩
          by_cases e : i + 1 + w.toNat = j
          · subst e
            rw [dAt_set_same hlt]
            exact Classical.byContradiction fun hne => h2 ⟨hj, fun e => hne e.symm⟩
          · exact dAt_set_ne e
        obtain ⟨g2, hall⟩ := way_grew hv ws _ d' (by simp [hl]) h
        refine ⟨hg.trans g2, fun w' hw' => ?_⟩
        rcases List.mem_cons.1 hw' with rfl | hw'
        · refine ⟨hw.1, hw.2, ?_⟩
          rw [g2.kept _ (by rw [dAt_set_same hlt]; exact hv), dAt_set_same hlt]
        · exact hall w' hw'

theorem on_off (op : Int) : offN op ≤ 2 ∧ onN op ≤ 1 := by
  unfold offN onN
  refine ⟨?_, ?_⟩
  · split
    · omega
    · split <;> omega
  · split
    · omega
    · split <;> omega

theorem ins_grew {l : List Ins} {i : Nat} {d d' : List Int} (hl : d.length = l.length) (h : insD l i d = .ok d') : Grew i d d' ∧ insOk l d' i := by
  rw [insD] at h
  split at h
  · rename_i hn
    simp only [Except.ok.injEq] at h
    subst h
    exact ⟨Grew.refl _ _, fun h0 => by omega⟩
  · split at h
    · cases h
    · rename_i h0 h1
      have hoff : (offN (insAt l i).op : Int) ≤ dAt d i := by omega
      obtain ⟨hg, hall⟩ := way_grew (by omega) _ _ _ hl h
      refine ⟨hg, fun _ => ?_⟩
      rw [hg.low i (Nat.le_refl _)]
      exact ⟨hoff, by omega, hall⟩

theorem insOk_grew {l : List Ins} {d d' : List Int} {i j : Nat} (h : insOk l d i) (hg : Grew j d d') (hi : i ≤ j) (hv : ∀ op : Int, offN op ≤ 2) : insOk l d' i := by
  intro h0
  have e := hg.low i hi
  rw [e] at h0 ⊢
  obtain ⟨h1, h2, h3⟩ := h h0
  refine ⟨h1, h2, fun w hw => ?_⟩
  obtain ⟨w1, w2, w3⟩ := h3 w hw
  have := hv (insAt l i).op
  exact ⟨w1, w2, by rw [hg.kept _ (by rw [w3]; omega), w3]⟩

theorem go_fine {l : List Ins} : ∀ (n i : Nat) (d d' : List Int), d.length = l.length → goD l n i d = .ok d' → (∀ j, j < i → insOk l d j) → d'.length = l.length ∧ (0 < i + n → dAt d' 0 = dAt d 0) ∧ ∀ j, j < i + n → insOk l d' j
  | 0, i, d, d', hl, h, hj => by
    simp only [goD, Except.ok.injEq] at h
    subst h
    exact ⟨hl, fun _ => rfl, hj⟩
  | n + 1, i, d, d', hl, h, hj => by
    rw [goD] at h
    cases hi : insD l i d with
    | error e => rw [hi] at h; cases h
    | ok d1 =>
      rw [hi] at h
      obtain ⟨hg, hok⟩ := ins_grew hl hi
      obtain ⟨r1, r2, r3⟩ := go_fine n (i + 1) d1 d' (hg.len.trans hl) h (fun j hji => by
        rcases Nat.lt_or_ge j i with h1 | h1
        · exact insOk_grew (hj j h1) hg (by omega) (fun op => (on_off op).1)
        · obtain rfl : j = i := by omega
          exact hok)
      exact ⟨r1, fun _ => (r2 (by omega)).trans (hg.low 0 (by omega)), fun j hj' => r3 j (by omega)⟩

/-- all that holds of depths that were found. -/
theorem depths_fine {l : List Ins} {d : List Int} (h : depthsN l = .ok d) : d.length = l.length ∧ (0 < l.length → dAt d 0 = 0) ∧ ∀ i, i < l.length → insOk l d i := by
  obtain ⟨h1, h2, h3⟩ := go_fine l.length 0 _ d (startD0_length _) h (fun j hj => absurd hj (by omega))
  refine ⟨h1, fun hl => ?_, fun i hi => h3 i (by omega)⟩
  rw [h2 (by omega), startD0_at hl]
  rfl

/-! ### a stop behind it -/
theorem dAt_left {d e : List Int} {i : Nat} (h : i < d.length) : dAt (d ++ e) i = dAt d i := by
  unfold dAt
  rw [List.getElem?_append_left h]

theorem way_tail {len i : Nat} {v : Int} : ∀ (ws : List Int) (d d' : List Int), d.length = len → wayD len i v ws d = .ok d' → wayD (len + 1) i v ws (d ++ [-1]) = .ok (d' ++ [-1])
  | [], d, d', _, h => by
    simp only [wayD, Except.ok.injEq] at h ⊢
    rw [h]
  | w :: ws, d, d', hl, h => by
    rw [wayD] at h
    split at h
    · cases h
    · split at h
      · cases h
      · rename_i h1 h2
        have hlt : i + 1 + w.toNat < d.length := by omega
        rw [wayD, if_neg (by omega), dAt_left hlt, if_neg h2, List.set_append_left _ _ hlt]
        exact way_tail ws _ d' (by simp [hl]) h

theorem ins_tail {l : List Ins} (s : Ins) {i : Nat} {d d' : List Int} (hl : d.length = l.length) (hi : i < l.length) (h : insD l i d = .ok d') : insD (l ++ [s]) i (d ++ [-1]) = .ok (d' ++ [-1]) := by
  rw [insD] at h ⊢
  rw [dAt_left (by omega), insAt_left hi]
  split at h
  · rename_i h0
    rw [if_pos h0]
    simp only [Except.ok.injEq] at h ⊢
    rw [h]
  · rename_i h0
    rw [if_neg h0]
    split at h
    · cases h
    · rename_i h1
      rw [if_neg h1, List.length_append, List.length_singleton]
      exact way_tail _ d d' hl h

theorem goD_succ_last (l : List Ins) : ∀ (n i : Nat) (d : List Int), goD l (n + 1) i d = match goD l n i d with | .error e => .error e | .ok d' => insD l (i + n) d'
  | 0, i, d => by
    show (match insD l i d with | .error e => .error e | .ok d' => .ok d') = insD l i d
    cases insD l i d <;> rfl
  | n + 1, i, d => by
    rw [goD]
    conv => rhs; rw [goD]
    cases h : insD l i d with
    | error e => rfl
    | ok d' =>
      simp only
      rw [goD_succ_last l n (i + 1) d', show i + 1 + n = i + (n + 1) by omega]

theorem go_tail {l : List Ins} (s : Ins) : ∀ (n i : Nat) (d d' : List Int), d.length = l.length → i + n ≤ l.length → goD l n i d = .ok d' → goD (l ++ [s]) n i (d ++ [-1]) = .ok (d' ++ [-1])
  | 0, i, d, d', _, _, h => by
    simp only [goD, Except.ok.injEq] at h ⊢
    rw [h]
  | n + 1, i, d, d', hl, hn, h => by
    rw [goD] at h ⊢
    cases hi : insD l i d with
    | error e => rw [hi] at h; cases h
    | ok d1 =>
      rw [hi] at h
      rw [ins_tail s hl (by omega) hi]
      exact go_tail s n (i + 1) d1 d' ((ins_grew hl hi).1.len.trans hl) (by omega) h

theorem start_tail {n : Nat} (h : 0 < n) : startD0 (n + 1) = startD0 n ++ [-1] := by
  unfold startD0
  rw [List.range_succ, List.map_append]
  simp
  omega

theorem depths_tail {l : List Ins} {d : List Int} (s : Ins) (hl : 0 < l.length) (h : depthsN l = .ok d) : depthsN (l ++ [s]) = .ok (d ++ [-1]) := by
  have hd := (depths_fine h).1
  rw [depthsN, List.length_append, List.length_singleton, goD_succ_last, start_tail hl, go_tail s _ _ _ _ (startD0_length _) (by omega) h]
  simp only
  rw [insD, if_pos]
  rw [Nat.zero_add, ← hd]
  simp [dAt]

/-- the way cut off at once. -/
theorem depths_cut {l : List Ins} {a b : Int} (hl : 0 < l.length) (h0 : insAt l 0 = ⟨14, a, b⟩) (ha : (l.length : Int) - 1 ≤ a) : depthsN l = .error 6 := by
  rw [depthsN]
  obtain ⟨n, hn⟩ : ∃ n, l.length = n + 1 := ⟨l.length - 1, by omega⟩
  rw [hn, goD]
  have hd : dAt (startD0 (n + 1)) 0 = 0 := by rw [startD0_at (by omega)]; rfl
  have e : insD l 0 (startD0 (n + 1)) = .error 6 := by
    rw [insD, hd, h0, if_neg (by omega), if_neg (by simp [offN, onN])]
    show wayD l.length 0 _ [a] _ = _
    rw [wayD, if_pos (by omega)]
  rw [e]

end Go.Proofs.Ytgoamkneenmbgaa
