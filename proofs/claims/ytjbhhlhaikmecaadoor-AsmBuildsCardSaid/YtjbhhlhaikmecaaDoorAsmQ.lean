/-
  Instructions told as a text are built again, on plain numbers. No conditions but those that stand there.
-/
import Derived.Test.YtjbhhlhaikmecaaDoorAsmP
namespace Go.Proofs.YtjbhhlhaikmecaaDoor

theorem fold_textT : ∀ (l : List (Tok × Nat)) (out : List Tok), (∀ p ∈ l, okTok p.1 ∧ isBlank p.2) → foldS (out, .gap) (textT l) = (out ++ l.map (·.1), .gap)
  | [], out, _ => by simp [textT, foldS_nil]
  | p :: l, out, h => by
    obtain ⟨h1, h2⟩ := h p (by simp)
    rw [show textT (p :: l) = (textOf p.1 ++ [p.2]) ++ textT l from List.flatMap_cons, foldS_append, fold_text out h1 h2, fold_textT l _ (fun q hq => h q (by simp [hq]))]
    simp

theorem split_textT {l : List (Tok × Nat)} (h : ∀ p ∈ l, okTok p.1 ∧ isBlank p.2) : splitN (textT l) = some (l.map (·.1)) := by
  rw [splitN, fold_textT l [] h]
  rfl

theorem label_letters {n : Nat} (h : n ≤ 64) : labelN n ≠ [] ∧ ∀ c ∈ labelN n, isLetter c := by
  refine ⟨by simp [labelN], ?_⟩
  intro c hc
  simp only [labelN, List.mem_cons, List.not_mem_nil, or_false] at hc
  unfold isLetter
  omega

theorem label_inj {m n : Nat} (h : labelN m = labelN n) : m = n := by
  simp only [labelN, List.cons.injEq, and_true, true_and] at h
  omega

theorem mark_ok (l : List Ins) {i : Nat} (hi : i ≤ 64) : ∀ p ∈ markT l i, okTok p.1 ∧ isBlank p.2 := by
  intro p hp
  rw [markT] at hp
  split at hp
  · rw [List.mem_singleton.1 hp]
    exact ⟨okTok_label (label_letters hi), .inr (.inl rfl)⟩
  · cases hp

theorem line_ok {l : List Ins} (h : tellable l) {i : Nat} (hi : i < l.length) : ∀ p ∈ lineT i (insAt l i), okTok p.1 ∧ isBlank p.2 := by
  have h64 := h.len
  obtain ⟨hop, _, _, ha, hb⟩ := h.good i hi
  have hj := h.jump i hi
  have hw := okTok_word (word_letters hop)
  have b32 : isBlank 32 := .inl rfl
  have b10 : isBlank 10 := .inr (.inl rfl)
  intro p hp
  rw [lineT] at hp
  split at hp
  · rename_i hjm
    have hj' := hj hjm
    simp only [List.mem_cons, List.not_mem_nil, or_false] at hp
    rcases hp with rfl | rfl
    · exact ⟨hw, b32⟩
    · exact ⟨okTok_word (label_letters (by omega)), b10⟩
  · split at hp
    · simp only [List.mem_cons, List.not_mem_nil, or_false] at hp
      rcases hp with rfl | rfl | rfl
      · exact ⟨hw, b32⟩
      · exact ⟨.inl ⟨rfl, rfl, ha⟩, b32⟩
      · exact ⟨.inl ⟨rfl, rfl, hb⟩, b10⟩
    · split at hp
      · simp only [List.mem_cons, List.not_mem_nil, or_false] at hp
        rcases hp with rfl | rfl
        · exact ⟨hw, b32⟩
        · exact ⟨.inl ⟨rfl, rfl, ha⟩, b10⟩
      · simp only [List.mem_cons, List.not_mem_nil, or_false] at hp
        rcases hp with rfl
        exact ⟨hw, b10⟩

theorem tell_ok {l : List Ins} (h : tellable l) : ∀ p ∈ tellT l, okTok p.1 ∧ isBlank p.2 := by
  intro p hp
  rcases List.mem_append.1 hp with hp | hp
  · obtain ⟨i, hi, hp⟩ := List.mem_flatMap.1 hp
    have hi' : i < l.length := by simpa using hi
    rcases List.mem_append.1 hp with hp | hp
    · exact mark_ok l (by have := h.len; omega) p hp
    · exact line_ok h hi' p hp
  · exact mark_ok l h.len p hp

theorem split_tell {l : List Ins} (h : tellable l) : splitN (tellN l) = some ((tellT l).map (·.1)) := split_textT (tell_ok h)

/-! ### built again -/
def outsN (l : List Ins) (n : Nat) : List Ins := (List.range n).map fun i => if jumpsN (insAt l i).op then ⟨(insAt l i).op, 0, 0⟩ else insAt l i
def goalsN (l : List Ins) (n : Nat) : List (List Nat) := (List.range n).map fun i => if jumpsN (insAt l i).op then labelN ((i : Int) + 1 + (insAt l i).a).toNat else []
def labsN (l : List Ins) (n : Nat) : List (List Nat × Nat) := (List.range n).flatMap fun i => if aimAt l i then [(labelN i, i)] else []

theorem labsN_succ (l : List Ins) (n : Nat) : labsN l (n + 1) = labsN l n ++ if aimAt l n then [(labelN n, n)] else [] := by
  simp [labsN, List.range_succ]
theorem outsN_succ (l : List Ins) (n : Nat) : outsN l (n + 1) = outsN l n ++ [if jumpsN (insAt l n).op then ⟨(insAt l n).op, 0, 0⟩ else insAt l n] := by
  simp [outsN, List.range_succ]
theorem goalsN_succ (l : List Ins) (n : Nat) : goalsN l (n + 1) = goalsN l n ++ [if jumpsN (insAt l n).op then labelN ((n : Int) + 1 + (insAt l n).a).toNat else []] := by
  simp [goalsN, List.range_succ]
theorem upToT_succ (l : List Ins) (n : Nat) : upToT l (n + 1) = upToT l n ++ (markT l n ++ lineT n (insAt l n)) := by
  simp [upToT, List.range_succ]
theorem outsN_length (l : List Ins) (n : Nat) : (outsN l n).length = n := by simp [outsN]

theorem labs_mem {l : List Ins} {n : Nat} {w : List Nat} (h : w ∈ (labsN l n).map (·.1)) : ∃ i, i < n ∧ w = labelN i := by
  obtain ⟨p, hp, rfl⟩ := List.mem_map.1 h
  obtain ⟨i, hi, hp⟩ := List.mem_flatMap.1 hp
  split at hp
  · rw [List.mem_singleton.1 hp]
    exact ⟨i, by simpa using hi, rfl⟩
  · cases hp

theorem step_mark (l : List Ins) (n : Nat) : foldB ⟨outsN l n, goalsN l n, labsN l n, .ready⟩ ((markT l n).map (·.1)) = ⟨outsN l n, goalsN l n, labsN l (n + 1), .ready⟩ := by
  rw [markT, labsN_succ]
  split
  · rw [List.map_cons, List.map_nil, foldB_cons, foldB_nil, stepB]
    simp only
    rw [if_pos trivial, if_neg, outsN_length]
    intro hm
    obtain ⟨i, hi, he⟩ := labs_mem hm
    have := label_inj he
    omega
  · simp [foldB_nil]

theorem takes_jump {op : Int} (h : jumpsN op) : takesN op = 1 := by
  unfold jumpsN at h
  unfold takesN
  rw [if_neg (by omega), if_pos (by omega)]

theorem takes_le (op : Int) : takesN op ≤ 2 := by
  unfold takesN
  split
  · omega
  · split <;> omega

theorem pushB_room {x : BS} {i : Ins} {g : List Nat} (h : x.out.length < 64) : pushB x i g = ⟨x.out ++ [i], x.goals ++ [g], x.labs, .ready⟩ := by
  rw [pushB, if_neg (by omega)]

theorem ready_word {x : BS} {op : Int} (hm : x.mode = .ready) (hop : 1 ≤ op ∧ op ≤ 17) : stepB x ⟨1, wordN op, 0⟩ = if takesN op = 0 then pushB x ⟨op, 0, 0⟩ [] else { x with mode := .want op } := by
  unfold stepB
  rw [hm]
  simp only
  rw [of_word hop, if_neg (by decide), if_neg (by simp; omega)]

theorem step_line {l : List Ins} (h : tellable l) {n : Nat} (hn : n < l.length) (labs : List (List Nat × Nat)) :
    foldB ⟨outsN l n, goalsN l n, labs, .ready⟩ ((lineT n (insAt l n)).map (·.1)) = ⟨outsN l (n + 1), goalsN l (n + 1), labs, .ready⟩ := by
  have h64 := h.len
  obtain ⟨hop, hA, hB, _, _⟩ := h.good n hn
  have hroom : (outsN l n).length < 64 := by rw [outsN_length]; omega
  clear h
  have htl := takes_le (insAt l n).op
  rw [outsN_succ, goalsN_succ]
  generalize insAt l n = x at *
  obtain ⟨op, a, b⟩ := x
  simp only at hop hA hB htl ⊢
  rw [lineT]
  by_cases hj : jumpsN op
  · have ht := takes_jump hj
    rw [if_pos hj, if_pos hj, if_pos hj, List.map_cons, List.map_cons, List.map_nil, foldB_cons, foldB_cons, foldB_nil, ready_word rfl hop, if_neg (by omega), stepB]
    simp only
    rw [if_pos hj, if_pos trivial, pushB_room hroom]
  · rw [if_neg hj, if_neg hj, if_neg hj]
    rcases (show takesN op = 2 ∨ takesN op = 1 ∨ takesN op = 0 by omega) with ht | ht | ht
    · rw [if_pos ht, List.map_cons, List.map_cons, List.map_cons, List.map_nil, foldB_cons, foldB_cons, foldB_cons, foldB_nil, ready_word rfl hop, if_neg (by omega)]
      unfold stepB
      simp only
      rw [if_neg hj, if_neg (by decide), if_neg (by omega)]
      simp only
      rw [if_neg (by decide), pushB_room hroom]
    · rw [if_neg (show ¬ takesN op = 2 by omega), if_pos ht, List.map_cons, List.map_cons, List.map_nil, foldB_cons, foldB_cons, foldB_nil, ready_word rfl hop, if_neg (by omega)]
      unfold stepB
      simp only
      rw [if_neg hj, if_neg (by decide), if_pos ht, pushB_room hroom, hB (by omega)]
    · rw [if_neg (show ¬ takesN op = 2 by omega), if_neg (show ¬ takesN op = 1 by omega), List.map_cons, List.map_nil, foldB_cons, foldB_nil, ready_word rfl hop, if_pos ht, pushB_room hroom, hA (by omega), hB (by omega)]

theorem fold_upTo {l : List Ins} (h : tellable l) : ∀ n, n ≤ l.length → foldB emptyB ((upToT l n).map (·.1)) = ⟨outsN l n, goalsN l n, labsN l n, .ready⟩
  | 0, _ => rfl
  | n + 1, hn => by
    rw [upToT_succ, List.map_append, List.map_append, foldB_append, foldB_append, fold_upTo h n (by omega), step_mark, step_line h (by omega)]

theorem fold_tell {l : List Ins} (h : tellable l) : foldB emptyB ((tellT l).map (·.1)) = ⟨outsN l l.length, goalsN l l.length, labsN l (l.length + 1), .ready⟩ := by
  rw [tellT, List.map_append, foldB_append, fold_upTo h _ (Nat.le_refl _), step_mark]

theorem where_labs (l : List Ins) (j : Nat) : ∀ n, whereN (labsN l n) (labelN j) = if j < n ∧ aimAt l j then (j : Int) else -1
  | 0 => by simp [labsN, whereN]
  | n + 1 => by
    have ih := where_labs l j n
    rw [labsN_succ]
    unfold whereN at ih ⊢
    rw [List.foldl_append, ih]
    by_cases ha : aimAt l n
    · rw [if_pos ha, List.foldl_cons, List.foldl_nil]
      simp only
      by_cases hjn : j = n
      · subst hjn
        rw [if_pos rfl, if_pos ⟨by omega, ha⟩]
      · rw [if_neg (fun e => hjn (label_inj e).symm)]
        by_cases hc : j < n ∧ aimAt l j
        · rw [if_pos hc, if_pos ⟨by omega, hc.2⟩]
        · rw [if_neg hc, if_neg (fun e => hc ⟨by omega, e.2⟩)]
    · rw [if_neg ha, List.foldl_nil]
      by_cases hc : j < n ∧ aimAt l j
      · rw [if_pos hc, if_pos ⟨by omega, hc.2⟩]
      · rw [if_neg hc, if_neg (fun e => hc ⟨by
          rcases Nat.lt_or_ge j n with h | h
          · exact h
          · obtain rfl : j = n := by omega
            exact absurd e.2 ha, e.2⟩)]

theorem built_again {l : List Ins} (h : tellable l) : buildT ((tellT l).map (·.1)) = .ok l := by
  rw [buildT, fold_tell h, finB]
  simp only
  have hout : ∀ i, i < l.length → insAt (outsN l l.length) i = if jumpsN (insAt l i).op then ⟨(insAt l i).op, 0, 0⟩ else insAt l i := by
    intro i hi
    simp [insAt, outsN, hi]
  have hop : ∀ i, i < l.length → (insAt (outsN l l.length) i).op = (insAt l i).op := by
    intro i hi
    rw [hout i hi]
    split <;> rfl
  have hgoal : ∀ i, i < l.length → jumpsN (insAt l i).op → (goalsN l l.length)[i]?.getD [] = labelN ((i : Int) + 1 + (insAt l i).a).toNat := by
    intro i hi hj
    simp [goalsN, hi, hj]
  have hwh : ∀ i, i < l.length → jumpsN (insAt l i).op → whereN (labsN l (l.length + 1)) ((goalsN l l.length)[i]?.getD []) = (i : Int) + 1 + (insAt l i).a := by
    intro i hi hj
    have hb := h.jump i hi hj
    rw [hgoal i hi hj, where_labs, if_pos]
    · omega
    · refine ⟨by omega, i, by omega, hi, hj, by omega⟩
  rw [if_pos]
  · congr 1
    rw [outsN_length]
    apply List.ext_getElem?
    intro i
    by_cases hi : i < l.length
    · rw [List.getElem?_map, List.getElem?_range hi]
      simp only [Option.map_some]
      rw [aimed, hop i hi, hout i hi]
      have hx : l[i]? = some (insAt l i) := by simp [insAt, hi]
      rw [hx]
      by_cases hj : jumpsN (insAt l i).op
      · rw [if_pos hj, hwh i hi hj, if_pos hj]
        have hb := (h.good i hi).noB (by rw [takes_jump hj]; omega)
        congr 1
        generalize hz : insAt l i = z at *
        obtain ⟨op, a, b⟩ := z
        simp only at hb ⊢
        subst hb
        congr 1
        omega
      · rw [if_neg hj, if_neg hj]
    · rw [List.getElem?_eq_none (by simp; omega), List.getElem?_eq_none (by omega)]
  · intro i hi hj
    rw [outsN_length] at hi
    rw [hop i hi] at hj
    have hb := h.jump i hi hj
    rw [hwh i hi hj]
    omega

end Go.Proofs.YtjbhhlhaikmecaaDoor
