/-
  What the builder's instruction leaves, in whatever memory. No conditions but those that stand there.
-/
import Derived.Test.YtjbhhlhaikmecaaDoorAsmF
namespace Go.Proofs.YtjbhhlhaikmecaaDoor
open Go.RowKit

theorem infoIns : ∃ i, Tryd.prog.info? 35 = some i ∧ i.zero = some (.agg #[.int .i64 0, .int .i64 0, .int .i64 0]) ∧ i.size = 3 ∧ i.bytes = 24 := by
  have h : (Tryd.prog.info? 35).map (fun i => (i.zero, i.size, i.bytes)) = some (some (.agg #[.int .i64 0, .int .i64 0, .int .i64 0]), 3, 24) := by kernel_rfl
  cases hi : Tryd.prog.info? 35 with
  | none => rw [hi] at h; cases h
  | some i =>
    rw [hi] at h
    simp only [Option.map_some, Option.some.injEq, Prod.mk.injEq] at h
    exact ⟨i, rfl, h.1, h.2.1, h.2.2⟩

/-- an instruction that a word begins. -/
def instrP (wd : List Nat) (code : List Ins) (js : List (Nat × List Nat)) (left : List Tok) : Except Nat (List Ins × List (Nat × List Nat) × List Tok) :=
  if ofN wd = 0 then .error 5 else match restP (ofN wd) code.length left js with
    | none => .error 5
    | some (x, l, js') => if 64 < code.length + 1 then .error 4 else .ok (code ++ [x], js', l)

/-- what an instruction leaves. -/
def InsR (w0 w : World) (m g B : Nat) (labs : List (List Nat × Nat)) (r : Except Nat (List Ins × List (Nat × List Nat) × List Tok)) (e : Ending) (w' : World) : Prop :=
  Below m w w' ∧ match r with
    | .error n => e = .returned (.int .i64 (n : Nat))
    | .ok (code, js, left) => e = .returned (.int .i64 0) ∧ ∃ A c vc vj, Bld w0 w' m g B A c vc vj left code js labs

set_option maxRecDepth 100000 in
set_option maxHeartbeats 8000000 in
theorem instruction_any (wd : List Nat) (hwd : byteW wd) (w0 w : World) (m g B : Nat) (A : Option Addr) (c : Nat) (vc vj : Value) (left : List Tok) (code : List Ins) (js : List (Nat × List Nat)) (labs : List (List Nat × Nat)) (h : Bld w0 w m g B A c vc vj left code js labs) (hk : ∀ t ∈ left, okK t) (hjl : js.length ≤ 1048576) (hcl : code.length ≤ 1048576) (hT : HasKinds w) :
    Calls Tryd.prog 43 #[.pointer (some ⟨g, 0, none⟩), .string (strL wd)] w (InsR w0 w m g B labs (instrP wd code js left)) := by
  obtain ⟨i0, hi0, hz0, hz1, hz2⟩ := infoIns
  have hof := Lib.hid (of_any (strL wd) w hT)
  rw [bL_strL wd hwd] at hof
  unfold instrP
  have hmw := h.labs.lt
  have hmg := h.mg
  have hgB := h.gB
  have hge : Hid (∀ k, vj.ownBlock = some k → B ≤ k) := Lib.hid (fun k hk => own_ge h.js hk)
  have h' := Lib.hid h
  by_cases h0 : ofN wd = 0
  · rw [if_pos h0]
    have hof2 := Lib.hid hof.out
    rw [h0] at hof2
    clear hof h h0 hT hge
    go_enter Tryd.func43, Tryd.ntmps43
    go_wp2_with (go_at_call 16; go_must ((with_reducible refine hof2.out.mono ?_); rintro e w1 ⟨rfl, rfl⟩))
    go_ret
    exact ⟨Below.refl _ _, rfl⟩
  · rw [if_neg h0]
    have hre := Lib.hid (rest_any (ofN wd) w0 w m g B A c vc vj left code js labs h hk hjl hT)
    generalize restP (ofN wd) code.length left js = R at *
    have e1 : (ofN wd == 0) = false := by simpa using h0
    generalize ofN wd = op at *
    clear h h0 hT hk
    cases R with
    | none =>
      go_enter Tryd.func43, Tryd.ntmps43
      go_wp2_with (first
        | (go_at_call 16; go_must ((with_reducible refine hof.out.mono ?_); rintro e w1 ⟨rfl, rfl⟩))
        | (go_at_call 55; go_must ((with_reducible refine hre.out.mono ?_); rintro e w1 ⟨hf1, x, rfl⟩; have hs1 := hf1.size)))
      go_ret
      exact ⟨(hf1.below (Nat.le_of_lt hmg) (Nat.le_of_lt hmw) (fun k hk => by have := hge.out k hk; omega)).alloc (by omega) _, rfl⟩
    | some p =>
      obtain ⟨x, left', js'⟩ := p
      have q1 : Hid (code.length + 1 ≤ maxLen) := Lib.hid (by unfold maxLen; omega)
      have q2 : Hid ((code.length + 1) * 24 ≤ 140737488355328) := Lib.hid (by omega)
      obtain ⟨R2, hR2⟩ : ∃ R2 : Except Nat (List Ins × List (Nat × List Nat) × List Tok), R2 = if 64 < code.length + 1 then .error 4 else .ok (code ++ [x], js', left') := ⟨_, rfl⟩
      show Calls _ _ _ _ (InsR w0 w m g B labs (if 64 < code.length + 1 then .error 4 else .ok (code ++ [x], js', left')))
      rw [← hR2]
      rcases Nat.lt_or_ge 64 (code.length + 1) with hm | hm
      · rw [if_pos hm] at hR2
        subst hR2
        have d1 : (64 : Int) < (code.length : Int) + 1 := by omega
        clear hm
        go_enter Tryd.func43, Tryd.ntmps43
        go_wp2_with (first
          | (go_at_call 16; go_must ((with_reducible refine hof.out.mono ?_); rintro e w1 ⟨rfl, rfl⟩))
          | (go_at_call 55; go_must ((with_reducible refine hre.out.mono ?_); rintro e w1 ⟨hf1, rfl, A1, c1, vj1, hB1⟩; have hs1 := hf1.size; have H1 := Lib.hid hB1; obtain ⟨y0, y1, y2, y3, yf⟩ := hB1.bk.four; have hlt := hB1.bk.lt; clear hB1)))
        have hown1 : Hid (((w1.alloc (.cells (insW x).toArray 35)).drew.alloc (.cells (insW x).toArray 35)).ownsRow B 35 3 vc code.length (inssW code)) := Lib.hid ((H1.out.code.alloc _).drew.alloc _)
        have hbk1 : Hid (Bk ((w1.alloc (.cells (insW x).toArray 35)).drew.alloc (.cells (insW x).toArray 35)) g 43 #[.slice A1 left'.length c1, vc, vj1, .map (some m)]) := Lib.hid (((H1.out.bk.alloc _).below (below_drew1 _)).alloc _)
        have hnew : Hid (Bk ((w1.alloc (.cells (insW x).toArray 35)).drew.alloc (.cells (insW x).toArray 35)) (w1.heap.size + 1) 35 (insW x).toArray) := Lib.hid (by
          have := Bk.new (w1.alloc (.cells (insW x).toArray 35)).drew 35 (insW x).toArray
          have e : (w1.alloc (.cells (insW x).toArray 35)).drew.heap.size = w1.heap.size + 1 := World.size_alloc _ _
          rw [e] at this
          exact this)
        have q3 : Hid (B ≤ ((w1.alloc (.cells (insW x).toArray 35)).drew.alloc (.cells (insW x).toArray 35)).heap.size) := Lib.hid (by rw [World.size_alloc]; exact Nat.le_succ_of_le (Nat.le_trans H1.out.le (by show _ ≤ (w1.alloc _).heap.size; rw [World.size_alloc]; omega)))
        go_region_law (first | (refine step_row (by rfl) _ _ _ (by rfl) B 35 i0 _ 3 24 Tryd.underlying23 hi0 hz0 hz1 hz2 rfl (by decide) vc code.length _ (by rfl) hown1.out (w1.heap.size + 1) (insW x).toArray (by rfl) hnew.out rfl rfl q1.out q2.out q3.out ?_; intro gg cap w2 hown2 hgr; have hk2 := hbk1.out.grown hgr (Ne.symm (own_ne hown1.out H1.out.gB)); have s0 := hk2.cell 0; have s1 := hk2.cell 1; have s2 := hk2.cell 2; have hf2 := fun o => hk2.frozen o; simp only [List.getElem?_toArray, List.getElem?_cons_zero, List.getElem?_cons_succ] at s0 s1 s2))
        all_goals
          go_wp2
          go_ret
          obtain ⟨r1, r2⟩ := H1.out.growCode (W := ((w1.alloc (.cells (insW x).toArray 35)).alloc (.cells (insW x).toArray 35)).drew) (((Below.refl _ _).alloc (Nat.le_refl _) _).alloc (by rw [World.size_alloc]; omega) _).drew hgr (code' := code ++ [x]) (by rw [inssW_snoc, List.length_append]; exact hown2)
          have hbl := (hf1.below (Nat.le_of_lt hmg) (Nat.le_of_lt hmw) (fun k hk => by have := hge.out k hk; omega)).trans r2
          first | exact ⟨hbl, rfl⟩ | exact ⟨hbl, rfl, A1, c1, _, vj1, r1⟩
      · rw [if_neg (by omega)] at hR2
        subst hR2
        have d1 : ¬ (64 : Int) < (code.length : Int) + 1 := by omega
        clear hm
        go_enter Tryd.func43, Tryd.ntmps43
        go_wp2_with (first
          | (go_at_call 16; go_must ((with_reducible refine hof.out.mono ?_); rintro e w1 ⟨rfl, rfl⟩))
          | (go_at_call 55; go_must ((with_reducible refine hre.out.mono ?_); rintro e w1 ⟨hf1, rfl, A1, c1, vj1, hB1⟩; have hs1 := hf1.size; have H1 := Lib.hid hB1; obtain ⟨y0, y1, y2, y3, yf⟩ := hB1.bk.four; have hlt := hB1.bk.lt; clear hB1)))
        have hown1 : Hid (((w1.alloc (.cells (insW x).toArray 35)).drew.alloc (.cells (insW x).toArray 35)).ownsRow B 35 3 vc code.length (inssW code)) := Lib.hid ((H1.out.code.alloc _).drew.alloc _)
        have hbk1 : Hid (Bk ((w1.alloc (.cells (insW x).toArray 35)).drew.alloc (.cells (insW x).toArray 35)) g 43 #[.slice A1 left'.length c1, vc, vj1, .map (some m)]) := Lib.hid (((H1.out.bk.alloc _).below (below_drew1 _)).alloc _)
        have hnew : Hid (Bk ((w1.alloc (.cells (insW x).toArray 35)).drew.alloc (.cells (insW x).toArray 35)) (w1.heap.size + 1) 35 (insW x).toArray) := Lib.hid (by
          have := Bk.new (w1.alloc (.cells (insW x).toArray 35)).drew 35 (insW x).toArray
          have e : (w1.alloc (.cells (insW x).toArray 35)).drew.heap.size = w1.heap.size + 1 := World.size_alloc _ _
          rw [e] at this
          exact this)
        have q3 : Hid (B ≤ ((w1.alloc (.cells (insW x).toArray 35)).drew.alloc (.cells (insW x).toArray 35)).heap.size) := Lib.hid (by rw [World.size_alloc]; exact Nat.le_succ_of_le (Nat.le_trans H1.out.le (by show _ ≤ (w1.alloc _).heap.size; rw [World.size_alloc]; omega)))
        go_region_law (first | (refine step_row (by rfl) _ _ _ (by rfl) B 35 i0 _ 3 24 Tryd.underlying23 hi0 hz0 hz1 hz2 rfl (by decide) vc code.length _ (by rfl) hown1.out (w1.heap.size + 1) (insW x).toArray (by rfl) hnew.out rfl rfl q1.out q2.out q3.out ?_; intro gg cap w2 hown2 hgr; have hk2 := hbk1.out.grown hgr (Ne.symm (own_ne hown1.out H1.out.gB)); have s0 := hk2.cell 0; have s1 := hk2.cell 1; have s2 := hk2.cell 2; have hf2 := fun o => hk2.frozen o; simp only [List.getElem?_toArray, List.getElem?_cons_zero, List.getElem?_cons_succ] at s0 s1 s2))
        all_goals
          go_wp2
          go_ret
          obtain ⟨r1, r2⟩ := H1.out.growCode (W := ((w1.alloc (.cells (insW x).toArray 35)).alloc (.cells (insW x).toArray 35)).drew) (((Below.refl _ _).alloc (Nat.le_refl _) _).alloc (by rw [World.size_alloc]; omega) _).drew hgr (code' := code ++ [x]) (by rw [inssW_snoc, List.length_append]; exact hown2)
          have hbl := (hf1.below (Nat.le_of_lt hmg) (Nat.le_of_lt hmw) (fun k hk => by have := hge.out k hk; omega)).trans r2
          first | exact ⟨hbl, rfl⟩ | exact ⟨hbl, rfl, A1, c1, _, vj1, r1⟩

end Go.Proofs.YtjbhhlhaikmecaaDoor
