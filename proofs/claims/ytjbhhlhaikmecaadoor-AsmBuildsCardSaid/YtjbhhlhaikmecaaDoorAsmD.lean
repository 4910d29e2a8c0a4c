/-
  What the builder's target leaves, in whatever memory. No conditions but those that stand there.
-/
import Derived.Test.YtjbhhlhaikmecaaDoorAsmC
namespace Go.Proofs.YtjbhhlhaikmecaaDoor
open Go.RowKit

theorem next_is (v : Value) (w0 w : World) (m g B : Nat) (A : Option Addr) (c : Nat) (vc vj : Value) (t : Tok) (left : List Tok) (code : List Ins) (js : List (Nat × List Nat)) (labs : List (List Nat × Nat)) (h : Bld w0 w m g B A c vc vj (t :: left) code js labs) (ht : t.kind = 1 ∨ t.kind = 2 ∨ t.kind = 3) (hv : anyT t = v) :
    Calls Tryd.prog 41 #[.pointer (some ⟨g, 0, none⟩)] w fun e w' => e = .returned v ∧ (∃ A' c', Bld w0 w' m g B A' c' vc vj left code js labs) ∧ But g w w' := by
  subst hv
  exact next_some w0 w m g B A c vc vj t left code js labs h ht

/-- All but block g, and the row that v owns, is as it was; new blocks may be there. -/
structure Fr (g : Nat) (v : Value) (w w' : World) : Prop where
  os : w'.os = w.os
  tape : w'.tape = w.tape
  output : w'.output = w.output
  size : w.heap.size ≤ w'.heap.size
  block : ∀ k, k < w.heap.size → k ≠ g → v.ownBlock ≠ some k → w'.heap[k]? = w.heap[k]?

theorem Fr.of_but {g : Nat} {v : Value} {w w' : World} (h : But g w w') : Fr g v w w' := ⟨h.os, h.tape, h.output, h.size, fun k hk hg _ => h.block k hk hg⟩
theorem Fr.trans {g : Nat} {v : Value} {a b c : World} (h : Fr g v a b) (k : Fr g v b c) : Fr g v a c :=
  ⟨k.os.trans h.os, k.tape.trans h.tape, k.output.trans h.output, Nat.le_trans h.size k.size, fun i hi hg hv => (k.block i (Nat.lt_of_lt_of_le hi h.size) hg hv).trans (h.block i hi hg hv)⟩
theorem Fr.of_grown {g : Nat} {v : Value} {w w' : World} (h : w.grownBy w' v.ownBlock) : Fr g v w w' := by
  have hb := (Below.refl 0 w).grown h (Nat.zero_le _) (fun _ _ => Nat.zero_le _)
  exact ⟨hb.os, hb.tape, hb.output, hb.size, fun k hk _ hv => h.block k hk (Ne.symm hv)⟩
theorem Fr.below {g B : Nat} {v : Value} {w w' : World} (h : Fr g v w w') (hg : B ≤ g) (hB : B ≤ w.heap.size) (hv : ∀ k, v.ownBlock = some k → B ≤ k) : Below B w w' :=
  ⟨h.os, h.tape, h.output, h.size, fun k hk => h.block k (by omega) (by omega) (fun e => by have := hv k e; omega)⟩

set_option maxRecDepth 100000 in
theorem target_none (w0 w : World) (m g B : Nat) (A : Option Addr) (c : Nat) (vc vj : Value) (code : List Ins) (js : List (Nat × List Nat)) (labs : List (List Nat × Nat)) (h : Bld w0 w m g B A c vc vj [] code js labs) :
    Calls Tryd.prog 58 #[.pointer (some ⟨g, 0, none⟩)] w fun e w' => e = .returned (.bool false) ∧ But g w w' := by
  have hn := Lib.hid (next_none w0 w m g B A c vc vj code js labs h)
  have a1 := asW_nil
  clear h
  go_enter Tryd.func58, Tryd.ntmps58
  go_wp2_with (go_at_call 41; go_must ((with_reducible refine hn.out.mono ?_); rintro e w1 ⟨rfl, rfl⟩))
  go_ret
  exact ⟨rfl, But.refl _ _⟩

set_option maxRecDepth 100000 in
theorem target_other (w0 w : World) (m g B : Nat) (A : Option Addr) (c : Nat) (vc vj : Value) (t : Tok) (left : List Tok) (code : List Ins) (js : List (Nat × List Nat)) (labs : List (List Nat × Nat)) (h : Bld w0 w m g B A c vc vj (t :: left) code js labs) (ht : t.kind = 2 ∨ t.kind = 3) :
    Calls Tryd.prog 58 #[.pointer (some ⟨g, 0, none⟩)] w fun e w' => e = .returned (.bool false) ∧ But g w w' := by
  rcases ht with ht | ht
  · have hn := Lib.hid (next_is (.iface 90 (.int .i64 t.n)) w0 w m g B A c vc vj t left code js labs h (.inr (.inl ht)) (by simp [anyT, ht]))
    have a1 := asW_N
    have a2 := asW_L
    clear h ht
    go_enter Tryd.func58, Tryd.ntmps58
    go_wp2_with (go_at_call 41; go_must ((with_reducible refine hn.out.mono ?_); rintro e w1 ⟨rfl, -, hb1⟩))
    go_ret
    exact ⟨rfl, hb1⟩
  · have hn := Lib.hid (next_is (.iface 73 (.string (strL t.word))) w0 w m g B A c vc vj t left code js labs h (.inr (.inr ht)) (by simp [anyT, ht]))
    have a1 := asW_N
    have a2 := asW_L
    clear h ht
    go_enter Tryd.func58, Tryd.ntmps58
    go_wp2_with (go_at_call 41; go_must ((with_reducible refine hn.out.mono ?_); rintro e w1 ⟨rfl, -, hb1⟩))
    go_ret
    exact ⟨rfl, hb1⟩

/-- the builder with a jump more. -/
theorem Bld.growJs {w0 w1 W w2 : World} {m g B : Nat} {A : Option Addr} {c : Nat} {vc vj : Value} {left : List Tok} {code : List Ins} {js : List (Nat × List Nat)} {labs : List (List Nat × Nat)} (h : Bld w0 w1 m g B A c vc vj left code js labs) (hW : Below w1.heap.size w1 W) (hgr : W.grownBy w2 vj.ownBlock) {v : Value} {js' : List (Nat × List Nat)} (ho : w2.ownsRow B 78 2 v js'.length (jmpsW js')) :
    Bld w0 (w2.setCell ⟨g, 2, none⟩ v) m g B A c vc v left code js' labs ∧ Below m w1 (w2.setCell ⟨g, 2, none⟩ v) := by
  have hK := h.kept hW
  have hmg := h.mg
  have hgB := h.gB
  have hge : ∀ k, vj.ownBlock = some k → B ≤ k := fun k hk => own_ge hK.js hk
  have hm : m < W.heap.size := hK.labs.lt
  have hne : vj.ownBlock ≠ some m := fun e => by have := hge m e; omega
  refine ⟨⟨?_, hK.toks, own_setCell (own_grown hK.code hgr (fun k hk e => own_apart hK.code hK.js (by decide) k hk e)) hgB _ _, own_setCell ho hgB _ _, ?_, ?_, hK.wm, hK.mg, hK.gB, ?_⟩, ?_⟩
  · have := (hK.bk.grown hgr (fun e => by have := hge g e.symm; omega)).set 2 v
    simpa using this
  · exact hK.labs.heap ((Below.heap_setCell w2 ⟨g, 2, none⟩ v m (by simp; omega)).trans (hgr.block m hm (Ne.symm hne)))
  · exact (hK.old.grown hgr (Nat.le_of_lt hm) (fun k hk => by have := hge k hk; omega)).setCell (by simp; omega) _
  · simpa using Nat.le_trans hK.le hgr.size
  · exact ((hW.mono (Nat.le_of_lt h.labs.lt)).grown hgr (Nat.le_of_lt hm) (fun k hk => by have := hge k hk; omega)).setCell (by simp; omega) _

/-- the builder with an instruction more. -/
theorem Bld.growCode {w0 w1 W w2 : World} {m g B : Nat} {A : Option Addr} {c : Nat} {vc vj : Value} {left : List Tok} {code : List Ins} {js : List (Nat × List Nat)} {labs : List (List Nat × Nat)} (h : Bld w0 w1 m g B A c vc vj left code js labs) (hW : Below w1.heap.size w1 W) (hgr : W.grownBy w2 vc.ownBlock) {v : Value} {code' : List Ins} (ho : w2.ownsRow B 35 3 v code'.length (inssW code')) :
    Bld w0 (w2.setCell ⟨g, 1, none⟩ v) m g B A c v vj left code' js labs ∧ Below m w1 (w2.setCell ⟨g, 1, none⟩ v) := by
  have hK := h.kept hW
  have hmg := h.mg
  have hgB := h.gB
  have hge : ∀ k, vc.ownBlock = some k → B ≤ k := fun k hk => own_ge hK.code hk
  have hm : m < W.heap.size := hK.labs.lt
  have hne : vc.ownBlock ≠ some m := fun e => by have := hge m e; omega
  refine ⟨⟨?_, hK.toks, own_setCell ho hgB _ _, own_setCell (own_grown hK.js hgr (fun k hk e => own_apart hK.js hK.code (by decide) k hk e)) hgB _ _, ?_, ?_, hK.wm, hK.mg, hK.gB, ?_⟩, ?_⟩
  · have := (hK.bk.grown hgr (fun e => by have := hge g e.symm; omega)).set 1 v
    simpa using this
  · exact hK.labs.heap ((Below.heap_setCell w2 ⟨g, 1, none⟩ v m (by simp; omega)).trans (hgr.block m hm (Ne.symm hne)))
  · exact (hK.old.grown hgr (Nat.le_of_lt hm) (fun k hk => by have := hge k hk; omega)).setCell (by simp; omega) _
  · simpa using Nat.le_trans hK.le hgr.size
  · exact ((hW.mono (Nat.le_of_lt h.labs.lt)).grown hgr (Nat.le_of_lt hm) (fun k hk => by have := hge k hk; omega)).setCell (by simp; omega) _

theorem infoJmp : ∃ i, Tryd.prog.info? 78 = some i ∧ i.zero = some (.agg #[.int .i64 0, .string ByteArray.empty]) ∧ i.size = 2 ∧ i.bytes = 24 := by
  have h : (Tryd.prog.info? 78).map (fun i => (i.zero, i.size, i.bytes)) = some (some (.agg #[.int .i64 0, .string ByteArray.empty]), 2, 24) := by kernel_rfl
  cases hi : Tryd.prog.info? 78 with
  | none => rw [hi] at h; cases h
  | some i =>
    rw [hi] at h
    simp only [Option.map_some, Option.some.injEq, Prod.mk.injEq] at h
    exact ⟨i, rfl, h.1, h.2.1, h.2.2⟩

set_option maxRecDepth 100000 in
set_option maxHeartbeats 4000000 in
theorem target_word (w0 w : World) (m g B : Nat) (A : Option Addr) (c : Nat) (vc vj : Value) (t : Tok) (left : List Tok) (code : List Ins) (js : List (Nat × List Nat)) (labs : List (List Nat × Nat)) (h : Bld w0 w m g B A c vc vj (t :: left) code js labs) (ht : t.kind = 1) (hjl : js.length ≤ 1048576) :
    Calls Tryd.prog 58 #[.pointer (some ⟨g, 0, none⟩)] w fun e w' => e = .returned (.bool true) ∧ (∃ A' c' vj', Bld w0 w' m g B A' c' vc vj' left code (js ++ [(code.length, t.word)]) labs) ∧ Fr g vj w w' := by
  obtain ⟨i0, hi0, hz0, hz1, hz2⟩ := infoJmp
  obtain ⟨Ac, cc, rfl, hsl⟩ := Sl.own h.code
  have hn := Lib.hid (next_is (.iface 75 (.string (strL t.word))) w0 w m g B A c _ vj t left code js labs h (.inl ht) (by simp [anyT, ht]))
  have a1 := asW_W
  clear h ht hsl
  generalize t.word = wd at *
  have q1 : Hid (js.length + 1 ≤ maxLen) := Lib.hid (by unfold maxLen; omega)
  have q2 : Hid ((js.length + 1) * 24 ≤ 140737488355328) := Lib.hid (by omega)
  go_enter Tryd.func58, Tryd.ntmps58
  go_wp2_with (go_at_call 41; go_must ((with_reducible refine hn.out.mono ?_); rintro e w1 ⟨rfl, ⟨A1, ca, k1⟩, hb1⟩; have h1 := Lib.hid k1; obtain ⟨c0, c1, c2, c3, hf⟩ := k1.bk.four; have hlt := k1.bk.lt; clear k1 hn))
  have hown1 : Hid ((w1.drew.alloc (.cells #[.int .i64 (code.length : Nat), .string (strL wd)] 78)).ownsRow B 78 2 vj js.length (jmpsW js)) := Lib.hid (h1.out.js.drew.alloc _)
  have hbk1 : Hid (Bk (w1.drew.alloc (.cells #[.int .i64 (code.length : Nat), .string (strL wd)] 78)) g 43 #[.slice A1 left.length ca, .slice Ac code.length cc, vj, .map (some m)]) := Lib.hid ((h1.out.bk.below (below_drew1 w1)).alloc _)
  have hnew : Hid (Bk (w1.drew.alloc (.cells #[.int .i64 (code.length : Nat), .string (strL wd)] 78)) w1.heap.size 78 #[.int .i64 (code.length : Nat), .string (strL wd)]) := Lib.hid (Bk.new w1.drew _ _)
  have q3 : Hid (B ≤ (w1.drew.alloc (.cells #[.int .i64 (code.length : Nat), .string (strL wd)] 78)).heap.size) := Lib.hid (by rw [World.size_alloc]; exact Nat.le_succ_of_le h1.out.le)
  go_region_law (first | (refine step_row (by rfl) _ _ _ (by rfl) B 78 i0 _ 2 24 Tryd.underlying41 hi0 hz0 hz1 hz2 rfl (by decide) vj js.length _ (by rfl) hown1.out w1.heap.size #[.int .i64 (code.length : Nat), .string (strL wd)] (by rfl) hnew.out rfl rfl q1.out q2.out q3.out ?_; intro gg cap w2 hown2 hgr; have hk2 := hbk1.out.grown hgr (Ne.symm (own_ne hown1.out h1.out.gB)); have s0 := hk2.cell 0; have s1 := hk2.cell 1; have s2 := hk2.cell 2; have hf1 := fun o => hk2.frozen o; simp only [List.getElem?_toArray, List.getElem?_cons_zero, List.getElem?_cons_succ] at s0 s1 s2))
  all_goals
    go_wp2
    go_ret
    obtain ⟨r1, -⟩ := h1.out.growJs (W := (w1.alloc (.cells #[.int .i64 (code.length : Nat), .string (strL wd)] 78)).drew) ((Below.refl _ _).alloc (Nat.le_refl _) _).drew hgr (js' := js ++ [(code.length, wd)]) (by rw [jmpsW_snoc, List.length_append]; exact hown2)
    exact ⟨rfl, ⟨A1, ca, _, r1⟩, (((Fr.of_but hb1).trans (Fr.of_but (But.of_below ((Below.refl _ _).alloc (Nat.le_refl _) _).drew))).trans (Fr.of_grown hgr)).trans (Fr.of_but (But.set _ _ _))⟩
end Go.Proofs.YtjbhhlhaikmecaaDoor
