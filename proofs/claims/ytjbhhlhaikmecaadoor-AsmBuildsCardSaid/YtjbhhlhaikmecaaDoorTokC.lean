/-
  What the reader's addWord leaves, in whatever memory. No conditions but those that stand there.
-/
import Derived.Test.YtjbhhlhaikmecaaDoorTokB
import Derived.BigRegion
namespace Go.Proofs.YtjbhhlhaikmecaaDoor
open Go.RowKit

set_option maxHeartbeats 4000000 in
theorem addWord_any (B g : Nat) (vt vw : Value) (p sg sz : Int) (kind : Nat) (out : List Tok) (word : List Nat) (w : World) (hk : Rdr w B g vt vw p sg sz out word) (h0 : 0 < word.length) (hn : out.length ≤ 1048576) :
    Calls Tryd.prog 49 #[.pointer (some ⟨g, 0, none⟩), .int .i64 (kind : Nat)] w
      fun e w' => e = .returned (.tuple #[]) ∧ (∃ vt' vw', Rdr w' B g vt' vw' 0 sg sz (out ++ [⟨kind, word, 0⟩]) []) ∧ Bt B g w w' := by
  obtain ⟨i0, hi0, hz0, hz1, hz2⟩ := infoTok
  obtain ⟨hh, cw, rfl, hB, hlw⟩ := hk.word.form h0
  obtain ⟨c0, c1, c2, c3, c4, hf⟩ := hk.bk.five
  have hlt := hk.bk.lt
  have hk' := Lib.hid hk
  clear hk
  have hcv := conv_own hk'.out.word.drew h0
  have hcw : word.length ≤ cw := by
    rcases hk'.out.word.2 with ⟨h, _⟩ | ⟨_, _, _, h, _, _, h2, _⟩
    · cases h
    · injection h with _ _ h3; omega
  have hown1 : Hid ((w.drew.alloc (.cells #[.int .i64 (kind : Nat), .string (strL word), .int .i64 0] 48)).ownsRow B 48 3 vt out.length (toksV out)) := Lib.hid (hk'.out.toks.drew.alloc _)
  have hbk1 : Hid (Bk (w.drew.alloc (.cells #[.int .i64 (kind : Nat), .string (strL word), .int .i64 0] 48)) g 70 #[vt, .int .i64 p, .slice (some ⟨hh, 0, none⟩) word.length cw, .int .i64 sg, .int .i64 sz]) := Lib.hid ((hk'.out.bk.below (below_drew1 w)).alloc _)
  have hwd1 : Hid ((w.drew.alloc (.cells #[.int .i64 (kind : Nat), .string (strL word), .int .i64 0] 48)).ownsRow B 5 1 (.slice (some ⟨hh, 0, none⟩) word.length cw) word.length (u8s word)) := Lib.hid (hk'.out.word.drew.alloc _)
  have hnew : Hid (Bk (w.drew.alloc (.cells #[.int .i64 (kind : Nat), .string (strL word), .int .i64 0] 48)) w.heap.size 48 #[.int .i64 (kind : Nat), .string (strL word), .int .i64 0]) := Lib.hid (Bk.new w.drew _ _)
  have q1 : Hid (out.length + 1 ≤ maxLen) := Lib.hid (by unfold maxLen; omega)
  have q2 : Hid ((out.length + 1) * 32 ≤ 140737488355328) := Lib.hid (by omega)
  have q3 : Hid (B ≤ (w.drew.alloc (.cells #[.int .i64 (kind : Nat), .string (strL word), .int .i64 0] 48)).heap.size) := Lib.hid (by rw [World.size_alloc]; exact Nat.le_succ_of_le hk'.out.le)
  go_enter Tryd.func49, Tryd.ntmps49
  go_wp2
  go_region_law (first | (refine step_row (by rfl) _ _ _ (by rfl) B 48 i0 _ 3 32 Tryd.underlying36 hi0 hz0 hz1 hz2 rfl (by decide) vt out.length _ (by rfl) hown1.out w.heap.size #[.int .i64 (kind : Nat), .string (strL word), .int .i64 0] (by rfl) hnew.out rfl rfl q1.out q2.out q3.out ?_; intro gg cap w1 hown2 hgr; have hk2 := hbk1.out.grown hgr (Ne.symm (own_ne hown1.out hk'.out.lt)); have s0 := hk2.cell 0; have s1 := hk2.cell 1; have s2 := hk2.cell 2; have hf1 := fun o => hk2.frozen o; simp only [List.getElem?_toArray, List.getElem?_cons_zero, List.getElem?_cons_succ] at s0 s1 s2))
  all_goals
    go_wp2
    go_region
    all_goals
      go_wp2
      go_end0
      have hk := hk'.out
      have hw2 := own_none (own_grown hwd1.out hgr (fun k hk2 => own_apart hwd1.out hown1.out (by decide) k hk2))
      refine ⟨rfl, ⟨.slice (some ⟨gg, 0, none⟩) (out.length + 1) cap, .slice (some ⟨hh, 0, none⟩) 0 cw, ?_, ?_, (own_setCell (own_setCell (own_setCell hw2 hk.lt _ _) hk.lt _ _) hk.lt _ _).drew, hk.lt, ?_⟩, ?_⟩
      · have := (((hk2.set 0 (.slice (some ⟨gg, 0, none⟩) (out.length + 1) cap)).set 1 (.int .i64 0)).set 2 (.slice (some ⟨hh, 0, none⟩) 0 cw)).below (below_drew1 _)
        simpa using this
      · rw [toksV_snoc, List.length_append]
        exact (own_setCell (own_setCell (own_setCell hown2 hk.lt _ _) hk.lt _ _) hk.lt _ _).drew
      · exact Nat.le_trans q3.out (by simpa using hgr.size)
      · exact (((((((Bt.refl B g w).drew.alloc hk.le _).grown q3.out hgr (fun k hk2 => own_ge hown1.out hk2)).set _ _).set _ _).set _ _)).drew
end Go.Proofs.YtjbhhlhaikmecaaDoor
