/-
  What the builder's place leaves, in whatever memory. No conditions but those that stand there.
-/
import Derived.Test.YtjbhhlhaikmecaaDoorAsmB
import Derived.StillTailTactics
namespace Go.Proofs.YtjbhhlhaikmecaaDoor
open Go.RowKit

/-- the builder with another label. -/
theorem Bld.setLabs {w0 w w' : World} {m g B : Nat} {A : Option Addr} {c : Nat} {vc vj : Value} {left : List Tok} {code : List Ins} {js : List (Nat × List Nat)} {labs labs' : List (List Nat × Nat)} (h : Bld w0 w m g B A c vc vj left code js labs) (hl : Labs w' m labs') (hg : w.grownBy w' (some m)) :
    Bld w0 w' m g B A c vc vj left code js labs' := by
  have hmg := h.mg
  have hgB := h.gB
  exact ⟨h.bk.grown hg (by simp; omega), h.toks, own_grown h.code hg (fun k hk => by have := own_ge h.code hk; simp; omega), own_grown h.js hg (fun k hk => by have := own_ge h.js hk; simp; omega), hl,
    h.old.grown hg (Nat.le_of_lt h.labs.lt) (fun k hk => by simp at hk; omega), h.wm, h.mg, h.gB, Nat.le_trans h.le hg.size⟩

set_option maxHeartbeats 1000000 in
theorem place_there (w0 w : World) (m g B : Nat) (A : Option Addr) (c : Nat) (vc vj : Value) (left : List Tok) (code : List Ins) (js : List (Nat × List Nat)) (labs : List (List Nat × Nat)) (h : Bld w0 w m g B A c vc vj left code js labs)
    (wd : List Nat) (hw : byteW wd) (hl : ∀ p ∈ labs, byteW p.1) (hlen : wd.length ≤ 1048576) (hin : wd ∈ labs.map (·.1)) :
    Calls Tryd.prog 42 #[.pointer (some ⟨g, 0, none⟩), .string (strL wd)] w fun e w' => e = .returned (.int .i64 10) ∧ w = w' := by
  obtain ⟨c0, c1, c2, c3, hf⟩ := h.bk.four
  have hhas := Lib.hid ((labD_has labs wd hw hl).trans (decide_eq_true hin))
  have hown := Lib.hid (show w.ownsMap Tryd.prog 9 (plainElem Tryd.prog 3) m labs.length (labD labs) from h.labs)
  clear h hl
  go_enter Tryd.func42, Tryd.ntmps42
  go_wp2_with (at_lookup; go_must (refine wpList_lookup_own_ok_int _ rfl _ _ 40 rfl 9 3 .i64 lawS Tryd.underlying40 Tryd.underlying3 (zeroI _) m labs.length (labD labs) rfl hown.out _ _ rfl (keyOf_word wd hlen) ?_; intro cc hat hwc; rw [hhas.out]; clear hat hwc))
  go_ret
  exact ⟨rfl, rfl⟩

set_option maxRecDepth 100000 in
set_option maxHeartbeats 1000000 in
theorem place_new (w0 w : World) (m g B : Nat) (A : Option Addr) (c : Nat) (vc vj : Value) (left : List Tok) (code : List Ins) (js : List (Nat × List Nat)) (labs : List (List Nat × Nat)) (h : Bld w0 w m g B A c vc vj left code js labs)
    (wd : List Nat) (hw : byteW wd) (hl : ∀ p ∈ labs, byteW p.1) (hlen : wd.length ≤ 1048576) (hll : labs.length ≤ 1048576) (hcl : code.length ≤ 1048576) (hin : wd ∉ labs.map (·.1)) :
    Calls Tryd.prog 42 #[.pointer (some ⟨g, 0, none⟩), .string (strL wd)] w fun e w' => e = .returned (.int .i64 0) ∧ Bld w0 w' m g B A c vc vj left code js (labs ++ [(wd, code.length)]) ∧ Below m w w' := by
  obtain ⟨Ac, cc, rfl, hsl⟩ := Sl.own h.code
  obtain ⟨c0, c1, c2, c3, hf⟩ := h.bk.four
  have hhas := Lib.hid ((labD_has labs wd hw hl).trans (decide_eq_false hin))
  have hown := Lib.hid (show w.ownsMap Tryd.prog 9 (plainElem Tryd.prog 3) m labs.length (labD labs) from h.labs)
  have h' := Lib.hid h
  clear h hl hsl hin
  go_enter Tryd.func42, Tryd.ntmps42
  go_wp2_with (at_lookup; go_must (refine wpList_lookup_own_ok_int _ rfl _ _ 40 rfl 9 3 .i64 lawS Tryd.underlying40 Tryd.underlying3 (zeroI _) m labs.length (labD labs) rfl hown.out _ _ rfl (keyOf_word wd hlen) ?_; intro cc hat hwc; rw [hhas.out]; clear hat hwc))
  go_still_tail 10, (by kernel_rfl)
  refine wpList_mapUpdate_own _ rfl _ _ _ 40 rfl 9 3 lawS Tryd.underlying40 _ m labs.length (labD labs) rfl hown.out.drew (by unfold maxLen; omega) _ _ _ rfl rfl (keyOf_word wd hlen) (.lit (.int .i64 (code.length : Int))) [] (plainElem_int Tryd.underlying3 (WalkArith.wf_i64 ⟨by omega, by omega⟩)) ?_
  intro w1 hown1 hgrow
  go_wp2
  go_ret
  exact ⟨rfl, (h'.out.kept (below_drew1 w)).setLabs (Labs.more wd code.length hown1) hgrow, (Below.refl m w).drew.grown hgrow (Nat.le_of_lt h'.out.labs.lt) (fun k hk => by simp at hk; omega)⟩

end Go.Proofs.YtjbhhlhaikmecaaDoor
