/-
  What asm.Build answers, in whatever memory that has the kinds' table, of every text.
-/
import Derived.Test.YtjbhhlhaikmecaaDoorAsmK
namespace Go.Proofs.YtjbhhlhaikmecaaDoor
open Go.RowKit

/-- what Build answers where the instructions are r. -/
def BuildR (r : Except Nat (List Ins)) (w : World) (e : Ending) (w' : World) : Prop :=
  Below w.heap.size w w' ∧ match r with
    | .error n => e = .returned (.tuple #[.slice none 0 0, .int .i64 (n : Nat)])
    | .ok l => ∃ v, e = .returned (.tuple #[v, .int .i64 0]) ∧ w'.ownsRow w.heap.size 35 3 v l.length (inssW l)

def lenAt (w : World) (g : Nat) : Nat := match w.cell? ⟨g, 0, none⟩ with
  | some (.slice _ n _) => n
  | _ => 0
theorem lenAt_of {w : World} {g n c : Nat} {A : Option Addr} (h : w.cell? ⟨g, 0, none⟩ = some (.slice A n c)) : lenAt w g = n := by unfold lenAt; rw [h]

theorem goals_words {x : BS} (hx : OkX x) : ∀ p ∈ jsOf x.out x.goals, p.1 < x.out.length ∧ gW p.2 := by
  intro p hp
  unfold jsOf at hp
  obtain ⟨i, hi, he⟩ := List.mem_filterMap.1 hp
  have hi' : i < x.out.length := by simpa using hi
  split at he
  · injection he with he
    subst he
    refine ⟨hi', ?_⟩
    have hg : i < x.goals.length := by rw [hx.goals]; exact hi'
    rw [List.getElem?_eq_getElem hg]
    exact hx.words _ (List.getElem_mem hg)
  · cases he

theorem buildLong (s : ByteArray) (w : World) (hs : 4000 < s.size) :
    Calls Tryd.prog 9 #[.string s] w (BuildR (buildN (bL s)) w) := by
  rw [show buildN (bL s) = .error 4 by unfold buildN; rw [if_pos (by rw [bL_length]; exact hs)]]
  have c1 := Lib.hid (splitLong s w hs)
  go_enter Tryd.func9, Tryd.ntmps9
  go_wp2_with (go_at_call 22; go_must ((with_reducible refine c1.out.mono ?_); rintro e w1 ⟨rfl, rfl⟩))
  go_ret2
  exact ⟨Below.refl _ _, rfl⟩

theorem buildToken (s : ByteArray) (w : World) (hs : s.size ≤ 4000) (h : splitN (bL s) = none) :
    Calls Tryd.prog 9 #[.string s] w (BuildR (buildN (bL s)) w) := by
  rw [show buildN (bL s) = .error 9 by unfold buildN; rw [if_neg (by rw [bL_length]; omega), h]]
  have c1 := Lib.hid (split_no s w hs h)
  clear h
  go_enter Tryd.func9, Tryd.ntmps9
  go_wp2_with (go_at_call 22; go_must ((with_reducible refine c1.out.mono ?_); rintro e w1 ⟨rfl, hb1⟩))
  go_ret2
  exact ⟨hb1, rfl⟩

set_option maxRecDepth 100000 in
set_option maxHeartbeats 8000000 in
theorem buildSome (s : ByteArray) (o : List Tok) (w : World) (hs : s.size ≤ 4000) (h : splitN (bL s) = some o) (hT : HasKinds w) :
    Calls Tryd.prog 9 #[.string s] w (BuildR (buildN (bL s)) w) := by
  have hmm := @run_makeMap Tryd.prog
  have hR0 : buildN (bL s) = finB (foldB emptyB o) := by unfold buildN; rw [if_neg (by rw [bL_length]; omega), h]; rfl
  obtain ⟨R, hR⟩ : ∃ R, R = buildN (bL s) := ⟨_, rfl⟩
  have hst : Hid (finB (foldB emptyB o) = R) := Lib.hid (by rw [hR, hR0])
  rw [← hR]
  have c1 := Lib.hid (split_yes s o w hs h)
  have hok : Hid (∀ t ∈ o, okG t) := Lib.hid (fun t ht => okG_of (split_ok h t ht) (by have := split_words h t ht; rw [bL_length] at this; omega))
  have hol : Hid (o.length ≤ 4000) := Lib.hid (by have := split_len h; rw [bL_length] at this; omega)
  have hT' := Lib.hid hT
  clear h hR hR0 hT
  go_enter Tryd.func9, Tryd.ntmps9
  go_wp2_with (go_at_call 22; go_must ((with_reducible refine c1.out.mono ?_); rintro e w1 ⟨v1, rfl, ho1, hb1⟩; obtain ⟨A1, p1, rfl, t1⟩ := Toks.own ho1; have T1 := Lib.hid t1; clear t1 ho1))
  have hT1 := Lib.hid (hT'.out.belowS hb1)
  have hs1 := hb1.size
  clear hmm c1
  go_loopw [7] (fun _ wr => ∃ (x : BS) (left : List Tok) (A : Option Addr) (c : Nat) (vc vj : Value), OkX x ∧ Bld w1 wr w1.heap.size (w1.heap.size + 1) (w1.heap.size + 2) A c vc vj left x.out (jsOf x.out x.goals) x.labs ∧ Hid (finB (foldB x left) = R) ∧ (∀ t ∈ left, okG t) ∧ x.labs.length + left.length ≤ 4000) (fun _ wr => lenAt wr (w1.heap.size + 1))
  case atStart =>
    refine ⟨emptyB, o, A1, p1, .slice none 0 0, .slice none 0 0, okX_empty, ⟨?_, T1.out, ⟨rfl, .inl ⟨rfl, rfl⟩⟩, ⟨rfl, .inl ⟨rfl, rfl⟩⟩, ?_, ?_, Nat.le_refl _, by omega, by omega, ?_⟩, hst, hok.out, ?_⟩
    · have := Bk.new (w1.alloc (.map #[] 0)) 43 #[.slice A1 o.length p1, .slice none 0 0, .slice none 0 0, .map (some w1.heap.size)]
      rw [World.size_alloc] at this
      exact this
    · exact (Labs.made w1).heap (heap_alloc_old _ _ (by rw [World.size_alloc]; omega))
    · exact ((Below.refl _ _).alloc (Nat.le_refl _) _).alloc (by rw [World.size_alloc]; omega) _
    · rw [World.size_alloc, World.size_alloc]; exact Nat.le_refl _
    · have := hol.out
      simp [emptyB]
      omega
  case round =>
    clear hst
    obtain ⟨x, left, A, c, vc, vj, hx, hB, HR, hkl, hlen⟩ := hrel
    have hB' := Lib.hid hB
    have hx' := Lib.hid hx
    have hkl' := Lib.hid hkl
    have hTr := Lib.hid (hT1.out.below hB.old hT1.out.lt)
    obtain ⟨c0, c1, c2, c3, hf⟩ := hB.bk.four
    have hlw := Lib.hid (lenAt_of c0)
    have hgw := hB.bk.lt
    have hbw := Lib.hid (hb1.trans (hB.old.mono hs1))
    cases left with
    | nil =>
      have hRx : finB x = R := HR.out
      rw [lead_fin hx.mode] at hRx
      have hld := Lib.hid (lead_any w1 wr _ _ _ A c vc vj [] x.out (jsOf x.out x.goals) x.labs hB hx.len (Nat.le_trans (jsOf_length _ _) hx.len) (goals_words hx) (fun p hp => ⟨hx.labs p hp, hx.ats p hp⟩))
      generalize leadN x.labs x.out (jsOf x.out x.goals) = L at *
      clear hB hx hkl HR
      cases L with
      | none =>
        subst hRx
        go_wp2_with (go_at_call 24; go_must ((with_reducible refine hld.out.mono ?_); rintro e w2 ⟨hb2, rfl⟩))
        go_ret2
        exact ⟨hbw.out.trans (hb2.mono hs1), rfl⟩
      | some l =>
        subst hRx
        go_wp2_with (go_at_call 24; go_must ((with_reducible refine hld.out.mono ?_); rintro e w2 ⟨hb2, rfl, hB2⟩; obtain ⟨z0, z1, z2, z3, zf⟩ := hB2.bk.four; have H2 := Lib.hid hB2; clear hB2))
        go_ret2
        exact ⟨hbw.out.trans (hb2.mono hs1), vc, rfl, own_lower H2.out.code (by omega)⟩
    | cons t left =>
      have hpt := Lib.hid (part_any x hx w1 wr _ _ _ A c vc vj t left hB hkl (by omega) hTr.out hT1.out.lt)
      rw [List.length_cons] at c0
      cases hr : partP x (t :: left) with
      | error n =>
        obtain ⟨hfn, hn⟩ := partP_err hx hr
        rw [hr] at hpt
        have hRx := HR.out
        rw [hfn] at hRx
        subst hRx
        have hn0 : ((n : Int) != 0) = true := by simp; omega
        clear hB hx hkl HR hr hfn
        go_wp2_with (go_at_call 23; go_must ((with_reducible refine hpt.out.mono ?_); rintro e w2 ⟨hb2, rfl⟩))
        go_ret2
        exact ⟨hbw.out.trans (hb2.mono hs1), rfl⟩
      | ok p =>
        obtain ⟨hx2, hlt2, hkl2, hlen2, hfold⟩ := partP_ok hx hkl hr
        rw [hr] at hpt
        have HR2 : Hid (finB (foldB p.1 p.2) = R) := Lib.hid (by rw [← hfold]; exact HR.out)
        have hq := Lib.hid hlt2
        clear hB hx hkl HR hr hfold hlt2
        have hlen3 : p.1.labs.length + p.2.length ≤ 4000 := by omega
        clear hlen2 hlen
        go_wp2_with (go_at_call 23; go_must ((with_reducible refine hpt.out.mono ?_); rintro e w2 ⟨hb2, rfl, A2, c2', vc2, vj2, hB2⟩; have H2 := Lib.hid hB2; clear hB2))
        go_roundw
        case rel => exact ⟨p.1, p.2, A2, c2', vc2, vj2, hx2, H2.out, HR2, hkl2, hlen3⟩
        case measure => rw [lenAt_of H2.out.bk.four.1, hlw.out]; exact hq.out

theorem build_any (s : ByteArray) (w : World) (hT : HasKinds w) : Calls Tryd.prog 9 #[.string s] w (BuildR (buildN (bL s)) w) := by
  by_cases hs : s.size ≤ 4000
  · cases h : splitN (bL s) with
    | none => exact buildToken s w hs h
    | some o => exact buildSome s o w hs h hT
  · exact buildLong s w (by omega)

end Go.Proofs.YtjbhhlhaikmecaaDoor
