/-
  What the builder's rest leaves, in whatever memory. No conditions but those that stand there.
-/
import Derived.Test.YtjbhhlhaikmecaaDoorAsmE
namespace Go.Proofs.YtjbhhlhaikmecaaDoor
open Go.RowKit

theorem own_notBk {w : World} {B : Nat} {e t : TypeId} {size n : Nat} {v : Value} {xs : List Value} (h : w.ownsRow B e size v n xs) {k : Nat} {cs : Array Value} (hb : Bk w k t cs) (hne : t ≠ e) : v.ownBlock ≠ some k := by
  intro he
  rcases h.2 with ⟨rfl, _⟩ | ⟨g', cap, cur, rfl, _, hg, _⟩
  · simp [Value.ownBlock] at he
  · simp [Value.ownBlock] at he
    subst he
    unfold Bk at hb
    rw [hb] at hg
    injection hg with hg
    injection hg with _ ht
    exact hne ht

theorem own_setFar {w : World} {B : Nat} {e : TypeId} {size n : Nat} {v : Value} {xs : List Value} (h : w.ownsRow B e size v n xs) {k : Nat} (hk : v.ownBlock ≠ some k) (i : Nat) (u : Value) : (w.setCell ⟨k, i, none⟩ u).ownsRow B e size v n xs :=
  own_keep h fun g _ he => Below.heap_setCell w ⟨k, i, none⟩ u g (fun e => hk (by rw [he, e]))

/-- a store into a block beside the builder's. -/
theorem Bld.setFar {w0 w : World} {m g B : Nat} {A : Option Addr} {c : Nat} {vc vj : Value} {left : List Tok} {code : List Ins} {js : List (Nat × List Nat)} {labs : List (List Nat × Nat)} (h : Bld w0 w m g B A c vc vj left code js labs) {k : Nat} (h1 : vc.ownBlock ≠ some k) (h2 : vj.ownBlock ≠ some k) (hk : B ≤ k) (i : Nat) (u : Value) :
    Bld w0 (w.setCell ⟨k, i, none⟩ u) m g B A c vc vj left code js labs := by
  have hmg := h.mg
  have hgB := h.gB
  exact ⟨h.bk.far (by simp; omega) _, h.toks, own_setFar h.code h1 _ _, own_setFar h.js h2 _ _, h.labs.heap (Below.heap_setCell w ⟨k, i, none⟩ u m (by simp; omega)), h.old.setCell (by simp; omega) _, h.wm, h.mg, h.gB, by simpa using h.le⟩

/-- an instruction out of the tokens behind its word; none, if they aren't what its kind has. -/
def restP (op : Int) (k : Nat) (left : List Tok) (js : List (Nat × List Nat)) : Option (Ins × List Tok × List (Nat × List Nat)) :=
  if jumpsN op then match left with
    | [] => none
    | t :: l => if t.kind = 1 then some (⟨op, 0, 0⟩, l, js ++ [(k, t.word)]) else none
  else (numsT (takesN op) left).map fun p => (⟨op, p.1.getD 0 0, p.1.getD 1 0⟩, p.2, js)

/-- what rest leaves. -/
def RestR (w0 w : World) (m g B : Nat) (vc vj : Value) (code : List Ins) (labs : List (List Nat × Nat)) (r : Option (Ins × List Tok × List (Nat × List Nat))) (e : Ending) (w' : World) : Prop :=
  Fr g vj w w' ∧ match r with
    | none => ∃ x : Ins, e = .returned (.tuple #[.agg #[.int .i64 x.op, .int .i64 x.a, .int .i64 x.b], .bool false])
    | some (x, left, js) => e = .returned (.tuple #[.agg #[.int .i64 x.op, .int .i64 x.a, .int .i64 x.b], .bool true]) ∧ ∃ A c vj', Bld w0 w' m g B A c vc vj' left code js labs

theorem Bk.three {w : World} {g : Nat} {t : TypeId} {a b c : Value} (h : Bk w g t #[a, b, c]) : w.cell? ⟨g, 0, none⟩ = some a ∧ w.cell? ⟨g, 1, none⟩ = some b ∧ w.cell? ⟨g, 2, none⟩ = some c ∧ ∀ o, w.frozen? ⟨g, o, none⟩ = false :=
  ⟨h.cell 0, h.cell 1, h.cell 2, fun o => h.frozen o⟩
theorem Bk.store3 {w : World} {g : Nat} {t : TypeId} {a b c : Value} (hg : Bk w g t #[a, b, c]) (x0 x1 x2 : Value) : Bk (((w.setCell ⟨g, 0, none⟩ x0).setCell ⟨g, 1, none⟩ x1).setCell ⟨g, 2, none⟩ x2) g t #[x0, x1, x2] := by
  have := ((hg.set 0 x0).set 1 x1).set 2 x2
  simpa using this
theorem Bld.set3 {w0 w : World} {m g B : Nat} {A : Option Addr} {c : Nat} {vc vj : Value} {left : List Tok} {code : List Ins} {js : List (Nat × List Nat)} {labs : List (List Nat × Nat)} (h : Bld w0 w m g B A c vc vj left code js labs) {k : Nat} (h1 : vc.ownBlock ≠ some k) (h2 : vj.ownBlock ≠ some k) (hk : B ≤ k) (x0 x1 x2 : Value) :
    Bld w0 (((w.setCell ⟨k, 0, none⟩ x0).setCell ⟨k, 1, none⟩ x1).setCell ⟨k, 2, none⟩ x2) m g B A c vc vj left code js labs :=
  ((h.setFar h1 h2 hk _ _).setFar h1 h2 hk _ _).setFar h1 h2 hk _ _
theorem Fr.setNew {g : Nat} {v : Value} {w wr : World} (h : Fr g v w wr) {p : Addr} (hp : w.heap.size ≤ p.block) (u : Value) : Fr g v w (wr.setCell p u) :=
  ⟨h.os, h.tape, h.output, by simpa using h.size, fun k hk hg hv => (Below.heap_setCell wr p u k (by omega)).trans (h.block k hk hg hv)⟩
theorem Fr.set3 {g : Nat} {v : Value} {w wr : World} (h : Fr g v w wr) {k : Nat} (hk : w.heap.size ≤ k) (x0 x1 x2 : Value) : Fr g v w (((wr.setCell ⟨k, 0, none⟩ x0).setCell ⟨k, 1, none⟩ x1).setCell ⟨k, 2, none⟩ x2) :=
  ((h.setNew (p := ⟨k, 0, none⟩) hk _).setNew (p := ⟨k, 1, none⟩) hk _).setNew (p := ⟨k, 2, none⟩) hk _
theorem Fr.bk {g k : Nat} {v : Value} {w w' : World} {t : TypeId} {cs : Array Value} (h : Fr g v w w') (hb : Bk w k t cs) (hk : k ≠ g) (hv : v.ownBlock ≠ some k) : Bk w' k t cs := (h.block k hb.lt hk hv).trans hb

set_option maxRecDepth 100000 in
set_option maxHeartbeats 4000000 in
theorem rest_any (op : Int) (w0 w : World) (m g B : Nat) (A : Option Addr) (c : Nat) (vc vj : Value) (left : List Tok) (code : List Ins) (js : List (Nat × List Nat)) (labs : List (List Nat × Nat)) (h : Bld w0 w m g B A c vc vj left code js labs) (hk : ∀ t ∈ left, okK t) (hjl : js.length ≤ 1048576) (hT : HasKinds w) :
    Calls Tryd.prog 55 #[.pointer (some ⟨g, 0, none⟩), .int .i64 op] w (RestR w0 w m g B vc vj code labs (restP op code.length left js)) := by
  obtain ⟨W0, hW0⟩ : ∃ W0, W0 = w.alloc (.cells #[.int .i64 0, .int .i64 0, .int .i64 0] 35) := ⟨_, rfl⟩
  have hbW : Below w.heap.size w W0 := by rw [hW0]; exact (Below.refl _ _).alloc (Nat.le_refl _) _
  have h0 := h.kept hbW
  have hT0 := hT.belowS hbW
  have k0 : Bk W0 w.heap.size 35 #[.int .i64 0, .int .i64 0, .int .i64 0] := by rw [hW0]; exact Bk.new _ _ _
  have hBw : B ≤ w.heap.size := h.le
  have hgB := h.gB
  have hfr : Fr g vj w W0 := Fr.of_but (But.of_below hbW)
  have hcw : vc.ownBlock ≠ some w.heap.size := fun e => by have := own_lt h.code e; omega
  have hjw : vj.ownBlock ≠ some w.heap.size := fun e => by have := own_lt h.js e; omega
  have hW0' := Lib.hid hW0
  have h0' := Lib.hid h0
  have hT0' := Lib.hid hT0
  clear hT h hT0 h0 hbW
  by_cases hj : jumpsN op
  · have hij := Lib.hid (isJump_is op true (decide_eq_true hj) W0)
    cases left with
    | nil =>
      have ht := Lib.hid (target_none w0 W0 m g B A c vc vj code js labs h0'.out)
      rw [show restP op code.length [] js = none by unfold restP; rw [if_pos hj]]
      clear hj hW0
      go_enter Tryd.func55, Tryd.ntmps55
      go_wp2_with (first
        | (go_at_call 29; rw [← hW0'.out]; go_must ((with_reducible refine hij.out.mono ?_); rintro e w1 ⟨rfl, rfl⟩))
        | (go_at_call 58; go_must ((with_reducible refine ht.out.mono ?_); rintro e w1 ⟨rfl, hb1⟩; have z0 := Lib.hid (hb1.bk k0 (by omega)); obtain ⟨a0, a1, a2, af⟩ := z0.out.three)))
      obtain ⟨r0, r1, r2, -⟩ := (z0.out.store3 (.int .i64 op) (.int .i64 0) (.int .i64 0)).three
      exact bodyPost_ret (v := .tuple #[.agg #[.int .i64 op, .int .i64 0, .int .i64 0], .bool false]) (by simp [results, Tryd.results55, go_sem, r0, r1, r2]) rfl ⟨(hfr.trans (Fr.of_but hb1)).set3 (Nat.le_refl _) _ _ _, ⟨op, 0, 0⟩, rfl⟩
    | cons t left =>
      by_cases hk1 : t.kind = 1
      · have ht := Lib.hid (target_word w0 W0 m g B A c vc vj t left code js labs h0'.out hk1 hjl)
        rw [show restP op code.length (t :: left) js = some (⟨op, 0, 0⟩, left, js ++ [(code.length, t.word)]) by unfold restP; rw [if_pos hj]; simp only [if_pos hk1]]
        clear hj hW0 hk1
        go_enter Tryd.func55, Tryd.ntmps55
        go_wp2_with (first
          | (go_at_call 29; rw [← hW0'.out]; go_must ((with_reducible refine hij.out.mono ?_); rintro e w1 ⟨rfl, rfl⟩))
          | (go_at_call 58; go_must ((with_reducible refine ht.out.mono ?_); rintro e w1 ⟨rfl, ⟨A1, c1, vj1, hB1⟩, hb1⟩; have H1 := Lib.hid hB1; have z0 := Lib.hid (hb1.bk k0 (by omega) hjw); obtain ⟨a0, a1, a2, af⟩ := z0.out.three; clear hB1)))
        obtain ⟨r0, r1, r2, -⟩ := (z0.out.store3 (.int .i64 op) (.int .i64 0) (.int .i64 0)).three
        exact bodyPost_ret (v := .tuple #[.agg #[.int .i64 op, .int .i64 0, .int .i64 0], .bool true]) (by simp [results, Tryd.results55, go_sem, r0, r1, r2]) rfl ⟨(hfr.trans hb1).set3 (Nat.le_refl _) _ _ _, rfl, A1, c1, vj1, H1.out.set3 hcw (own_notBk H1.out.js z0.out (by decide)) hBw _ _ _⟩
      · have ht := Lib.hid (target_other w0 W0 m g B A c vc vj t left code js labs h0'.out (by have := hk t List.mem_cons_self; unfold okK at this; omega))
        rw [show restP op code.length (t :: left) js = none by unfold restP; rw [if_pos hj]; simp only [if_neg hk1]]
        clear hj hW0 hk1
        go_enter Tryd.func55, Tryd.ntmps55
        go_wp2_with (first
          | (go_at_call 29; rw [← hW0'.out]; go_must ((with_reducible refine hij.out.mono ?_); rintro e w1 ⟨rfl, rfl⟩))
          | (go_at_call 58; go_must ((with_reducible refine ht.out.mono ?_); rintro e w1 ⟨rfl, hb1⟩; have z0 := Lib.hid (hb1.bk k0 (by omega)); obtain ⟨a0, a1, a2, af⟩ := z0.out.three)))
        obtain ⟨r0, r1, r2, -⟩ := (z0.out.store3 (.int .i64 op) (.int .i64 0) (.int .i64 0)).three
        exact bodyPost_ret (v := .tuple #[.agg #[.int .i64 op, .int .i64 0, .int .i64 0], .bool false]) (by simp [results, Tryd.results55, go_sem, r0, r1, r2]) rfl ⟨(hfr.trans (Fr.of_but hb1)).set3 (Nat.le_refl _) _ _ _, ⟨op, 0, 0⟩, rfl⟩
  · have hij := Lib.hid (isJump_is op false (decide_eq_false hj) W0)
    have htk := Lib.hid (takes_any op W0 hT0'.out)
    have hnm := Lib.hid (numbers_any (takesN op) (takes_le op) w0 W0 m g B A c vc vj left code js labs h0'.out hk)
    obtain ⟨R, hR⟩ : ∃ R, R = numsT (takesN op) left := ⟨_, rfl⟩
    rw [show restP op code.length left js = R.map fun p => (⟨op, p.1.getD 0 0, p.1.getD 1 0⟩, p.2, js) by unfold restP; rw [if_neg hj, hR]]
    rw [← hR] at hnm
    clear hj hW0 hR hk
    generalize takesN op = tk at *
    cases R with
    | none =>
      go_enter Tryd.func55, Tryd.ntmps55
      go_wp2_with (first
        | (go_at_call 29; rw [← hW0'.out]; go_must ((with_reducible refine hij.out.mono ?_); rintro e w1 ⟨rfl, rfl⟩))
        | (go_at_call 12; go_must ((with_reducible refine htk.out.mono ?_); rintro e w1 ⟨rfl, rfl⟩))
        | (go_at_call 59; go_must ((with_reducible refine hnm.out.mono ?_); rintro e w1 ⟨hb1, x0, x1, rfl⟩; have z0 := Lib.hid (hb1.bk k0 (by omega)); obtain ⟨a0, a1, a2, af⟩ := z0.out.three; have hs1 := z0.out.lt)))
      obtain ⟨r0, r1, r2, -⟩ := ((z0.out.store3 (.int .i64 op) (.int .i64 x0) (.int .i64 x1)).alloc (.cells #[.int .i64 x0, .int .i64 x1] 87)).three
      exact bodyPost_ret (v := .tuple #[.agg #[.int .i64 op, .int .i64 x0, .int .i64 x1], .bool false]) (by simp only [results, Tryd.results55]; simp [go_sem, r0, r1, r2]) rfl ⟨((hfr.trans (Fr.of_but hb1)).set3 (Nat.le_refl _) _ _ _).trans (Fr.of_but (But.of_below ((Below.refl _ _).alloc (Nat.le_refl _) _))), ⟨op, x0, x1⟩, rfl⟩
    | some p =>
      obtain ⟨ns, left'⟩ := p
      obtain ⟨x0, hx0⟩ : ∃ x0, x0 = ns.getD 0 0 := ⟨_, rfl⟩
      obtain ⟨x1, hx1⟩ : ∃ x1, x1 = ns.getD 1 0 := ⟨_, rfl⟩
      rw [show (Option.map (fun p : List Int × List Tok => ((⟨op, p.1.getD 0 0, p.1.getD 1 0⟩ : Ins), p.2, js)) (some (ns, left'))) = some (⟨op, x0, x1⟩, left', js) by rw [hx0, hx1]; rfl]
      have hx0' := Lib.hid hx0
      have hx1' := Lib.hid hx1
      clear hx0 hx1
      go_enter Tryd.func55, Tryd.ntmps55
      go_wp2_with (first
        | (go_at_call 29; rw [← hW0'.out]; go_must ((with_reducible refine hij.out.mono ?_); rintro e w1 ⟨rfl, rfl⟩))
        | (go_at_call 12; go_must ((with_reducible refine htk.out.mono ?_); rintro e w1 ⟨rfl, rfl⟩))
        | (go_at_call 59; go_must ((with_reducible refine hnm.out.mono ?_); rintro e w1 ⟨hb1, rfl, A1, c1, hB1⟩; rw [← hx0'.out, ← hx1'.out]; have H1 := Lib.hid hB1; clear hB1; have z0 := Lib.hid (hb1.bk k0 (by omega)); obtain ⟨a0, a1, a2, af⟩ := z0.out.three; have hs1 := z0.out.lt)))
      obtain ⟨r0, r1, r2, -⟩ := ((z0.out.store3 (.int .i64 op) (.int .i64 x0) (.int .i64 x1)).alloc (.cells #[.int .i64 x0, .int .i64 x1] 87)).three
      exact bodyPost_ret (v := .tuple #[.agg #[.int .i64 op, .int .i64 x0, .int .i64 x1], .bool true]) (by simp only [results, Tryd.results55]; simp [go_sem, r0, r1, r2]) rfl ⟨((hfr.trans (Fr.of_but hb1)).set3 (Nat.le_refl _) _ _ _).trans (Fr.of_but (But.of_below ((Below.refl _ _).alloc (Nat.le_refl _) _))), rfl, A1, c1, vj, (H1.out.set3 hcw hjw hBw _ _ _).kept ((Below.refl _ _).alloc (Nat.le_refl _) _)⟩

end Go.Proofs.YtjbhhlhaikmecaaDoor
