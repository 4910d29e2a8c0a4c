/-
  What the builder's numbers leaves, in whatever memory. No conditions but those that stand there.
-/
import Derived.Test.YtjbhhlhaikmecaaDoorAsmD
namespace Go.Proofs.YtjbhhlhaikmecaaDoor
open Go.RowKit

/-- so many numbers, one token each; none, if one of them is none. -/
def numsT : Nat → List Tok → Option (List Int × List Tok)
  | 0, l => some ([], l)
  | _ + 1, [] => none
  | n + 1, t :: l => if t.kind = 2 then (numsT n l).map fun p => (t.n :: p.1, p.2) else none

theorem nums_zero (l : List Tok) : numsT 0 l = some ([], l) := by cases l <;> rfl

def restT (dn : List Int) (n : Nat) (l : List Tok) : Option (List Int × List Tok) := (numsT n l).map fun p => (dn ++ p.1, p.2)
theorem rest_start (n : Nat) (l : List Tok) : restT [] n l = numsT n l := by
  unfold restT
  cases numsT n l <;> rfl
theorem rest_end (dn : List Int) (l : List Tok) : restT dn 0 l = some (dn, l) := by
  unfold restT
  rw [nums_zero]
  simp
theorem rest_none (dn : List Int) (n : Nat) : restT dn (n + 1) [] = none := rfl
theorem rest_other (dn : List Int) (n : Nat) {t : Tok} (h : t.kind ≠ 2) (l : List Tok) : restT dn (n + 1) (t :: l) = none := by
  unfold restT
  rw [numsT, if_neg h]
  rfl
theorem rest_step (dn : List Int) (n : Nat) {t : Tok} (h : t.kind = 2) (l : List Tok) : restT dn (n + 1) (t :: l) = restT (dn ++ [t.n]) n l := by
  unfold restT
  rw [numsT, if_pos h]
  cases numsT n l <;> simp

/-- what numbers leaves. -/
def NumsR (w0 w : World) (m g B : Nat) (vc vj : Value) (code : List Ins) (js : List (Nat × List Nat)) (labs : List (List Nat × Nat)) (r : Option (List Int × List Tok)) (e : Ending) (w' : World) : Prop :=
  But g w w' ∧ match r with
    | none => ∃ a b : Int, e = .returned (.tuple #[.agg #[.int .i64 a, .int .i64 b], .bool false])
    | some (ns, left) => e = .returned (.tuple #[.agg #[.int .i64 (ns.getD 0 0), .int .i64 (ns.getD 1 0)], .bool true]) ∧ ∃ A c, Bld w0 w' m g B A c vc vj left code js labs

theorem Bk.two {w : World} {g : Nat} {t : TypeId} {a b : Value} (h : Bk w g t #[a, b]) : w.cell? ⟨g, 0, none⟩ = some a ∧ w.cell? ⟨g, 1, none⟩ = some b ∧ ∀ o, w.frozen? ⟨g, o, none⟩ = false :=
  ⟨h.cell 0, h.cell 1, fun o => h.frozen o⟩

theorem own_setOther {w : World} {B : Nat} {e t : TypeId} {size n : Nat} {v : Value} {xs : List Value} (h : w.ownsRow B e size v n xs) {k : Nat} {cs : Array Value} (hb : Bk w k t cs) (hne : t ≠ e) (i : Nat) (u : Value) : (w.setCell ⟨k, i, none⟩ u).ownsRow B e size v n xs :=
  own_keep h fun g _ he => Below.heap_setCell w ⟨k, i, none⟩ u g (by
    rintro rfl
    rcases h.2 with ⟨rfl, _⟩ | ⟨g', cap, cur, rfl, _, hg, _⟩
    · simp [Value.ownBlock] at he
    · simp [Value.ownBlock] at he
      subst he
      unfold Bk at hb
      rw [hb] at hg
      injection hg with hg
      injection hg with _ ht
      exact hne ht)

/-- a store into another block that isn't the builder's. -/
theorem Bld.setOther {w0 w : World} {m g B : Nat} {A : Option Addr} {c : Nat} {vc vj : Value} {left : List Tok} {code : List Ins} {js : List (Nat × List Nat)} {labs : List (List Nat × Nat)} (h : Bld w0 w m g B A c vc vj left code js labs) {k : Nat} {t : TypeId} {cs : Array Value} (hb : Bk w k t cs) (h1 : t ≠ 35) (h2 : t ≠ 78) (hk : B ≤ k) (i : Nat) (u : Value) :
    Bld w0 (w.setCell ⟨k, i, none⟩ u) m g B A c vc vj left code js labs := by
  have hmg := h.mg
  have hgB := h.gB
  exact ⟨h.bk.far (by simp; omega) _, h.toks, own_setOther h.code hb h1 _ _, own_setOther h.js hb h2 _ _, h.labs.heap (Below.heap_setCell w ⟨k, i, none⟩ u m (by simp; omega)), h.old.setCell (by simp; omega) _, h.wm, h.mg, h.gB, by simpa using h.le⟩

theorem Bk.store2 {w : World} {g : Nat} {t : TypeId} {a b : Value} (hg : Bk w g t #[a, b]) (x0 x1 : Value) : Bk ((w.setCell ⟨g, 0, none⟩ x0).setCell ⟨g, 1, none⟩ x1) g t #[x0, x1] := by
  have := (hg.set 0 x0).set 1 x1
  simpa using this

theorem dn_set {dn : List Int} {i : Nat} (h : dn.length = i) (hi : i < 2) (n : Int) : #[Value.int .i64 (dn.getD 0 0), .int .i64 (dn.getD 1 0)].setIfInBounds i (.int .i64 n) = #[.int .i64 ((dn ++ [n]).getD 0 0), .int .i64 ((dn ++ [n]).getD 1 0)] := by
  subst h
  match dn, hi with
  | [], _ => simp
  | [a], _ => simp

def okK (t : Tok) : Prop := t.kind = 1 ∨ t.kind = 2 ∨ t.kind = 3

set_option maxRecDepth 100000 in
set_option maxHeartbeats 4000000 in
theorem numbers_any (n : Nat) (hn : n ≤ 2) (w0 w : World) (m g B : Nat) (A : Option Addr) (c : Nat) (vc vj : Value) (left : List Tok) (code : List Ins) (js : List (Nat × List Nat)) (labs : List (List Nat × Nat)) (h : Bld w0 w m g B A c vc vj left code js labs) (hk : ∀ t ∈ left, okK t) :
    Calls Tryd.prog 59 #[.pointer (some ⟨g, 0, none⟩), .int .i64 (n : Nat)] w (NumsR w0 w m g B vc vj code js labs (numsT n left)) := by
  obtain ⟨R, hR⟩ : ∃ R, R = numsT n left := ⟨_, rfl⟩
  have hst : Hid (restT [] n left = R) := Lib.hid (by rw [rest_start, hR])
  rw [← hR]
  have h' := Lib.hid h
  have hk' := Lib.hid hk
  clear h hk hR
  go_enter Tryd.func59, Tryd.ntmps59
  go_wp2
  go_loopw [11] (fun cc wr => ∃ (i : Nat) (A : Option Addr) (c : Nat) (dn : List Int) (left : List Tok), i ≤ n ∧ cc = .int .i64 i ∧ dn.length = i ∧ Bld w0 wr m g B A c vc vj left code js labs ∧ (∀ t ∈ left, okK t) ∧ Hid (restT dn (n - i) left = R) ∧
      Bk wr w.heap.size 87 #[.int .i64 0, .int .i64 0] ∧ Bk wr (w.heap.size + 1) 87 #[.int .i64 (dn.getD 0 0), .int .i64 (dn.getD 1 0)] ∧ But g w wr) (fun cc _ => n - (intOf cc).toNat)
  case atStart =>
    have hsz := (h'.out).le
    refine ⟨0, A, c, [], left, Nat.zero_le _, rfl, rfl, h'.out.kept (((Below.refl _ _).alloc (Nat.le_refl _) _).alloc (by rw [World.size_alloc]; omega) _), hk'.out, hst, (Bk.new w _ _).alloc _, ?_, But.of_below (((Below.refl _ _).alloc (Nat.le_refl _) _).alloc (by rw [World.size_alloc]; omega) _)⟩
    have := Bk.new (w.alloc (.cells #[.int .i64 0, .int .i64 0] 87)) 87 #[.int .i64 0, .int .i64 0]
    rw [World.size_alloc] at this
    exact this
  case round =>
    clear hst
    obtain ⟨i, A, c, dn, left, hi, rfl, hdn, hB, hkl, HR, k0, k1, hb⟩ := hrel
    have hBw : B ≤ w.heap.size := h'.out.le
    have hmB : m < B := Nat.lt_trans h'.out.mg h'.out.gB
    have hgB : g < B := h'.out.gB
    have hdn' := Lib.hid hdn
    have hB' := Lib.hid hB
    have hkl' := Lib.hid hkl
    obtain ⟨x0, hx0⟩ : ∃ x0, x0 = dn.getD 0 0 := ⟨_, rfl⟩
    obtain ⟨x1, hx1⟩ : ∃ x1, x1 = dn.getD 1 0 := ⟨_, rfl⟩
    rw [← hx0, ← hx1] at k1
    have k0' := Lib.hid k0
    have k1' := Lib.hid k1
    obtain ⟨a0, a1, af⟩ := k0.two
    obtain ⟨b0, b1, bf⟩ := k1.two
    have hs1 := k1.lt
    have hx0' := Lib.hid hx0
    have hx1' := Lib.hid hx1
    clear hx0 hx1 k0 k1 hB hkl hdn
    by_cases hlt : i < n
    · have d0 : (i : Int) < (n : Int) := by omega
      obtain ⟨q, hq⟩ : ∃ q, n - i = q + 1 := ⟨n - i - 1, by omega⟩
      have HR' : Hid (restT dn (q + 1) left = R) := Lib.hid (by rw [← hq]; exact HR.out)
      have hq' := Lib.hid hq
      clear HR hq
      cases left with
      | nil =>
        have hn1 := Lib.hid (next_none w0 wr m g B A c vc vj code js labs hB'.out)
        have a9 := asN_nil
        obtain rfl : R = none := by rw [← HR'.out]; rfl
        go_wp2_with (go_at_call 41; go_must ((with_reducible refine hn1.out.mono ?_); rintro e w1 ⟨rfl, rfl⟩))
        obtain ⟨r0, r1, -⟩ := (k0'.out.store2 (.int .i64 x0) (.int .i64 x1)).two
        exact bodyPost_ret (v := .tuple #[.agg #[.int .i64 x0, .int .i64 x1], .bool false]) (by simp [results, Tryd.results59, go_sem, r0, r1]) rfl ⟨(hb.setNew (by simp) _).setNew (by simp) _, x0, x1, rfl⟩
      | cons t left =>
        have hkt : okK t := hkl'.out t List.mem_cons_self
        by_cases ht : t.kind = 2
        · have hn1 := Lib.hid (next_is (.iface 90 (.int .i64 t.n)) w0 wr m g B A c vc vj t left code js labs hB'.out hkt (by simp [anyT, ht]))
          have a9 := asN_N
          have HR2 : Hid (restT (dn ++ [t.n]) q left = R) := Lib.hid (by rw [← HR'.out, rest_step dn q ht])
          clear HR' ht hkt
          have d1 : (i : Int) < 2 := by omega
          go_wp2_with (go_at_call 41; go_must ((with_reducible refine hn1.out.mono ?_); rintro e w1 ⟨rfl, ⟨A1, c1, hB1⟩, hb1⟩; have H1 := Lib.hid hB1; have z0 := Lib.hid (hb1.bk k0'.out (by omega)); have z1 := Lib.hid (hb1.bk k1'.out (by omega)); obtain ⟨y0, y1, yf⟩ := z1.out.two; have hs2 := z1.out.lt; obtain ⟨xi, yi⟩ : ∃ xi, w1.cell? ⟨w.heap.size + 1, i, none⟩ = some xi := ⟨_, (z1.out.cell i).trans (Array.getElem?_eq_getElem (by simp; omega))⟩; clear hB1 a0 a1 af b0 b1 bf hn1))
          go_roundw
          case rel =>
            refine ⟨i + 1, A1, c1, dn ++ [t.n], left, by omega, by go_num, by rw [List.length_append, hdn'.out]; rfl, H1.out.setOther z1.out (by decide) (by decide) (by omega) _ _, fun t ht => hkl'.out t (List.mem_cons_of_mem _ ht), ?_, z0.out.far (by simp) _, ?_, (hb.trans hb1).setNew (by simp) _⟩
            · rw [show n - (i + 1) = q by have := hq'.out; omega]
              exact HR2
            · have := z1.out.set i (.int .i64 t.n)
              rw [hx0'.out, hx1'.out, dn_set hdn'.out (by omega)] at this
              exact this
          case measure => simp [intOf]; omega
        · obtain rfl : R = none := by rw [← HR'.out]; exact rest_other dn q ht left
          have a8 := asN_W
          have a9 := asN_L
          rcases hkt with hk1 | hk1 | hk1
          · have hn1 := Lib.hid (next_is (.iface 75 (.string (strL t.word))) w0 wr m g B A c vc vj t left code js labs hB'.out (.inl hk1) (by simp [anyT, hk1]))
            clear hk1 ht
            go_wp2_with (go_at_call 41; go_must ((with_reducible refine hn1.out.mono ?_); rintro e w1 ⟨rfl, -, hb1⟩; have z0 := Lib.hid (hb1.bk k0'.out (by omega)); have z1 := Lib.hid (hb1.bk k1'.out (by omega)); obtain ⟨y0, y1, yf⟩ := z1.out.two; obtain ⟨v0, v1, vf⟩ := z0.out.two; have hs2 := z1.out.lt; clear a0 a1 af b0 b1 bf hn1))
            obtain ⟨r0, r1, -⟩ := (z0.out.store2 (.int .i64 x0) (.int .i64 x1)).two
            exact bodyPost_ret (v := .tuple #[.agg #[.int .i64 x0, .int .i64 x1], .bool false]) (by simp [results, Tryd.results59, go_sem, r0, r1]) rfl ⟨((hb.trans hb1).setNew (by simp) _).setNew (by simp) _, x0, x1, rfl⟩
          · exact absurd hk1 ht
          · have hn1 := Lib.hid (next_is (.iface 73 (.string (strL t.word))) w0 wr m g B A c vc vj t left code js labs hB'.out (.inr (.inr hk1)) (by simp [anyT, hk1]))
            clear hk1 ht
            go_wp2_with (go_at_call 41; go_must ((with_reducible refine hn1.out.mono ?_); rintro e w1 ⟨rfl, -, hb1⟩; have z0 := Lib.hid (hb1.bk k0'.out (by omega)); have z1 := Lib.hid (hb1.bk k1'.out (by omega)); obtain ⟨y0, y1, yf⟩ := z1.out.two; obtain ⟨v0, v1, vf⟩ := z0.out.two; have hs2 := z1.out.lt; clear a0 a1 af b0 b1 bf hn1))
            obtain ⟨r0, r1, -⟩ := (z0.out.store2 (.int .i64 x0) (.int .i64 x1)).two
            exact bodyPost_ret (v := .tuple #[.agg #[.int .i64 x0, .int .i64 x1], .bool false]) (by simp [results, Tryd.results59, go_sem, r0, r1]) rfl ⟨((hb.trans hb1).setNew (by simp) _).setNew (by simp) _, x0, x1, rfl⟩
    · obtain rfl : i = n := by omega
      obtain rfl : R = some (dn, left) := by rw [← HR.out, Nat.sub_self, rest_end]
      go_wp2
      obtain ⟨r0, r1, -⟩ := (k0'.out.store2 (.int .i64 x0) (.int .i64 x1)).two
      refine bodyPost_ret (v := .tuple #[.agg #[.int .i64 x0, .int .i64 x1], .bool true]) (by simp [results, Tryd.results59, go_sem, r0, r1]) rfl ⟨(hb.setNew (by simp) _).setNew (by simp) _, ?_, A, c, ?_⟩
      · rw [hx0'.out, hx1'.out]
      · have q1 := hB'.out.setOther k0'.out (by decide) (by decide) hBw 0 (.int .i64 x0)
        exact q1.setOther (k0'.out.set 0 (.int .i64 x0)) (by decide) (by decide) hBw 1 (.int .i64 x1)

end Go.Proofs.YtjbhhlhaikmecaaDoor
