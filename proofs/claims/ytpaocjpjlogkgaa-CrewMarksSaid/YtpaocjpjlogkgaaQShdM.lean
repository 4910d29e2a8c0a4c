/-
  Words and contracts of this claim, 3 texts laid into one, each under its own remark. No conditions but those that stand at each.
-/
import Derived.Test.YtpaocjpjlogkgaaZEntC
import Derived.Test.YtpaocjpjlogkgaaQWords
import Derived.Test.YtpaocjpjlogkgaaQRely
import Derived.OwnWalk

/-
  A mark in memory: its numbers and its two lists; rows of bools. No conditions but those that stand there.
-/
namespace Go.Proofs.Ytpaocjpjlogkgaa
open Go.RowKit
set_option maxRecDepth 100000

/-- a mark's cells. -/
abbrev mkC (on : Bool) (a1 a2 a3 a4 a5 a6 : Int) (O K : Value) : Array Value := #[.bool on, .int .i64 a1, .int .i64 a2, .int .i64 a3, .int .i64 a4, .int .i64 a5, .int .i64 a6, O, K]
/-- bools' cells. -/
def bsW (l : List Bool) : List Value := l.map .bool
theorem bsW_length (l : List Bool) : (bsW l).length = l.length := by simp [bsW]
theorem bsW_one (l : List Bool) : ∀ u ∈ bsW l, u.oneCell' = true := by
  intro u hu
  obtain ⟨x, _, rfl⟩ := List.mem_map.1 hu
  rfl
theorem bsW_set (l : List Bool) (j : Nat) (b : Bool) : setL (bsW l) j [.bool b] = bsW (l.set j b) := by
  simp [setL, bsW, List.map_set]

theorem infoMk : (Try.prog.info? 32).map (·.size) = some 9 := by kernel_rfl
theorem infoBool : ∃ i, Try.prog.info? 4 = some i ∧ i.zero = some (.bool false) ∧ i.size = 1 ∧ i.bytes = 1 := by
  have h : (Try.prog.info? 4).map (fun i => (i.zero, i.size, i.bytes)) = some (some (.bool false), 1, 1) := by kernel_rfl
  cases hi : Try.prog.info? 4 with
  | none => rw [hi] at h; cases h
  | some i =>
    rw [hi] at h
    simp only [Option.map_some, Option.some.injEq, Prod.mk.injEq] at h
    exact ⟨i, rfl, h.1, h.2.1, h.2.2⟩

/-- a mark's lists in memory, wherever. -/
structure MkIn (w : World) (old : List Ent) (kept : List Bool) (oA : Option Addr) (no oc : Nat) (kA : Option Addr) (nk kc : Nat) : Prop where
  lo : old.length = no
  lk : kept.length = nk
  e8 : Eight old
  so : Sl w 9 oA no oc (entsW old)
  sk : Sl w 1 kA nk kc (bsW kept)
theorem MkIn.below {w w' : World} {old : List Ent} {kept : List Bool} {oA : Option Addr} {no oc : Nat} {kA : Option Addr} {nk kc : Nat} (h : MkIn w old kept oA no oc kA nk kc) (hb : Below w.heap.size w w') : MkIn w' old kept oA no oc kA nk kc :=
  ⟨h.lo, h.lk, h.e8, h.so.below hb, h.sk.below hb⟩
theorem MkIn.ents {w : World} {old : List Ent} {kept : List Bool} {oA : Option Addr} {no oc : Nat} {kA : Option Addr} {nk kc : Nat} (h : MkIn w old kept oA no oc kA nk kc) : Ents w oA oc old := by
  have := h.so
  unfold Ents
  rw [h.lo]
  exact this

/-- a mark's lists in rows of one's own. -/
structure MkOwn (B : Nat) (w : World) (old : List Ent) (kept : List Bool) (oA : Option Addr) (no oc : Nat) (kA : Option Addr) (nk kc : Nat) : Prop where
  lo : old.length = no
  lk : kept.length = nk
  e8 : Eight old
  oo : w.ownsRow B 51 9 (.slice oA no oc) no (entsW old)
  ok : w.ownsRow B 4 1 (.slice kA nk kc) nk (bsW kept)
section
variable {B : Nat} {w w' : World} {old : List Ent} {kept : List Bool} {oA : Option Addr} {no oc : Nat} {kA : Option Addr} {nk kc : Nat}
theorem MkOwn.inn (h : MkOwn B w old kept oA no oc kA nk kc) : MkIn w old kept oA no oc kA nk kc := ⟨h.lo, h.lk, h.e8, Sl.own' h.oo, Sl.own' h.ok⟩
theorem MkOwn.below (h : MkOwn B w old kept oA no oc kA nk kc) (hb : Below w.heap.size w w') : MkOwn B w' old kept oA no oc kA nk kc := ⟨h.lo, h.lk, h.e8, own_below h.oo hb, own_below h.ok hb⟩
theorem MkOwn.lower {B' : Nat} (h : MkOwn B w old kept oA no oc kA nk kc) (hB : B' ≤ B) : MkOwn B' w old kept oA no oc kA nk kc := ⟨h.lo, h.lk, h.e8, own_lower h.oo hB, own_lower h.ok hB⟩
/-- another block's type is another one. -/
theorem own_varKeep {e t : TypeId} {size n : Nat} {v : Value} {xs : List Value} {g : Nat} {cs : Array Value} (h : w.ownsRow B e size v n xs) (hg : Bk w g t cs) (hne : t ≠ e) (hk : ∀ k, k ≠ g → w'.heap[k]? = w.heap[k]?) : w'.ownsRow B e size v n xs :=
  own_keep h fun k _ hb => hk k (by
    rintro rfl
    rcases h.2 with ⟨rfl, _⟩ | ⟨g', cap, cur, rfl, _, hc, _⟩
    · simp [Value.ownBlock] at hb
    · simp [Value.ownBlock] at hb
      subst hb
      exact hg.ne hc hne rfl)
theorem own_varRow {e t : TypeId} {size n : Nat} {v : Value} {xs : List Value} {g : Nat} {cs : Array Value} (h : w.ownsRow B e size v n xs) (hg : Bk w g t cs) (hne : t ≠ e) (cs' : Array Value) : (w.setRow g cs').ownsRow B e size v n xs :=
  own_varKeep h hg hne fun k hk => setRow_other w g k cs' hk
theorem own_varCell {e t : TypeId} {size n : Nat} {v : Value} {xs : List Value} {g : Nat} {cs : Array Value} (h : w.ownsRow B e size v n xs) (hg : Bk w g t cs) (hne : t ≠ e) (i : Nat) (u : Value) : (w.setCell ⟨g, i, none⟩ u).ownsRow B e size v n xs :=
  own_varKeep h hg hne fun k hk => Below.heap_setCell w ⟨g, i, none⟩ u k hk
theorem MkOwn.varRow {t : TypeId} {g : Nat} {cs : Array Value} (h : MkOwn B w old kept oA no oc kA nk kc) (hg : Bk w g t cs) (h1 : t ≠ 51) (h2 : t ≠ 4) (cs' : Array Value) : MkOwn B (w.setRow g cs') old kept oA no oc kA nk kc :=
  ⟨h.lo, h.lk, h.e8, own_varRow h.oo hg h1 cs', own_varRow h.ok hg h2 cs'⟩
end

/-- a row, wherever: a word of what an operation leaves. -/
def rowsV (B : Nat) (e : TypeId) (size n : Nat) (xs : List Value) : Says := fun v w => ∃ A c, v = .slice A n c ∧ w.ownsRow B e size (.slice A n c) n xs
theorem rowsV_keep {B : Nat} {e : TypeId} {size n : Nat} {xs : List Value} (v : Value) (w w' : World) (hb : Below w.heap.size w w') (h : rowsV B e size n xs v w) : rowsV B e size n xs v w' := by
  obtain ⟨A, c, rfl, ho⟩ := h
  exact ⟨A, c, rfl, own_below ho hb⟩
theorem rowsV_call {f : FuncId} {args : Array Value} {w : World} {B : Nat} {e : TypeId} {size n : Nat} {xs : List Value} (hB : B ≤ w.heap.size)
    (h : Calls Try.prog f args w fun en w' => ∃ A c, en = .returned (.slice A n c) ∧ w'.ownsRow w.heap.size e size (.slice A n c) n xs ∧ Below w.heap.size w w') :
    Calls Try.prog f args w fun en w' => ∃ v, en = .returned v ∧ Below w.heap.size w w' ∧ rowsV B e size n xs v w' :=
  h.mono fun _ _ ⟨A, c, he, ho, hb⟩ => ⟨_, he, hb, A, c, rfl, own_lower ho hB⟩

section
variable {ops : Array Oper} {rest : List Oper} {o : Oper} {a : Act} {w : World} {Q : Exit → Act → World → Prop}
theorem ld_mk (g : Nat) {on : Bool} {a1 a2 a3 a4 a5 a6 : Int} {O K : Value} (hk : Bk w g 32 (mkC on a1 a2 a3 a4 a5 a6 O K)) (x : Operand) (hgd : o.guard = none) (ho : o.op = .load 32 x) (hx : a.eval x = .pointer (some ⟨g, 0, none⟩))
    (h : wpList Try.prog ops Q rest (a.put o.dst (.agg (mkC on a1 a2 a3 a4 a5 a6 O K))) w) : wpList Try.prog ops Q (o :: rest) a w :=
  wpList_load_row hgd _ x ho g hx _ _ (0, 0) _ hk Try.underlying32 rfl infoMk h
theorem st_mk (g : Nat) {on : Bool} {a1 a2 a3 a4 a5 a6 : Int} {O K : Value} {cs : Array Value} (hk : Bk w g 32 cs) (hs : cs.size = 9)
    (hO : O.oneCell' = true) (hK : K.oneCell' = true) (x y : Operand) (hgd : o.guard = none) (ho : o.op = .store 32 x y) (hx : a.eval x = .pointer (some ⟨g, 0, none⟩)) (hy : a.eval y = .agg (mkC on a1 a2 a3 a4 a5 a6 O K))
    (h : wpList Try.prog ops Q rest (a.put o.dst undef) (w.setRow g (mkC on a1 a2 a3 a4 a5 a6 O K))) : wpList Try.prog ops Q (o :: rest) a w :=
  wpList_store_row hgd _ x y ho g _ hx hy _ _ hk infoMk (by rw [hs]; rfl) (by simp [Value.oneCell']; exact ⟨hO, hK⟩) h
end
theorem load_mk {w : World} {g : Nat} {on : Bool} {a1 a2 a3 a4 a5 a6 : Int} {O K : Value} (hk : Bk w g 32 (mkC on a1 a2 a3 a4 a5 a6 O K)) :
    (loadVar 32 ⟨g, 0, none⟩).run Try.prog w = .ok (.agg (mkC on a1 a2 a3 a4 a5 a6 O K)) w :=
  run_loadVar_row w g _ _ _ (0, 0) _ hk Try.underlying32 rfl infoMk

/-- a place of a list of bools. -/
theorem Sl.bool {w : World} {A : Option Addr} {n c : Nat} {l : List Bool} (h : Sl w 1 A n c (bsW l)) {j : Nat} (hj : j < n) : ∃ b off, A = some ⟨b, off, none⟩ ∧ b < w.heap.size ∧ w.cell? ⟨b, off + j, none⟩ = some (.bool (l[j]?.getD false)) := by
  obtain ⟨b, off, rfl, hb, hc⟩ := h.2.2.2 (by omega)
  have hl := h.1
  rw [bsW_length] at hl
  refine ⟨b, off, rfl, hb, ?_⟩
  rw [hc j (by omega)]
  simp [bsW, show j < l.length by omega]

set_option maxHeartbeats 400000 in
theorem clone_bools (A : Option Addr) (n c : Nat) (xs : List Value) (w : World) (hA : Sl w 1 A n c xs) (hn : n ≤ 1000) (h1 : ∀ u ∈ xs, u.oneCell' = true) :
    Calls Try.prog 95 #[.slice A n c] w
      fun e w' => ∃ A' c', e = .returned (.slice A' n c') ∧ w'.ownsRow w.heap.size 4 1 (.slice A' n c') n xs ∧ Below w.heap.size w w' := by
  obtain ⟨i0, hi, hz0, hz1, hz2⟩ := infoBool
  have HA := Lib.hid hA
  have H1 := Lib.hid h1
  clear hA h1
  cases A with
  | none =>
    obtain ⟨rfl, rfl⟩ := HA.out.2.2.1 rfl
    have hq := Lib.run_eql_slice_nil (P := Try.prog) w 30 4 none 0 0 0 0 Try.underlying30
    go_enter Try.func95, Try.ntmps95
    go_wp2
    go_ret
    refine ⟨none, 0, rfl, ?_, Below.refl _ _⟩
    have := HA.out.1
    exact ⟨this, .inl ⟨rfl, rfl⟩⟩
  | some a =>
    have hq := Lib.run_eql_slice_nil (P := Try.prog) w 30 4 (some a) n c 0 0 Try.underlying30
    go_enter Try.func95, Try.ntmps95
    go_wp2_with (at_builtin; go_must (refine wpList_append_own _ rfl (.tmp 5) (.tmp 6) _ rfl w.heap.size 4 i0 _ 1 1 Try.underlying30 hi hz0 hz1 hz2 rfl (by decide) _ 0 [] rfl (World.ownsRow_lit w #[] 0 (Nat.le_refl _) (by decide) rfl) a n c xs rfl HA.out.1 ((HA.out.alloc _).olds a rfl) H1.out (by unfold maxLen; omega) (by omega) (by simp) ?_; intro v' w1 hown hg hnil))
    obtain ⟨A', c', rfl, hsl⟩ := Sl.own hown
    simp only [Nat.zero_add, List.nil_append] at hown
    go_wp2
    go_ret
    exact ⟨A', c', by simp, hown, ((Below.refl _ _).alloc (Nat.le_refl _) _).grown hg (by simp) (fun k hk => by
      have hk' : (Value.slice (some ⟨w.heap.size, 0, none⟩) 0 0).ownBlock = some k := hk
      simp [Value.ownBlock] at hk'
      omega)⟩

/-- so many bools, none set. -/
theorem made_bools (n : Nat) : (madeCells #[.bool false] (n * 1)).toList = bsW (List.replicate n false) := by
  simp [madeCells, bsW]
  apply List.ext_getElem?
  intro j
  by_cases hj : j < n
  · simp [hj, Nat.mod_one]
  · simp [hj]

end Go.Proofs.Ytpaocjpjlogkgaa

/-
  What shade.has, shade.fits, shade.See and foremanref13.See answer, in whatever memory. No conditions but those that stand there.
-/
namespace Go.Proofs.Ytpaocjpjlogkgaa
open Go.RowKit
set_option maxRecDepth 100000

theorem hasE_any (A : Option Addr) (n c : Nat) (i : Int) (b : Bool) (w : World) (hb : b = true ↔ 0 ≤ i ∧ i < (n : Int)) :
    Calls Try.prog 96 #[.slice A n c, .int .i64 i] w fun e w' => e = .returned (.bool b) ∧ w = w' := by
  by_cases h0 : 0 ≤ i
  · by_cases h1 : i < (n : Int)
    · obtain rfl : b = true := hb.2 ⟨h0, h1⟩
      clear hb
      go_enter Try.func96, Try.ntmps96
      go_wp2
      go_ret
      exact ⟨rfl, rfl⟩
    · obtain rfl : b = false := by
        cases b
        · rfl
        · exact absurd (hb.1 rfl).2 h1
      clear hb
      go_enter Try.func96, Try.ntmps96
      go_wp2
      go_ret
      exact ⟨rfl, rfl⟩
  · obtain rfl : b = false := by
      cases b
      · rfl
      · exact absurd (hb.1 rfl).1 h0
    clear hb
    go_enter Try.func96, Try.ntmps96
    go_wp2
    go_ret
    exact ⟨rfl, rfl⟩

theorem hasB_any (A : Option Addr) (n c : Nat) (i : Int) (b : Bool) (w : World) (hb : b = true ↔ 0 ≤ i ∧ i < (n : Int)) :
    Calls Try.prog 106 #[.slice A n c, .int .i64 i] w fun e w' => e = .returned (.bool b) ∧ w = w' := by
  by_cases h0 : 0 ≤ i
  · by_cases h1 : i < (n : Int)
    · obtain rfl : b = true := hb.2 ⟨h0, h1⟩
      clear hb
      go_enter Try.func106, Try.ntmps106
      go_wp2
      go_ret
      exact ⟨rfl, rfl⟩
    · obtain rfl : b = false := by
        cases b
        · rfl
        · exact absurd (hb.1 rfl).2 h1
      clear hb
      go_enter Try.func106, Try.ntmps106
      go_wp2
      go_ret
      exact ⟨rfl, rfl⟩
  · obtain rfl : b = false := by
      cases b
      · rfl
      · exact absurd (hb.1 rfl).1 h0
    clear hb
    go_enter Try.func106, Try.ntmps106
    go_wp2
    go_ret
    exact ⟨rfl, rfl⟩

section
variable (on : Bool) (a1 a2 a3 a4 a5 a6 : Int) (oA : Option Addr) (no oc : Nat) (kA : Option Addr) (kc : Nat)

theorem fits_is (i : Int) (b : Bool) (w : World) (hb : b = true ↔ 0 ≤ i ∧ i < (no : Int)) :
    Calls Try.prog 97 #[.agg (mkC on a1 a2 a3 a4 a5 a6 (.slice oA no oc) (.slice kA no kc)), .int .i64 i] w fun e w' => e = .returned (.bool b) ∧ Below w.heap.size w w' := by
  have h1 := Lib.hid (fun W => hasB_any kA no kc i b W hb)
  have h2 := Lib.hid (fun W => hasE_any oA no oc i b W hb)
  have B0 := Lib.hid (below_alloc1 w (.cells (mkC on a1 a2 a3 a4 a5 a6 (.slice oA no oc) (.slice kA no kc)) 32))
  clear hb
  cases b
  · go_enter Try.func97, Try.ntmps97
    go_wp2_with (first
      | (go_at_call 106; go_must ((with_reducible refine (h1.out _).mono ?_); rintro e w1 ⟨rfl, rfl⟩))
      | (go_at_call 96; go_must ((with_reducible refine (h2.out _).mono ?_); rintro e w1 ⟨rfl, rfl⟩)))
    go_ret
    exact ⟨rfl, B0.out⟩
  · go_enter Try.func97, Try.ntmps97
    go_wp2_with (first
      | (go_at_call 106; go_must ((with_reducible refine (h1.out _).mono ?_); rintro e w1 ⟨rfl, rfl⟩))
      | (go_at_call 96; go_must ((with_reducible refine (h2.out _).mono ?_); rintro e w1 ⟨rfl, rfl⟩)))
    go_ret
    exact ⟨rfl, B0.out⟩

/-- a mark in its box, and a result's block. -/
abbrev kB (cs : Array Value) (z : Array Value) (t : TypeId) (w : World) : World := (w.alloc (.cells cs 32)).alloc (.cells z t)
theorem kB_below (cs z : Array Value) (t : TypeId) (w : World) : Below w.heap.size w (kB cs z t w) := bnext (below_alloc1 _ _) (below_alloc1 _ _)
theorem kB_box (cs z : Array Value) (t : TypeId) (w : World) : Bk (kB cs z t w) w.heap.size 32 cs := (Bk.new w _ _).alloc _
theorem kB_res (cs z : Array Value) (t : TypeId) (w : World) : Bk (kB cs z t w) (w.heap.size + 1) t z := by
  have := Bk.new (w.alloc (.cells cs 32)) t z
  rwa [World.size_alloc] at this
theorem Bk.nine {w : World} {g : Nat} {t : TypeId} {a b c d e f x y z : Value} (h : Bk w g t #[a, b, c, d, e, f, x, y, z]) :
    w.cell? ⟨g, 0, none⟩ = some a ∧ w.cell? ⟨g, 7, none⟩ = some y ∧ w.cell? ⟨g, 8, none⟩ = some z ∧ ∀ o, w.frozen? ⟨g, o, none⟩ = false :=
  ⟨h.cell 0, h.cell 7, h.cell 8, fun o => h.frozen o⟩
theorem bkC_entZ : bkC (entI entZ) = #[.int .i64 0, .int .i64 0, .int .i64 0, .int .i64 0, .int .i64 0, .int .i64 0, .int .i64 0, .int .i64 0, .int .i64 0] := rfl

set_option maxHeartbeats 4000000 in
theorem rsee_any (old : List Ent) (kept : List Bool) (l : List Ent) (lA : Option Addr) (ln lc : Nat) (i : Int) (w : World) (hM : MkIn w old kept oA no oc kA no kc) (hL : Ents w lA lc l) (h8 : Eight l) (hln : l.length = ln) :
    Calls Try.prog 13 #[.agg (mkC on a1 a2 a3 a4 a5 a6 (.slice oA no oc) (.slice kA no kc)), .slice lA ln lc, .int .i64 i] w
      fun e w' => e = .returned (.agg (bkC (entI (seeS ⟨on, old, kept⟩ l i)))) ∧ Below w.heap.size w w' := by
  have HM := Lib.hid hM
  have HL := Lib.hid hL
  have hoc : no ≤ oc := hM.so.2.1
  have hkc : no ≤ kc := hM.sk.2.1
  have hlc : ln ≤ lc := by have := hL.2.1; omega
  have hlk := hM.lk
  have hlo := hM.lo
  have e8 := hM.e8
  have B0 := Lib.hid (kB_below (mkC on a1 a2 a3 a4 a5 a6 (.slice oA no oc) (.slice kA no kc)) (bkC (entI entZ)) 51 w)
  have X0 := Lib.hid (kB_box (mkC on a1 a2 a3 a4 a5 a6 (.slice oA no oc) (.slice kA no kc)) (bkC (entI entZ)) 51 w)
  have R0 := Lib.hid (kB_res (mkC on a1 a2 a3 a4 a5 a6 (.slice oA no oc) (.slice kA no kc)) (bkC (entI entZ)) 51 w)
  clear hM hL
  by_cases hi : 0 ≤ i ∧ i < (ln : Int)
  · have hs : seeS ⟨on, old, kept⟩ l i = if on = true ∧ kept[i.toNat]? = some true then old[i.toNat]?.getD entZ else l[i.toNat]?.getD entZ := by
      unfold seeS
      rw [if_pos (by rw [hln]; exact hi)]
    obtain ⟨j, rfl⟩ : ∃ j : Nat, i = (j : Int) := ⟨i.toNat, by omega⟩
    rw [Int.toNat_natCast] at hs
    have hj : j < ln := by omega
    have hhas := Lib.hid (fun W => hasE_any lA ln lc (j : Int) true W ⟨fun _ => by omega, fun _ => rfl⟩)
    have d0 : (0 : Int) ≤ (j : Int) := by omega
    have d1 : (j : Int) < (ln : Int) := by omega
    have d2 : (j : Int) < (lc : Int) := by omega
    by_cases hc : on = true ∧ kept[j]? = some true
    · rw [if_pos hc] at hs
      obtain ⟨rfl, hk⟩ := hc
      have hjk : j < no := by
        rcases Nat.lt_or_ge j no with h | h
        · exact h
        · rw [List.getElem?_eq_none (by omega)] at hk; cases hk
      obtain ⟨b, off, rfl, hb, hv⟩ := HM.out.sk.bool (j := j) hjk
      rw [hk] at hv
      have hv := (B0.out.cell (p := ⟨b, off + j, none⟩) hb).trans hv
      obtain ⟨g, og, rfl, hg, hl⟩ := HM.out.ents.range e8 (i := j) (by omega)
      have hz := e8.at j
      have d3 : (j : Int) < (no : Int) := by omega
      have d4 : (j : Int) < (kc : Int) := by omega
      have d6 : (j : Int) < (oc : Int) := by omega
      rw [hs]
      generalize old[j]?.getD entZ = x at *
      have HR := Lib.hid (fun W hW => (hl W hW).1)
      have i9 : (Try.prog.info? 51).map (·.size) = some ((entI x).map (Value.int .i64)).length := by rw [List.length_map, entI_length hz]; exact infoEnt9
      have i9' := infoEnt hz
      have s9 : (bkC (entI x)).size = 9 := by rw [bkC_size, entI_length hz]
      obtain ⟨c0, c7, c8, cf⟩ := X0.out.nine
      have cl := X0.out.lt
      have HV := Lib.hid hv
      have hb' : b < w.heap.size + 1 + 1 := by omega
      rw [bkC_entZ] at *
      clear hs hl hk e8 hlk hlo hln h8
      go_enter Try.func13, Try.ntmps13
      go_wp2_with (first
        | (refine wpList_load_mid rfl 51 _ rfl g (og + j * 9) rfl _ _ (HR.out _ B0.out) Try.underlying51 rfl i9 ?_)
        | (refine wpList_store_row rfl 51 _ _ rfl (w.heap.size + 1) (bkC (entI x)) rfl rfl 51 _ R0.out i9' (by rw [s9]; rfl) (bkC_all _) ?_))
      exact bodyPost_ret (v := .agg (bkC (entI x))) (results_cell_row rfl _ _ (w.heap.size + 1) _ _ (0, 0) _ rfl (Bk.setRow R0.out _) Try.underlying51 rfl i9') rfl ⟨rfl, below_row B0.out (by omega) _⟩
    · rw [if_neg hc] at hs
      obtain ⟨g, og, rfl, hg, hl⟩ := HL.out.range h8 (i := j) (by omega)
      have hz := h8.at j
      rw [hs]
      generalize l[j]?.getD entZ = x at *
      have HR := Lib.hid (fun W hW => (hl W hW).1)
      have i9 : (Try.prog.info? 51).map (·.size) = some ((entI x).map (Value.int .i64)).length := by rw [List.length_map, entI_length hz]; exact infoEnt9
      have i9' := infoEnt hz
      have s9 : (bkC (entI x)).size = 9 := by rw [bkC_size, entI_length hz]
      obtain ⟨c0, c7, c8, cf⟩ := X0.out.nine
      have cl := X0.out.lt
      clear hs hl
      cases on with
      | false =>
        rw [bkC_entZ] at *
        clear e8 hlk hlo hln h8 hc
        go_enter Try.func13, Try.ntmps13
        go_wp2_with (first
          | (refine wpList_load_mid rfl 51 _ rfl g (og + j * 9) rfl _ _ (HR.out _ B0.out) Try.underlying51 rfl i9 ?_)
          | (refine wpList_store_row rfl 51 _ _ rfl (w.heap.size + 1) (bkC (entI x)) rfl rfl 51 _ R0.out i9' (by rw [s9]; rfl) (bkC_all _) ?_))
        exact bodyPost_ret (v := .agg (bkC (entI x))) (results_cell_row rfl _ _ (w.heap.size + 1) _ _ (0, 0) _ rfl (Bk.setRow R0.out _) Try.underlying51 rfl i9') rfl ⟨rfl, below_row B0.out (by omega) _⟩
      | true =>
        by_cases hjk : j < no
        · have hk : kept[j]?.getD false = false := by
            rw [List.getElem?_eq_getElem (by omega)] at hc ⊢
            simpa using hc
          obtain ⟨b, off, rfl, hb, hv⟩ := HM.out.sk.bool (j := j) hjk
          rw [hk] at hv
          have hv := (B0.out.cell (p := ⟨b, off + j, none⟩) hb).trans hv
          have d3 : (j : Int) < (no : Int) := by omega
          have d4 : (j : Int) < (kc : Int) := by omega
          have HV := Lib.hid hv
          have hb' : b < w.heap.size + 1 + 1 := by omega
          rw [bkC_entZ] at *
          clear e8 hlk hlo hln h8 hc hk
          go_enter Try.func13, Try.ntmps13
          go_wp2_with (first
            | (refine wpList_load_mid rfl 51 _ rfl g (og + j * 9) rfl _ _ (HR.out _ B0.out) Try.underlying51 rfl i9 ?_)
            | (refine wpList_store_row rfl 51 _ _ rfl (w.heap.size + 1) (bkC (entI x)) rfl rfl 51 _ R0.out i9' (by rw [s9]; rfl) (bkC_all _) ?_))
          exact bodyPost_ret (v := .agg (bkC (entI x))) (results_cell_row rfl _ _ (w.heap.size + 1) _ _ (0, 0) _ rfl (Bk.setRow R0.out _) Try.underlying51 rfl i9') rfl ⟨rfl, below_row B0.out (by omega) _⟩
        · have d3 : ¬ (j : Int) < (no : Int) := by omega
          rw [bkC_entZ] at *
          clear e8 hlk hlo hln h8 hc
          go_enter Try.func13, Try.ntmps13
          go_wp2_with (first
            | (refine wpList_load_mid rfl 51 _ rfl g (og + j * 9) rfl _ _ (HR.out _ B0.out) Try.underlying51 rfl i9 ?_)
            | (refine wpList_store_row rfl 51 _ _ rfl (w.heap.size + 1) (bkC (entI x)) rfl rfl 51 _ R0.out i9' (by rw [s9]; rfl) (bkC_all _) ?_))
          exact bodyPost_ret (v := .agg (bkC (entI x))) (results_cell_row rfl _ _ (w.heap.size + 1) _ _ (0, 0) _ rfl (Bk.setRow R0.out _) Try.underlying51 rfl i9') rfl ⟨rfl, below_row B0.out (by omega) _⟩
  · have hs : seeS ⟨on, old, kept⟩ l i = entZ := by
      unfold seeS
      rw [if_neg (by rw [hln]; exact hi)]
    rw [hs, bkC_entZ]
    have iZ := infoEnt entZ_eight
    rw [bkC_entZ] at *
    clear e8 hlk hlo hln h8 hs
    by_cases h0 : i < 0
    · clear hi
      go_enter Try.func13, Try.ntmps13
      go_wp2_with (refine wpList_store_row rfl 51 _ _ rfl (w.heap.size + 1) #[.int .i64 0, .int .i64 0, .int .i64 0, .int .i64 0, .int .i64 0, .int .i64 0, .int .i64 0, .int .i64 0, .int .i64 0] rfl rfl 51 _ R0.out iZ rfl rfl ?_)
      exact bodyPost_ret (v := .agg #[.int .i64 0, .int .i64 0, .int .i64 0, .int .i64 0, .int .i64 0, .int .i64 0, .int .i64 0, .int .i64 0, .int .i64 0]) (results_cell_row rfl _ _ (w.heap.size + 1) _ _ (0, 0) _ rfl R0.out Try.underlying51 rfl iZ) rfl ⟨rfl, B0.out⟩
    · have h1 : (ln : Int) ≤ i := by omega
      clear hi
      go_enter Try.func13, Try.ntmps13
      go_wp2_with (refine wpList_store_row rfl 51 _ _ rfl (w.heap.size + 1) #[.int .i64 0, .int .i64 0, .int .i64 0, .int .i64 0, .int .i64 0, .int .i64 0, .int .i64 0, .int .i64 0, .int .i64 0] rfl rfl 51 _ R0.out iZ rfl rfl ?_)
      exact bodyPost_ret (v := .agg #[.int .i64 0, .int .i64 0, .int .i64 0, .int .i64 0, .int .i64 0, .int .i64 0, .int .i64 0, .int .i64 0, .int .i64 0]) (results_cell_row rfl _ _ (w.heap.size + 1) _ _ (0, 0) _ rfl R0.out Try.underlying51 rfl iZ) rfl ⟨rfl, B0.out⟩

end
end Go.Proofs.Ytpaocjpjlogkgaa

/-
  What shade.Begin and foremanref13.Begin answer, in whatever memory. No conditions but those that stand there.
-/
namespace Go.Proofs.Ytpaocjpjlogkgaa
open Go.RowKit
set_option maxRecDepth 100000
attribute [local go_sem] look findAt
attribute [local simp] depsOf depsE isV Region.binds

section
variable {ops : Array Oper} {rest : List Oper} {o : Oper} {a : Act} {w : World} {Q : Exit → Act → World → Prop}
end
theorem exec_make_ents (ρ : Operand → Value) (w : World) (o : Oper) (B n : Nat) (hn : n ≤ 1000) (hB : B ≤ w.heap.size) (l c : Operand) (ho : o.op = .makeSlice 26 l c) (hl : ρ l = .int .i64 (n : Int)) (hc : ρ c = .int .i64 (n : Int)) :
    ∃ v w', (execOp ρ o).run Try.prog w = .ok (.value v) w' ∧ Below w.heap.size w w' ∧ rowsV B 51 9 n (entsW (List.replicate n entZ)) v w' := by
  obtain ⟨i0, hi, hz0, hz1, hz2⟩ := infoEntZ
  obtain ⟨w', hr, h1, h2⟩ := run_make_full (P := Try.prog) w B 26 51 i0 (.agg (bkC (entI entZ))) 9 Try.underlying26 hi hz0 hz1 .i64 .i64 n (by rw [hz2]; omega) (by unfold maxLen; omega) hB
  rw [show (Value.agg (bkC (entI entZ))).cells = bkC (entI entZ) from rfl, made_ents] at h1
  refine ⟨_, w', ?_, bfresh h2, _, _, rfl, h1⟩
  unfold execOp
  simp only [ho, hl, hc, hr, Sem.run_bind, Sem.run_pure, Result.andThen_ok]
theorem exec_make_bools (ρ : Operand → Value) (w : World) (o : Oper) (B n : Nat) (hn : n ≤ 1000) (hB : B ≤ w.heap.size) (l c : Operand) (ho : o.op = .makeSlice 30 l c) (hl : ρ l = .int .i64 (n : Int)) (hc : ρ c = .int .i64 (n : Int)) :
    ∃ v w', (execOp ρ o).run Try.prog w = .ok (.value v) w' ∧ Below w.heap.size w w' ∧ rowsV B 4 1 n (bsW (List.replicate n false)) v w' := by
  obtain ⟨i0, hi, hz0, hz1, hz2⟩ := infoBool
  obtain ⟨w', hr, h1, h2⟩ := run_make_full (P := Try.prog) w B 30 4 i0 (.bool false) 1 Try.underlying30 hi hz0 hz1 .i64 .i64 n (by rw [hz2]; omega) (by unfold maxLen; omega) hB
  rw [show (Value.bool false).cells = #[.bool false] from rfl, made_bools] at h1
  refine ⟨_, w', ?_, bfresh h2, _, _, rfl, h1⟩
  unfold execOp
  simp only [ho, hl, hc, hr, Sem.run_bind, Sem.run_pure, Result.andThen_ok]

/-- a mark that was begun, or kept: its lists are its own. -/
def MkPost (on : Bool) (a1 a2 a3 a4 a5 a6 : Int) (no : Nat) (M : Mrk) (w : World) (e : Ending) (w' : World) : Prop :=
  ∃ oA oc kA kc, e = .returned (.agg (mkC on a1 a2 a3 a4 a5 a6 (.slice oA no oc) (.slice kA no kc))) ∧ MkOwn w.heap.size w' M.old M.kept oA no oc kA no kc ∧ Below w.heap.size w w'

abbrev mkZ : Array Value := mkC false 0 0 0 0 0 0 (.slice none 0 0) (.slice none 0 0)
theorem nought_eight (n : Nat) : Eight (List.replicate n entZ) := fun e he => by
  rw [(List.mem_replicate.1 he).2]
  rfl
theorem own_begin {B n : Nat} {W : World} {oA : Option Addr} {oc : Nat} {kA : Option Addr} {kc : Nat} (h1 : W.ownsRow B 51 9 (.slice oA n oc) n (entsW (List.replicate n entZ))) (h2 : W.ownsRow B 4 1 (.slice kA n kc) n (bsW (List.replicate n false))) :
    MkOwn B W (beginS n).old (beginS n).kept oA n oc kA n kc :=
  ⟨by simp [beginS], by simp [beginS], by simpa [beginS] using nought_eight n, by simpa [beginS] using h1, by simpa [beginS] using h2⟩

/-- where the lists of a mark that is begun come to lie. -/
structure BgE where
  oA : Option Addr
  oc : Nat
  kA : Option Addr
  kc : Nat
/-- what each operation leaves. -/
def bgV (n box : Nat) (x : BgE) : Nat → Value
  | 0 => .int .i64 (n : Int)
  | 1 => .int .i64 (n : Int)
  | 2 => .slice x.oA n x.oc
  | 3 => .int .i64 (n : Int)
  | 4 => .int .i64 (n : Int)
  | 5 => .slice x.kA n x.kc
  | 6 => .pointer (some ⟨box, 0, none⟩)
  | 8 => .pointer (some ⟨box, 7, none⟩)
  | _ => undef
/-- what holds once those of d have come up. -/
structure BgH (w : World) (n : Nat) (on : Bool) (a1 a2 a3 a4 a5 a6 : Int) (O K : Value) (d : Nat → Bool) (x : BgE) (X : World) : Prop where
  below : Below w.heap.size w X
  room : w.heap.size + 1 + 1 ≤ X.heap.size
  o9 : d 9 = true → d 2 = true
  box : Bk X w.heap.size 32 (mkC (if d 7 = true then true else on) a1 a2 a3 a4 a5 a6 (if d 9 = true then .slice x.oA n x.oc else O) K)
  res : Bk X (w.heap.size + 1) 32 mkZ
  old : d 2 = true → X.ownsRow w.heap.size 51 9 (.slice x.oA n x.oc) n (entsW (List.replicate n entZ))
  kept : d 5 = true → X.ownsRow w.heap.size 4 1 (.slice x.kA n x.kc) n (bsW (List.replicate n false))

section
variable {w : World} {n : Nat} {on : Bool} {a1 a2 a3 a4 a5 a6 : Int} {O K : Value} {d : Nat → Bool} {x : BgE} {X : World}
theorem BgH.is (h : BgH w n on a1 a2 a3 a4 a5 a6 O K d x X) {i : Nat} (hi : i = 0 ∨ i = 1 ∨ i = 3 ∨ i = 4 ∨ i = 6 ∨ i = 8) : BgH w n on a1 a2 a3 a4 a5 a6 O K (updB d i) x X := by
  obtain ⟨b, r, o9, bx, rs, ol, kp⟩ := h
  rcases hi with rfl | rfl | rfl | rfl | rfl | rfl <;> exact ⟨b, r, o9, bx, rs, ol, kp⟩
theorem BgH.step2 (h : BgH w n on a1 a2 a3 a4 a5 a6 O K d x X) (hf : d 2 = false) {A : Option Addr} {k : Nat} {X' : World} (ho : X'.ownsRow w.heap.size 51 9 (.slice A n k) n (entsW (List.replicate n entZ))) (hb : Below X.heap.size X X') :
    BgH w n on a1 a2 a3 a4 a5 a6 O K (updB d 2) { x with oA := A, oc := k } X' := by
  obtain ⟨b, r, o9, bx, rs, ol, kp⟩ := h
  have n9 : d 9 = false := by cases hq : d 9 with | false => rfl | true => rw [o9 hq] at hf; cases hf
  refine ⟨bnext b hb, Nat.le_trans r hb.size, fun _ => rfl, ?_, rs.below hb, fun _ => ho, fun q => own_below (kp q) hb⟩
  have := bx.below hb
  rw [n9] at this
  show Bk X' w.heap.size 32 (mkC (if d 7 = true then true else on) a1 a2 a3 a4 a5 a6 (if d 9 = true then _ else O) K)
  rw [n9]
  exact this
theorem bgV_same2 (hf : d 2 = false) {box : Nat} {A : Option Addr} {k : Nat} : ∀ j, d j = true → bgV n box { x with oA := A, oc := k } j = bgV n box x j := by
  intro j hj
  match j, hj with
  | 0, _ => rfl
  | 1, _ => rfl
  | 2, hj => rw [hf] at hj; cases hj
  | 3, _ => rfl
  | 4, _ => rfl
  | 5, _ => rfl
  | 6, _ => rfl
  | 7, _ => rfl
  | 8, _ => rfl
  | (j + 9), _ => rfl
theorem BgH.step5 (h : BgH w n on a1 a2 a3 a4 a5 a6 O K d x X) {A : Option Addr} {k : Nat} {X' : World} (ho : X'.ownsRow w.heap.size 4 1 (.slice A n k) n (bsW (List.replicate n false))) (hb : Below X.heap.size X X') :
    BgH w n on a1 a2 a3 a4 a5 a6 O K (updB d 5) { x with kA := A, kc := k } X' := by
  obtain ⟨b, r, o9, bx, rs, ol, kp⟩ := h
  exact ⟨bnext b hb, Nat.le_trans r hb.size, o9, bx.below hb, rs.below hb, fun q => own_below (ol q) hb, fun _ => ho⟩
theorem bgV_same5 (hf : d 5 = false) {box : Nat} {A : Option Addr} {k : Nat} : ∀ j, d j = true → bgV n box { x with kA := A, kc := k } j = bgV n box x j := by
  intro j hj
  match j, hj with
  | 0, _ => rfl
  | 1, _ => rfl
  | 2, _ => rfl
  | 3, _ => rfl
  | 4, _ => rfl
  | 5, hj => rw [hf] at hj; cases hj
  | 6, _ => rfl
  | 7, _ => rfl
  | 8, _ => rfl
  | (j + 9), _ => rfl
theorem BgH.step7 (h : BgH w n on a1 a2 a3 a4 a5 a6 O K d x X) : BgH w n on a1 a2 a3 a4 a5 a6 O K (updB d 7) x (X.setCell ⟨w.heap.size, 0, none⟩ (.bool true)) := by
  obtain ⟨b, r, o9, bx, rs, ol, kp⟩ := h
  refine ⟨Below.setCell (p := ⟨w.heap.size, 0, none⟩) b (Nat.le_refl _) _, by simpa using r, o9, ?_, rs.far (p := ⟨w.heap.size, 0, none⟩) (by simp) _, fun q => own_varCell (ol q) bx (by decide) 0 _, fun q => own_varCell (kp q) bx (by decide) 0 _⟩
  have := bx.set 0 (.bool true)
  simpa [updB] using this
theorem BgH.step9 (h : BgH w n on a1 a2 a3 a4 a5 a6 O K d x X) (h2 : d 2 = true) : BgH w n on a1 a2 a3 a4 a5 a6 O K (updB d 9) x (X.setCell ⟨w.heap.size, 7, none⟩ (.slice x.oA n x.oc)) := by
  obtain ⟨b, r, o9, bx, rs, ol, kp⟩ := h
  refine ⟨Below.setCell (p := ⟨w.heap.size, 7, none⟩) b (Nat.le_refl _) _, by simpa using r, fun _ => h2, ?_, rs.far (p := ⟨w.heap.size, 7, none⟩) (by simp) _, fun q => own_varCell (ol q) bx (by decide) 7 _, fun q => own_varCell (kp q) bx (by decide) 7 _⟩
  have := bx.set 7 (.slice x.oA n x.oc)
  simpa [updB] using this
end
/-- an operation that makes a list of noughts, as one of many. -/
theorem new_ents {E : Type} {V : E → Nat → Value} {Hh : E → World → Prop} {same : E → Prop} {i : Nat} (ρ : Operand → Value) (w : World) (o : Oper) (B n : Nat) (hn : n ≤ 1000) (hB : B ≤ w.heap.size) (l c : Operand) (ho : o.op = .makeSlice 26 l c) (hl : ρ l = .int .i64 (n : Int)) (hc : ρ c = .int .i64 (n : Int))
    (K : ∀ A k w', Below w.heap.size w w' → w'.ownsRow B 51 9 (.slice A n k) n (entsW (List.replicate n entZ)) → ∃ x', V x' i = .slice A n k ∧ same x' ∧ Hh x' w') : ∃ w' x', (execOp ρ o).run Try.prog w = .ok (.value (V x' i)) w' ∧ same x' ∧ Hh x' w' := by
  obtain ⟨v, w', hr, hb, A, k, rfl, h⟩ := exec_make_ents ρ w o B n hn hB l c ho hl hc
  obtain ⟨x', e, h1, h2⟩ := K A k w' hb h
  exact ⟨w', x', by rw [e]; exact hr, h1, h2⟩
theorem new_bools {E : Type} {V : E → Nat → Value} {Hh : E → World → Prop} {same : E → Prop} {i : Nat} (ρ : Operand → Value) (w : World) (o : Oper) (B n : Nat) (hn : n ≤ 1000) (hB : B ≤ w.heap.size) (l c : Operand) (ho : o.op = .makeSlice 30 l c) (hl : ρ l = .int .i64 (n : Int)) (hc : ρ c = .int .i64 (n : Int))
    (K : ∀ A k w', Below w.heap.size w w' → w'.ownsRow B 4 1 (.slice A n k) n (bsW (List.replicate n false)) → ∃ x', V x' i = .slice A n k ∧ same x' ∧ Hh x' w') : ∃ w' x', (execOp ρ o).run Try.prog w = .ok (.value (V x' i)) w' ∧ same x' ∧ Hh x' w' := by
  obtain ⟨v, w', hr, hb, A, k, rfl, h⟩ := exec_make_bools ρ w o B n hn hB l c ho hl hc
  obtain ⟨x', e, h1, h2⟩ := K A k w' hb h
  exact ⟨w', x', by rw [e]; exact hr, h1, h2⟩

section
variable (on : Bool) (a1 a2 a3 a4 a5 a6 : Int) (O K : Value)

/-- the end of it: three fields are stored, the mark is handed back. -/
theorem begin_tail {w w2 : World} {n : Nat} {oA : Option Addr} {oc : Nat} {kA : Option Addr} {kc : Nat} (hb : Below w.heap.size w w2)
    (h1 : w2.ownsRow w.heap.size 51 9 (.slice oA n oc) n (entsW (List.replicate n entZ))) (h2 : w2.ownsRow w.heap.size 4 1 (.slice kA n kc) n (bsW (List.replicate n false))) (ds : Array Value) (hr : Bk w2 (w.heap.size + 1) 32 ds) (V : Array Value) :
    MkOwn w.heap.size (w2.setRow (w.heap.size + 1) V) (beginS n).old (beginS n).kept oA n oc kA n kc ∧ Below w.heap.size w (w2.setRow (w.heap.size + 1) V) :=
  ⟨(own_begin h1 h2).varRow hr (by decide) (by decide) V, below_row hb (by omega) V⟩

set_option maxHeartbeats 8000000 in
theorem rbegin_any (n : Nat) (hn : n ≤ 1000) (w : World) :
    Calls Try.prog 12 #[.agg (mkC on a1 a2 a3 a4 a5 a6 O K), .int .i64 (n : Int)] w (MkPost true a1 a2 a3 a4 a5 a6 n (beginS n) w) := by
  obtain ⟨wr, hW⟩ : ∃ W, W = (w.alloc (.cells (mkC on a1 a2 a3 a4 a5 a6 O K) 32)).alloc (.cells mkZ 32) := ⟨_, rfl⟩
  have B0 : Hid (Below w.heap.size w wr) := Lib.hid (by rw [hW]; exact kB_below _ _ _ _)
  have X0 : Hid (Bk wr w.heap.size 32 (mkC on a1 a2 a3 a4 a5 a6 O K)) := Lib.hid (by rw [hW]; exact kB_box _ _ _ _)
  have R0 : Hid (Bk wr (w.heap.size + 1) 32 mkZ) := Lib.hid (by rw [hW]; exact kB_res _ _ _ _)
  have S0 : Hid (w.heap.size + 1 + 1 ≤ wr.heap.size) := Lib.hid (by rw [hW]; simp)
  go_enter Try.func12, Try.ntmps12
  go_wp2
  rw [← hW]
  clear hW
  try simp only [List.append_eq, List.cons_append, List.nil_append]
  have hD := below_drew1 wr
  refine wp_region_saysE 10 (bgV n w.heap.size) (BgH w n on a1 a2 a3 a4 a5 a6 O K) ⟨none, 0, none, 0⟩ ⟨bnext B0.out hD, Nat.le_trans S0.out hD.size, (fun h => by cases h), X0.out.below hD, R0.out.below hD, (fun h => by cases h), fun h => by cases h⟩ (by kernel_rfl) (by kernel_rfl) (by kernel_rfl) (by kernel_rfl) (by rfl) ?_ ?_
  · clear hD B0 X0 R0 S0
    simp only [List.take_succ_cons, List.take_zero]
    refine walkE_is (fun d x u X _ hh _ => hh.is (by simp)) (fun d x u X hh hd => ?_) ?_
    · clear hd
      go_simp
      try simp [hd]
      try rfl
    refine walkE_is (fun d x u X _ hh _ => hh.is (by simp)) (fun d x u X hh hd => ?_) ?_
    · simp [bgV] at hd
      go_simp
      try simp [hd]
      show Value.int .i64 _ = Value.int .i64 (n : Int)
      congr 1
      split <;> omega
    refine walkE_new (fun d x u X h1 hh hd => ?_) ?_
    · simp [bgV] at hd
      refine new_ents _ X _ w.heap.size n hn hh.below.size _ _ rfl (by simp [look, findAt, hd]) (by simp [look, findAt, hd]) fun A k w' hb ho => ⟨{ x with oA := A, oc := k }, rfl, bgV_same2 h1, hh.step2 h1 ho hb⟩
    refine walkE_is (fun d x u X _ hh _ => hh.is (by simp)) (fun d x u X hh hd => ?_) ?_
    · clear hd
      go_simp
      try simp [hd]
      try rfl
    refine walkE_is (fun d x u X _ hh _ => hh.is (by simp)) (fun d x u X hh hd => ?_) ?_
    · simp [bgV] at hd
      go_simp
      try simp [hd]
      show Value.int .i64 _ = Value.int .i64 (n : Int)
      congr 1
      split <;> omega
    refine walkE_new (fun d x u X h1 hh hd => ?_) ?_
    · simp [bgV] at hd
      refine new_bools _ X _ w.heap.size n hn hh.below.size _ _ rfl (by simp [look, findAt, hd]) (by simp [look, findAt, hd]) fun A k w' hb ho => ⟨{ x with kA := A, kc := k }, rfl, bgV_same5 h1, hh.step5 ho hb⟩
    refine walkE_is (fun d x u X _ hh _ => hh.is (by simp)) (fun d x u X hh hd => ?_) ?_
    · clear hd
      go_simp
      try simp [hd]
      try rfl
    refine walkE_store (fun x => rfl) (fun d x u X h1 hh hd => ?_) ?_
    · simp [bgV] at hd
      have c := hh.box.cell 0
      have cf := hh.box.frozen 0
      have cl := hh.box.lt
      refine ⟨_, ?_, hh.step7⟩
      go_simp
      try simp [hd, c, cf]
    refine walkE_is (fun d x u X _ hh _ => hh.is (by simp)) (fun d x u X hh hd => ?_) ?_
    · clear hd
      go_simp
      try simp [hd]
      try rfl
    refine walkE_store (fun x => rfl) (fun d x u X h1 hh hd => ?_) ?_
    · simp [bgV] at hd
      have c := hh.box.cell 7
      have cf := hh.box.frozen 7
      have cl := hh.box.lt
      refine ⟨_, ?_, hh.step9 (by simp [hd])⟩
      go_simp
      try simp [hd, c, cf]
    exact trivial
  · intro d x X hd hh
    clear B0 X0 R0 S0 hD
    have e2 := hd 2 (by decide)
    have e5 := hd 5 (by decide)
    have e7 := hd 7 (by decide)
    have e9 := hd 9 (by decide)
    obtain ⟨oA, oc, kA, kc⟩ := x
    have X1 : Hid (Bk X w.heap.size 32 (mkC true a1 a2 a3 a4 a5 a6 (.slice oA n oc) K)) := Lib.hid (by have := hh.box; rw [e7, e9] at this; exact this)
    have X4 : Hid (Bk (X.setCell ⟨w.heap.size, 8, none⟩ (.slice kA n kc)) w.heap.size 32 (mkC true a1 a2 a3 a4 a5 a6 (.slice oA n oc) (.slice kA n kc))) := Lib.hid (by have := X1.out.set 8 (.slice kA n kc); simpa using this)
    have R4 := Lib.hid (hh.res.far (p := ⟨w.heap.size, 8, none⟩) (by simp) (.slice kA n kc))
    have B4 := Lib.hid (Below.setCell (p := ⟨w.heap.size, 8, none⟩) hh.below (Nat.le_refl _) (.slice kA n kc))
    have O4 := Lib.hid (own_varCell (hh.old e2) X1.out (by decide) 8 (.slice kA n kc))
    have K4 := Lib.hid (own_varCell (hh.kept e5) X1.out (by decide) 8 (.slice kA n kc))
    obtain ⟨c0, c7, c8, cf⟩ := X1.out.nine
    have cl := X1.out.lt
    clear hh hd e2 e5 e7 e9
    simp only [putAll, Act.put, bgV, List.take_succ_cons, List.take_zero, List.drop_succ_cons, List.drop_zero, List.setIfInBounds_toArray, List.set_cons_succ, List.set_cons_zero]
    go_wp2_with (first
      | (with_reducible refine ld_mk w.heap.size X4.out _ rfl rfl rfl ?_)
      | (with_reducible refine st_mk (w.heap.size + 1) R4.out rfl rfl rfl _ _ rfl rfl rfl rfl ?_))
    obtain ⟨t1, t2⟩ := begin_tail B4.out O4.out K4.out _ R4.out (mkC true a1 a2 a3 a4 a5 a6 (.slice oA n oc) (.slice kA n kc))
    exact bodyPost_ret (v := .agg (mkC true a1 a2 a3 a4 a5 a6 (.slice oA n oc) (.slice kA n kc))) (results_cell_row rfl _ _ (w.heap.size + 1) _ _ (0, 0) _ rfl (Bk.setRow R4.out _) Try.underlying32 rfl infoMk) rfl ⟨oA, oc, kA, kc, rfl, t1, t2⟩

end
end Go.Proofs.Ytpaocjpjlogkgaa
