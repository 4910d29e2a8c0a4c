/-
  Words and contracts of this claim, 2 texts laid into one, each under its own remark. No conditions but those that stand at each.
-/
import Derived.Test.YtpaocjpjlogkgaaGreatQWords
import Derived.Test.YtpaocjpjlogkgaaGreatQQueP
import Derived.Shelf.Abstract

/-
  What slices.IndexFunc and ContainsFunc of those who wait answer, with whatever predicate, in whatever memory. No conditions but those that stand there.
-/
namespace Go.Proofs.YtpaocjpjlogkgaaGreat
open Go.RowKit Go.Shelf
set_option maxRecDepth 100000

/-- a predicate as a function of the program. -/
def PredW (p : Wnt → Bool) (fn : Nat) (lb : Array Value) (w : World) : Prop :=
  ∀ (x : Wnt) (W : World), Below w.heap.size w W → Calls Tryz.prog fn (#[.agg (wnV x.seq x.excl x.has)] ++ lb) W fun e w' => e = .returned (.bool (p x)) ∧ Below W.heap.size W w'

set_option maxHeartbeats 4000000 in
theorem idxW_any (l : List Wnt) (p : Wnt → Bool) (fn : Nat) (lb : Array Value) (eg : ∀ args w, (callFunc fn args).run Tryz.prog w = .ok (.enter fn args) w) (A : Option Addr) (n c : Nat) (w : World) (h : Wnts w A c l) (hN : l.length = n) (hz : n ≤ 100000) (hp : PredW p fn lb w) :
    Calls Tryz.prog 138 #[.slice A n c, .func (.func fn) #[] lb] w fun e w' => e = .returned (.int .i64 (idxP p l)) ∧ Below w.heap.size w w' := by
  have hc : n ≤ c := by have := h.2.1; omega
  have h' := Lib.hid h
  have hN' := Lib.hid hN
  have hp' := Lib.hid hp
  obtain ⟨r, hr⟩ : ∃ r, r = idxP p l := ⟨_, rfl⟩
  rw [← hr]
  have hr' := Lib.hid hr
  clear h hN hp hr
  go_enter Tryz.func138, Tryz.ntmps138
  go_wp2
  go_loopw [8] (fun cc wr => ∃ i : Nat, i ≤ n ∧ cc = .int .i64 i ∧ Hid (∀ j y, j < i → l[j]? = some y → p y = false) ∧ Hid (Below w.heap.size w wr)) (fun cc _ => n - (intOf cc).toNat)
  case atStart => exact ⟨0, Nat.zero_le _, rfl, Lib.hid (fun j y hj => absurd hj (by omega)), Lib.hid (Below.refl _ _)⟩
  case round =>
    obtain ⟨i, hi, rfl, HB, HW⟩ := hrel
    by_cases hlt : i < n
    · have d1 : (i : Int) < (n : Int) := by omega
      have d2 : (i : Int) < (c : Int) := by omega
      obtain ⟨x, hx⟩ := wnt_at (l := l) (i := i) (by rw [hN'.out]; exact hlt)
      obtain ⟨bb, off, rfl, hbl, x0, x1, x2⟩ := Wnts.at (h'.out.below HW.out) hx
      have hcall := Lib.hid (hp'.out x wr HW.out)
      have hx' := Lib.hid hx
      clear hx
      cases hq : p x with
      | true =>
        rw [hq] at hcall
        obtain rfl : (i : Int) = r := by rw [hr'.out]; exact (idxP_at hx'.out hq HB.out).symm
        clear hq
        go_wp2_with (go_at_fn fn; go_must (refine hcall.out.mono ?_; rintro e w1 ⟨rfl, hb1⟩; have B1 := Lib.hid (bnext HW.out hb1); clear hb1))
        go_ret
        exact ⟨rfl, B1.out⟩
      | false =>
        rw [hq] at hcall
        have HB2 : Hid (∀ j y, j < i + 1 → l[j]? = some y → p y = false) := Lib.hid (fun j y hj hy => by
          by_cases he : j = i
          · subst he
            have := hx'.out
            rw [hy] at this
            injection this with this
            rw [this]
            exact hq
          · exact HB.out j y (by omega) hy)
        clear hq
        go_wp2_with (go_at_fn fn; go_must (refine hcall.out.mono ?_; rintro e w1 ⟨rfl, hb1⟩; have B1 := Lib.hid (bnext HW.out hb1); clear hb1))
        go_roundw
        case rel => exact ⟨i + 1, by omega, by go_num, HB2, B1⟩
        case measure => simp [intOf]; omega
    · obtain rfl : i = n := by omega
      obtain rfl : -1 = r := by
        rw [hr'.out]
        exact (idxP_none fun j y hj hy => HB.out j y (by rw [← hN'.out]; exact hj) hy).symm
      clear hlt
      go_wp2
      go_ret
      exact ⟨rfl, HW.out⟩

theorem conW_any (l : List Wnt) (p : Wnt → Bool) (fn : Nat) (lb : Array Value) (eg : ∀ args w, (callFunc fn args).run Tryz.prog w = .ok (.enter fn args) w) (A : Option Addr) (n c : Nat) (w : World) (h : Wnts w A c l) (hN : l.length = n) (hz : n ≤ 100000) (hp : PredW p fn lb w) :
    Calls Tryz.prog 124 #[.slice A n c, .func (.func fn) #[] lb] w fun e w' => e = .returned (.bool (l.any p)) ∧ Below w.heap.size w w' := by
  have hi := Lib.hid (idxW_any l p fn lb eg A n c w h hN hz hp)
  rw [← idxP_any]
  obtain ⟨r, hr⟩ : ∃ r, r = idxP p l := ⟨_, rfl⟩
  rw [← hr] at hi ⊢
  clear h hN hp hr
  go_enter Tryz.func124, Tryz.ntmps124
  go_wp2_with (go_at_call 138; go_must ((with_reducible refine hi.out.mono ?_); rintro e w1 ⟨rfl, hb1⟩; have B1 := Lib.hid hb1; clear hb1))
  go_ret
  exact ⟨rfl, B1.out⟩

end Go.Proofs.YtpaocjpjlogkgaaGreat

/-
  What queue.having and Has answer, in whatever memory, of lists of at most 10000 who wait. No conditions but those that stand there.
-/
namespace Go.Proofs.YtpaocjpjlogkgaaGreat
open Go.RowKit Go.Shelf
set_option maxRecDepth 100000

theorem having1_any (x : Wnt) (w : World) : Calls Tryz.prog 139 #[.agg (wnV x.seq x.excl x.has)] w fun e w' => e = .returned (.bool x.excl) ∧ Below w.heap.size w w' := by
  have B0 := Lib.hid (below_alloc1 w (.cells (wnV x.seq x.excl x.has) 136))
  go_enter Tryz.func139, Tryz.ntmps139
  go_wp2
  go_ret
  exact ⟨rfl, B0.out⟩

theorem has1_any (x : Wnt) (s : Int) (g : Nat) (w : World) (hg : w.cell? ⟨g, 0, none⟩ = some (.int .i64 s)) (hl : g < w.heap.size) : Calls Tryz.prog 123 #[.agg (wnV x.seq x.excl x.has), .pointer (some ⟨g, 0, none⟩)] w fun e w' => e = .returned (.bool (decide (x.seq = s))) ∧ Below w.heap.size w w' := by
  have B0 := Lib.hid (below_alloc1 w (.cells (wnV x.seq x.excl x.has) 136))
  have hne : g ≠ w.heap.size := by omega
  go_enter Tryz.func123, Tryz.ntmps123
  go_wp2
  go_ret
  exact ⟨by simp [BEq.beq], B0.out⟩

theorem egHaving : ∀ args w, (callFunc 139 args).run Tryz.prog w = .ok (.enter 139 args) w := enters_of Tryz.func139 (by kernel_rfl) rfl

theorem egHas : ∀ args w, (callFunc 123 args).run Tryz.prog w = .ok (.enter 123 args) w := enters_of Tryz.func123 (by kernel_rfl) rfl

theorem having_any (l : List Wnt) (A : Option Addr) (n c : Nat) (w : World) (h : Wnts w A c l) (hN : l.length = n) (hz : n ≤ 100000) :
    Calls Tryz.prog 121 #[.slice A n c] w fun e w' => e = .returned (.int .i64 (havW l : Nat)) ∧ Below w.heap.size w w' := by
  have hi := Lib.hid (idxW_any l Wnt.excl 139 #[] egHaving A n c w h hN hz (fun x W _ => having1_any x W))
  rcases idxP_is Wnt.excl l with ⟨h1, -⟩ | ⟨i, x, h1, h2, -⟩
  · have hh : havW l = n := by unfold havW; rw [h1, if_pos (by omega)]; exact hN
    rw [h1] at hi
    rw [hh]
    clear h hN h1 hh
    go_enter Tryz.func121, Tryz.ntmps121
    go_wp2_with (go_at_call 138; go_must ((with_reducible refine hi.out.mono ?_); rintro e w1 ⟨rfl, hb1⟩; have B1 := Lib.hid hb1; clear hb1))
    go_ret
    exact ⟨rfl, B1.out⟩
  · have hh : havW l = max i 1 := by unfold havW; rw [h1, if_neg (by omega), Int.toNat_natCast]
    have hi0 : (0 : Int) ≤ (i : Int) := by omega
    have hin : i < n := by omega
    rw [h1] at hi
    rw [hh]
    clear h hN h1 hh h2
    obtain ⟨k, hk⟩ : ∃ k : Nat, k = max i 1 := ⟨_, rfl⟩
    rw [← hk]
    have K := Lib.hid hk
    clear hk
    go_enter Tryz.func121, Tryz.ntmps121
    go_wp2_with (go_at_call 138; go_must ((with_reducible refine hi.out.mono ?_); rintro e w1 ⟨rfl, hb1⟩; have B1 := Lib.hid hb1; clear hb1))
    all_goals go_ret
    all_goals exact ⟨congrArg (fun z : Int => Ending.returned (.int .i64 z)) (by have := K.out; omega), B1.out⟩

set_option maxHeartbeats 4000000 in
theorem has_any (l : List Wnt) (A : Option Addr) (n c : Nat) (s : Int) (w : World) (h : Wnts w A c l) (hN : l.length = n) (hz : n ≤ 10000) :
    Calls Tryz.prog 108 #[.slice A n c, .int .i64 s] w fun e w' => e = .returned (.bool (hasO l s)) ∧ Below w.heap.size w w' := by
  have B0 := Lib.hid (below_alloc1 w (.cells #[.int .i64 s] 3))
  have V0 := Lib.hid (Bk.new w 3 #[.int .i64 s])
  have hav := Lib.hid (having_any l A n c _ (h.below B0.out) hN (by omega))
  have hle := havW_le l
  rw [hN] at hle
  have hnc : n ≤ c := by have := h.2.1; omega
  have hcon : Hid (∀ (W : World), Below (w.alloc (.cells #[.int .i64 s] 3)).heap.size (w.alloc (.cells #[.int .i64 s] 3)) W → Calls Tryz.prog 124 #[.slice A (havW l) c, .func (.func 123) #[] #[.pointer (some ⟨w.heap.size, 0, none⟩)]] W
      fun e w' => e = .returned (.bool (hasO l s)) ∧ Below W.heap.size W w') := Lib.hid (fun W hW => by
    have hS := (h.below B0.out).below hW
    have hT : Wnts W A c (l.take (havW l)) := by
      unfold Wnts at hS ⊢
      rw [List.length_take, Nat.min_eq_left (havW_le l)]
      have h1 := hS.2.1
      refine ⟨by rw [wntsW_length, List.length_take, Nat.min_eq_left (havW_le l)], by omega, fun e => ?_, fun h0 => ?_⟩
      · have := hS.2.2.1 e
        omega
      · obtain ⟨b, off, e, hb, hc⟩ := hS.2.2.2 (by omega)
        refine ⟨b, off, e, hb, fun j hj => ?_⟩
        rw [hc j (by omega), ← wntsW_take, List.getElem?_take, if_pos hj]
    exact conW_any (l.take (havW l)) (fun x => decide (x.seq = s)) 123 #[.pointer (some ⟨w.heap.size, 0, none⟩)] egHas A (havW l) c W hT (by rw [List.length_take, Nat.min_eq_left (havW_le l)]) (by omega)
      (fun x V hV => has1_any x s w.heap.size V (((V0.out.below hW).below hV).cell 0) ((V0.out.below hW).below hV).lt))
  obtain ⟨m, hm⟩ : ∃ m, m = havW l := ⟨_, rfl⟩
  rw [← hm] at hav hcon hle
  clear h hN hm
  go_enter Tryz.func108, Tryz.ntmps108
  go_wp2_with (first
    | (go_at_call 121; go_must ((with_reducible refine hav.out.mono ?_); rintro e w1 ⟨rfl, hb1⟩; have C1 := Lib.hid hb1; clear hb1))
    | (go_at_call 124; go_must ((with_reducible refine (hcon.out _ C1.out).mono ?_); rintro e w2 ⟨rfl, hb2⟩; have C2 := Lib.hid (bnext (bnext B0.out C1.out) hb2); clear hb2)))
  go_ret
  exact ⟨rfl, C2.out⟩

end Go.Proofs.YtpaocjpjlogkgaaGreat
