/-
  LocksRead, walked: true of any commands, in whatever memory.
-/
import Derived.Test.YtcffmkphfahapaaZLckV
import Derived.Test.YtcffmkphfahapaaZLckG
namespace Go.Proofs.Ytcffmkphfahapaa
open Go.RowKit Go.Shelf
attribute [local go_sem] look findAt
attribute [local simp] depsOf isV Region.binds

section
variable (l : List CmL) (A : Option Addr) (n c : Nat)

theorem infoCmd : ∃ i, Try.prog.info? 32 = some i ∧ i.zero = some (.agg #[.slice none 0 0, .slice none 0 0, .slice none 0 0, .int .i64 0, .slice none 0 0]) ∧ i.size = 5 ∧ i.bytes = 104 := by
  have h : (Try.prog.info? 32).map (fun i => (i.zero, i.size, i.bytes)) = some (some (.agg #[.slice none 0 0, .slice none 0 0, .slice none 0 0, .int .i64 0, .slice none 0 0]), 5, 104) := by kernel_rfl
  cases hi : Try.prog.info? 32 with
  | none => rw [hi] at h; cases h
  | some i =>
    rw [hi] at h
    simp only [Option.map_some, Option.some.injEq, Prod.mk.injEq] at h
    exact ⟨i, rfl, h.1, h.2.1, h.2.2⟩

/-- a command that only reads, as it lies. -/
def rdL (x : CmL) (g : Nat) : CmL := ⟨⟨x.c.reads, [], [], 1, [⟨17, 0, 0⟩]⟩, x.ra, x.nr, x.rc, none, 0, 0, none, 0, 0, some ⟨g, 0, none⟩, 1, 1⟩
theorem rd_at {x : CmL} {w : World} {b o g : Nat} (h : CmAt w b o (rdL x g)) : w.cell? ⟨b, o, none⟩ = some (.slice x.ra x.nr x.rc) ∧ w.cell? ⟨b, o + 1, none⟩ = some (.slice none 0 0) ∧ w.cell? ⟨b, o + 2, none⟩ = some (.slice none 0 0) ∧ w.cell? ⟨b, o + 3, none⟩ = some (.int .i64 1) ∧ w.cell? ⟨b, o + 4, none⟩ = some (.slice (some ⟨g, 0, none⟩) 1 1) ∧ b < w.heap.size := h _ (Below.refl _ _)
theorem rdL_sets {x : CmL} (hm : MayBe x.c) (g : Nat) : setsN (rdL x g).c := ⟨hm.sets.1, trivial, fun _ _ h => by cases h⟩
theorem rdL_fits {x : CmL} {n : Nat} (hf : fitsT x.c n) (g : Nat) : fitsT (rdL x g).c n := ⟨hf.1, fun _ h => by cases h⟩
theorem rdL_lk {x : CmL} {w : World} {n : Nat} (h : x.In w) (hm : MayBe x.c) (hf : fitsT x.c n) (g : Nat) : CmLk w (rdL x g).c x.ra x.nr x.rc none 0 0 n := by
  have h1 := hm.few.1
  have h2 : x.c.reads.length = x.nr := h.lr
  exact ⟨h.lr, rfl, h.reads, Ints.nil _, by omega, by decide, fun y hy => ⟨risesT_ge hm.sets.1 y hy, hf.1 y hy⟩, fun y hy => by cases hy⟩
/-- all that ask only read. -/
def RdL (l mm : List CmL) (i : Nat) : Prop := ∀ (j : Nat) (x : CmL), j < i → l[j]? = some x → ∃ g, mm[j]? = some (rdL x g)
theorem whoN_more {mm : List CmL} {y : CmL} {i : Nat} (h : mm.length = i) : whoN (mm ++ [y]) (i + 1) = whoN mm i ++ [((i : Int) + 1, y.c)] := by
  rw [whoN_succ (x := y) (by rw [← h, List.getElem?_append_right (Nat.le_refl _), Nat.sub_self]; rfl)]
  congr 1
  unfold whoN
  refine List.map_congr_left fun j hj => ?_
  rw [List.getElem?_append_left (by rw [h]; exact List.mem_range.1 hj)]
theorem RdL.more {l mm : List CmL} {i g : Nat} {x : CmL} (h : RdL l mm i) (hl : mm.length = i) (hx : l[i]? = some x) : RdL l (mm ++ [rdL x g]) (i + 1) := fun j y hj hy => by
  by_cases e : j = i
  · subst e
    rw [hx] at hy
    injection hy with hy
    subst hy
    exact ⟨g, by rw [← hl, List.getElem?_append_right (Nat.le_refl _), Nat.sub_self]; rfl⟩
  · obtain ⟨g', hg⟩ := h j y (by omega) hy
    exact ⟨g', by rw [List.getElem?_append_left (by omega)]; exact hg⟩
/-- each of them is ready. -/
theorem RdL.ready {l mm : List CmL} {n i g : Nat} {x : CmL} (h : RdL l mm n) (hl : l.length = n) (hx : l[i]? = some x) (hy : mm[i]? = some (rdL x g)) (hm : MayBe x.c) (hf : fitsT x.c 6) : readyL (lksW (whoN mm n) 6) (rdL x g).c ((i : Int) + 1) = true := by
  have hi : i < n := by
    rw [← hl]
    rcases Nat.lt_or_ge i l.length with q | q
    · exact q
    · rw [List.getElem?_eq_none q] at hx; cases hx
  rw [ready_W _ (rdL_sets hm g) (rdL_fits hf g)]
  refine ready_reads (fun q hq => ?_) (whoN_at hi hy)
  obtain ⟨j, hj, rfl⟩ := whoN_mem hq
  have hj' : l[j]? = some l[j] := List.getElem?_eq_getElem (by omega)
  obtain ⟨g', hg⟩ := h j _ hj hj'
  simp only [hg, Option.getD_some]
  rfl

set_option maxHeartbeats 4000000 in
theorem locksRead_no (hz : n ≤ 9223372036854775807) (w : World) (h : Cmds w A c l) (hN : l.length = n) (hr : ¬ RightL l 6) :
    Calls Try.prog 6 #[.slice A n c] w fun e w' => e = .returned (.bool true) ∧ Below w.heap.size w w' := by
  have aw := Lib.hid (fun W => awake15 W)
  have hri := Lib.hid (right_no l A n c w h hN hz hr)
  clear h hN hr
  go_enter Try.func6, Try.ntmps6
  go_wp2_with (first
    | (go_at_call 8; go_must ((with_reducible refine hri.out.mono ?_); rintro e w1 ⟨rfl, hb1⟩; have B1 := Lib.hid hb1; clear hb1))
    | (go_at_call 9; go_must ((with_reducible refine (aw.out _).mono ?_); rintro e w2 ⟨rfl, hb2⟩; have B2 := Lib.hid (bnext B1.out hb2); clear hb2)))
  go_ret
  exact ⟨rfl, B2.out⟩

set_option maxHeartbeats 32000000 in
set_option maxRecDepth 100000 in
theorem locksRead_main (w : World) (h : Cmds w A c l) (hN : l.length = n) (hr : RightL l 6) :
    Calls Try.prog 6 #[.slice A n c] w fun e w' => e = .returned (.bool true) ∧ Below w.heap.size w w' := by
  have aw := Lib.hid (fun W => awake15 W)
  have hri := Lib.hid (right_yes l A n c w h hN hr)
  have hne : Hid (∀ W, Calls Try.prog 10 #[.int .i64 6] W (LkPost (lksW [] 6) 6 W)) := Lib.hid (fun W => new_who 6 W (by decide) (by decide))
  have H := Lib.hid h
  have HN := Lib.hid hN
  have HR := Lib.hid hr
  have hcap := h.cap
  rw [hN] at hcap
  have h30 := hr.2
  rw [hN] at h30
  clear h hN hr
  go_enter Try.func6, Try.ntmps6
  go_wp2_with (first
    | (go_at_call 8; go_must ((with_reducible refine hri.out.mono ?_); rintro e w1 ⟨rfl, hb1⟩; have B1 := Lib.hid hb1; clear hb1))
    | (go_at_call 10; go_must ((with_reducible refine (hne.out _).mono ?_); rintro e w2 ⟨X0, k0, rfl, hO, hb2⟩; have B0 := Lib.hid (bnext B1.out hb2); have O0 := Lib.hid (hO.lower B1.out.size); clear hO hb2)))
  obtain ⟨i0, hi0, hz0, hz1, hz2⟩ := infoCmd
  have hof := Lib.hid (fun ra nr rc wa nw wc W => of15_any ra nr rc wa nw wc W)
  go_loopw [3, 4, 5] (fun xs ms cc wr => ∃ (i k q : Nat) (X M : Option Addr) (mm : List CmL), i ≤ n ∧ xs = .slice X 6 k ∧ ms = .slice M i q ∧ cc = .int .i64 i ∧ Hid (LkOwn w.heap.size wr X 6 k (lksW (whoN mm i) 6)) ∧ Hid (OwnC w.heap.size wr M i q mm) ∧ Hid (RdL l mm i) ∧ Hid (Below w.heap.size w wr)) (fun _ _ cc _ => n - (intOf cc).toNat)
  case atStart => exact ⟨0, k0, 0, X0, none, [], Nat.zero_le _, rfl, rfl, rfl, O0, Lib.hid (OwnC.nil _ _), Lib.hid (fun j x hj => absurd hj (by omega)), B0⟩
  case round =>
    obtain ⟨i, k, q, X, M, mm, hi, rfl, rfl, rfl, HO, HM, HD, HB⟩ := hrel
    by_cases hlt : i < n
    · have d1 : (i : Int) < (n : Int) := by omega
      have d2 : (i : Int) < (c : Int) := by omega
      have d4 : (i : Int) < (i : Int) + 1 := by omega
      have dw : IntKind.i64.wrap ((i : Int) + 1) = (i : Int) + 1 := by rw [IntKind.wrap_i64]; omega
      obtain ⟨x, hx⟩ := cml_at (l := l) (i := i) (by rw [HN.out]; exact hlt)
      have hmf := HR.out.at hx
      have HMF := Lib.hid hmf
      have HX := Lib.hid hx
      obtain ⟨bb, off, rfl, hA⟩ := (H.out.below HB.out).lies hx
      obtain ⟨c0, c1, c2, c3, c4, cl⟩ := hA _ (Below.refl _ _)
      clear hx hA hmf
      go_wp2_with (first
        | (go_at_call 20; go_must ((with_reducible refine (hof.out _ _ _ _ _ _ _).mono ?_); rintro e w3 ⟨rfl, -, hb3⟩; have B3 := Lib.hid (HB.out.trans (hb3.mono HB.out.size)); have BA := Lib.hid (below_alloc1 w3 (.cells #[.slice x.ra x.nr x.rc, .slice none 0 0, .slice none 0 0, .int .i64 1, .slice (some ⟨wr.heap.size + 1, 0, none⟩) 1 1] 32)); have O1 := Lib.hid ((HM.out.below hb3).below BA.out); have C1 := Lib.hid (B3.out.trans (BA.out.mono B3.out.size)); have V1 := Lib.hid (Bk.new w3 32 #[.slice x.ra x.nr x.rc, .slice none 0 0, .slice none 0 0, .int .i64 1, .slice (some ⟨wr.heap.size + 1, 0, none⟩) 1 1]); have Z1 := C1.out.size; have L1 := Lib.hid ((HO.out.below hb3).below BA.out); clear hb3 c0 c1 c2 c3 c4 cl))
        | (at_builtin; go_must (refine append_row rfl _ _ _ rfl w.heap.size 32 i0 _ 5 104 Try.underlying22 hi0 hz0 hz1 hz2 rfl (by decide) _ i _ rfl O1.out.2 w3.heap.size #[.slice x.ra x.nr x.rc, .slice none 0 0, .slice none 0 0, .int .i64 1, .slice (some ⟨wr.heap.size + 1, 0, none⟩) 1 1] rfl V1.out rfl rfl (by unfold maxLen; omega) (by omega) Z1 ?_; intro g2 k2 w4 hown hgr; have B4 := Lib.hid (C1.out.grown hgr Z1 (fun b hb => own_ge O1.out.2 hb)); have O4 : Hid (OwnC w.heap.size w4 (some ⟨g2, 0, none⟩) (i + 1) k2 (mm ++ [rdL x (wr.heap.size + 1)])) := Lib.hid ⟨(by rw [List.length_append, O1.out.1]; rfl), (by rw [cmlsW_append, cmlsW_sing]; exact hown)⟩; have L4 := Lib.hid (L1.out.grown hgr (own_other O1.out.2 (by decide)) (own_other O1.out.2 (by decide))); obtain ⟨g', hg', hA⟩ := O4.out.lies (i := i) (x := rdL x (wr.heap.size + 1)) (by rw [← O1.out.1, List.getElem?_append_right (Nat.le_refl _), Nat.sub_self]; rfl); injection hg' with hg'; injection hg' with hg'; subst hg'; obtain ⟨c0, c1, c2, c3, c4, cl⟩ := rd_at hA; have d5 : (i : Int) < (k2 : Int) := (by have := O4.out.cap; omega); have hask := Lib.hid (ask_who (rdL x (wr.heap.size + 1)).c x.ra x.nr x.rc none 0 0 none 0 0 1 (some ⟨wr.heap.size + 1, 0, none⟩) 1 1 (whoN mm i) X 6 k ((i : Int) + 1) w4 L4.out.sl (by decide) (by rw [whoN_length]; omega) (rdL_sets HMF.out.1 _) (rdL_lk ((H.out.below B4.out).2 x (List.mem_of_getElem? HX.out)) HMF.out.1 HMF.out.2 _)); clear hown hgr hA))
        | (go_at_call 12; go_must ((with_reducible refine hask.out.mono ?_); rintro e w5 ⟨X5, k5, rfl, hO5, hb5⟩; rw [← whoN_more O1.out.1] at hO5; have O5 := Lib.hid (hO5.lower B4.out.size); have M5 := Lib.hid (O4.out.below hb5); have B5 := Lib.hid (B4.out.trans (hb5.mono B4.out.size)); clear hO5 hb5 c0 c1 c2 c3 c4 cl)))
      have D5 := Lib.hid (HD.out.more HM.out.1 HX.out (g := wr.heap.size + 1))
      go_roundw
      case rel => exact ⟨i + 1, k5, k2, X5, _, _, by omega, rfl, rfl, by go_num, O5, M5, D5, B5⟩
      case measure => simp [intOf]; omega
    · obtain rfl : n = i := by omega
      have hMn := HM.out.1
      have HMn := Lib.hid hMn
      have H4 := Lib.hid (H.out.below HB.out)
      have hcapM := HM.out.cap
      clear hlt hMn
      go_wp2
      obtain ⟨w4, hw4⟩ : ∃ W, W = wr := ⟨_, rfl⟩
      rw [← hw4] at HO HB HM H4 ⊢
      clear hw4
      go_loopw [6] (fun cc wr => ∃ i : Nat, i ≤ n ∧ cc = .int .i64 i ∧ Hid (Below w4.heap.size w4 wr)) (fun cc _ => n - (intOf cc).toNat)
      case atStart => exact ⟨0, Nat.zero_le _, rfl, Lib.hid (Below.refl _ _)⟩
      case round =>
        obtain ⟨i, hi, rfl, HI⟩ := hrel
        by_cases hlt : i < n
        · have d1 : (i : Int) < (n : Int) := by omega
          have d2 : (i : Int) < (q : Int) := by omega
          have dw : IntKind.i64.wrap ((i : Int) + 1) = (i : Int) + 1 := by rw [IntKind.wrap_i64]; omega
          obtain ⟨x, hx⟩ := cml_at (l := l) (i := i) (by rw [HN.out]; exact hlt)
          have hmf := HR.out.at hx
          obtain ⟨gc, hgc⟩ := HD.out i x hlt hx
          obtain ⟨g, rfl, hA⟩ := (HM.out.below HI.out).lies hgc
          obtain ⟨c0, c1, c2, c3, c4, cl⟩ := rd_at hA
          have hrd := ready_who (rdL x gc).c x.ra x.nr x.rc none 0 0 none 0 0 1 (some ⟨gc, 0, none⟩) 1 1 (whoN mm n) X 6 k ((i : Int) + 1) wr (HO.out.below HI.out).sl (by rw [whoN_length]; omega) (rdL_lk ((H4.out.below HI.out).2 x (List.mem_of_getElem? hx)) hmf.1 hmf.2 gc)
          rw [HD.out.ready HN.out hx hgc hmf.1 hmf.2] at hrd
          have hrd := Lib.hid hrd
          clear hx hmf hgc hA
          go_wp2_with (go_at_call 15; go_must ((with_reducible refine hrd.out.mono ?_); rintro e w7 ⟨rfl, hb7⟩; have B7 := Lib.hid (bnext HI.out hb7); clear hb7 c0 c1 c2 c3 c4 cl))
          go_roundw
          case rel => exact ⟨i + 1, by omega, by go_num, B7⟩
          case measure => simp [intOf]; omega
        · obtain rfl : n = i := by omega
          clear hlt
          go_wp2_with (go_at_call 9; go_must ((with_reducible refine (aw.out _).mono ?_); rintro e w9 ⟨rfl, hb9⟩; have B9 := Lib.hid (HB.out.trans ((bnext HI.out hb9).mono HB.out.size)); clear hb9))
          go_ret
          exact ⟨rfl, B9.out⟩

theorem locksRead_walk (hz : n ≤ 9223372036854775807) (w : World) (h : Cmds w A c l) (hN : l.length = n) :
    Calls Try.prog 6 #[.slice A n c] w fun e w' => e = .returned (.bool true) ∧ Below w.heap.size w w' := by
  by_cases hr : RightL l 6
  · exact locksRead_main l A n c w h hN hr
  · exact locksRead_no l A n c hz w h hN hr

end
end Go.Proofs.Ytcffmkphfahapaa
