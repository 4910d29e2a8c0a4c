/-
  What the builder's lead leaves, in whatever memory. No conditions but those that stand there.
-/
import Derived.Test.YtjbhhlhaikmecaaDoorAsmJ
namespace Go.Proofs.YtjbhhlhaikmecaaDoor
open Go.RowKit

/-- what lead leaves. -/
def LeadR (w0 w : World) (m g B : Nat) (A : Option Addr) (c : Nat) (vc vj : Value) (left : List Tok) (js : List (Nat × List Nat)) (labs : List (List Nat × Nat)) (r : Option (List Ins)) (e : Ending) (w' : World) : Prop :=
  Below m w w' ∧ match r with
    | none => e = .returned (.int .i64 10)
    | some code => e = .returned (.int .i64 0) ∧ Bld w0 w' m g B A c vc vj left code js labs

/-- a look-up among the labels, in whatever memory that has them. -/
theorem look_in {w : World} {m : Nat} {labs : List (List Nat × Nat)} (h : Labs w m labs) {g : List Nat} (hg : gW g) (hl : ∀ p ∈ labs, byteW p.1) (hin : g ∈ labs.map (·.1)) :
    (Instr.lookup 40 (.map (some m)) (.string (strL g)) true).run Tryd.prog w = .ok (.tuple #[.int .i64 (whereN labs g), .bool true]) w := by
  obtain ⟨v, ps, hr, hv⟩ := World.ownsMap.look_ok (zd := .lit (.int .i64 0)) (zp := []) h lawS Tryd.underlying40 (zeroI w) (plainElem_int Tryd.underlying3 (by decide)) (keyOf_word g hg.2)
  rw [labD_at labs g hg.1 hl hin] at hv
  obtain ⟨c, rfl, hc, _⟩ := plainElem_int_inv Tryd.underlying3 hv
  rw [labD_has labs g hg.1 hl, decide_eq_true hin] at hr
  simp only [Prod.mk.injEq, DataW.lit.injEq, Lit.int.injEq] at hc
  rw [hr, hc.1.2]

theorem look_out {w : World} {m : Nat} {labs : List (List Nat × Nat)} (h : Labs w m labs) {g : List Nat} (hg : gW g) (hl : ∀ p ∈ labs, byteW p.1) (hin : g ∉ labs.map (·.1)) :
    ∃ c : Int, (Instr.lookup 40 (.map (some m)) (.string (strL g)) true).run Tryd.prog w = .ok (.tuple #[.int .i64 c, .bool false]) w := by
  obtain ⟨v, ps, hr, hv⟩ := World.ownsMap.look_ok (zd := .lit (.int .i64 0)) (zp := []) h lawS Tryd.underlying40 (zeroI w) (plainElem_int Tryd.underlying3 (by decide)) (keyOf_word g hg.2)
  obtain ⟨c, rfl, hc, _⟩ := plainElem_int_inv Tryd.underlying3 hv
  rw [labD_has labs g hg.1 hl, decide_eq_false hin] at hr
  exact ⟨c, hr⟩

theorem own_bk {w : World} {B : Nat} {e : TypeId} {size n g cap : Nat} {xs : List Value} (h : w.ownsRow B e size (.slice (some ⟨g, 0, none⟩) n cap) n xs) : ∃ cur, Bk w g e cur ∧ n * size ≤ cur.size := by
  rcases h.2 with ⟨h0, _⟩ | ⟨g', cap', cur, hv, hb, hg, hnc, hcm, hcs, ht⟩
  · cases h0
  · injection hv with h1 h2 h3
    injection h1 with h1
    injection h1 with h1
    subst h1
    exact ⟨cur, hg, by rw [hcs]; exact Nat.mul_le_mul_right _ hnc⟩

/-- the builder with a jump led. -/
theorem Bld.setCode {w0 w : World} {m g B : Nat} {A : Option Addr} {c gc cap n : Nat} {vj : Value} {left : List Tok} {code : List Ins} {js : List (Nat × List Nat)} {labs : List (List Nat × Nat)} (h : Bld w0 w m g B A c (.slice (some ⟨gc, 0, none⟩) n cap) vj left code js labs) (at_ : Nat) (a : Int) (hat : at_ < code.length) (hgc : B ≤ gc) :
    Bld w0 (w.setCell ⟨gc, at_ * 3 + 1, none⟩ (.int .i64 a)) m g B A c (.slice (some ⟨gc, 0, none⟩) n cap) vj left (code.set at_ (aimI (insAt code at_) a)) js labs := by
  have hmg := h.mg
  have hgB := h.gB
  obtain rfl : n = code.length := by
    rcases h.code.2 with ⟨h0, _⟩ | ⟨g', cap', cur, hv, _⟩
    · cases h0
    · injection hv
  refine ⟨h.bk.far (by simp; omega) _, h.toks, ?_, own_setFar h.js (fun e => own_apart h.js h.code (by decide) gc e rfl) _ _, h.labs.heap (Below.heap_setCell w ⟨gc, at_ * 3 + 1, none⟩ _ m (by simp; omega)), h.old.setCell (by simp; omega) _, h.wm, h.mg, h.gB, by simpa using h.le⟩
  rw [List.length_set, ← inssW_set code at_ a hat]
  exact own_set h.code _ _

set_option maxRecDepth 100000 in
set_option maxHeartbeats 8000000 in
theorem lead_any (w0 w : World) (m g B : Nat) (A : Option Addr) (c : Nat) (vc vj : Value) (left : List Tok) (code : List Ins) (js : List (Nat × List Nat)) (labs : List (List Nat × Nat)) (h : Bld w0 w m g B A c vc vj left code js labs)
    (hcl : code.length ≤ 64) (hjl : js.length ≤ 64) (hj : ∀ p ∈ js, p.1 < code.length ∧ gW p.2) (hl : ∀ p ∈ labs, gW p.1 ∧ p.2 ≤ 64) :
    Calls Tryd.prog 24 #[.pointer (some ⟨g, 0, none⟩)] w (LeadR w0 w m g B A c vc vj left js labs (leadN labs code js)) := by
  obtain ⟨R, hR⟩ : ∃ R, R = leadN labs code js := ⟨_, rfl⟩
  have hst : Hid (leadN labs code (js.drop 0) = R) := Lib.hid hR.symm
  rw [← hR]
  clear hR
  have hl1 : Hid (∀ p ∈ labs, byteW p.1) := Lib.hid (fun p hp => (hl p hp).1.1)
  have hl2 : Hid (∀ g, whereN labs g ≤ 64) := Lib.hid (fun g => by have := where_le (n := 64) (fun p hp => (hl p hp).2) g; simpa using this)
  have hmg := h.mg
  have hgB := h.gB
  have h' := Lib.hid h
  have hj' := Lib.hid hj
  obtain ⟨Aj, cj, rfl, -⟩ := Sl.own h.js
  obtain ⟨N, hN⟩ : ∃ N, N = js.length := ⟨_, rfl⟩
  have hN' := Lib.hid hN
  have hjl' : N ≤ 64 := by omega
  obtain ⟨c0, c1, c2, c3, hf⟩ := h.bk.four
  rw [← hN] at c2
  clear hN h hj hl hjl
  go_enter Tryd.func24, Tryd.ntmps24
  go_wp2
  go_loopw [12] (fun cc wr => ∃ (k : Nat) (code' : List Ins), k ≤ N ∧ cc = .int .i64 k ∧ Bld w0 wr m g B A c vc (.slice Aj js.length cj) left code' js labs ∧ Hid (code'.length = code.length) ∧ Hid (leadN labs code' (js.drop k) = R) ∧ Below m w wr) (fun cc _ => N - (intOf cc).toNat)
  case atStart => exact ⟨0, code, Nat.zero_le _, rfl, h'.out, Lib.hid rfl, hst, Below.refl _ _⟩
  case round =>
    clear hst c0 c1 c2 c3 hf
    obtain ⟨k, code', hk, rfl, hB, hlen, HR, hb⟩ := hrel
    have hB' := Lib.hid hB
    by_cases hlt : k < N
    · obtain ⟨⟨at_, to⟩, hjk⟩ : ∃ p, js[k]? = some p := ⟨_, List.getElem?_eq_getElem (by rw [← hN'.out]; exact hlt)⟩
      obtain ⟨hat, hto⟩ := hj'.out _ (List.mem_of_getElem? hjk)
      obtain ⟨gc, cap, rfl, hgc, hgl⟩ := hB.code.form (by rw [hlen.out]; omega)
      have hsl := Sl.own' hB.js
      obtain ⟨bj, oj, rfl, hbj, hcj⟩ := hsl.2.2.2 (by rw [← hN'.out]; omega)
      obtain ⟨e0, e1⟩ := jmpsW_at js k _ hjk
      have x0 := (hcj (k * 2) (by rw [← hN'.out]; omega)).trans e0
      have x1 := (hcj (k * 2 + 1) (by rw [← hN'.out]; omega)).trans e1
      rw [← Nat.add_assoc] at x1
      obtain ⟨c0, c1, c2, c3, hf⟩ := hB.bk.four
      have d0 : (k : Int) < (N : Int) := by omega
      have d1 : (k : Int) < (cj : Int) := by have := hsl.2.1; rw [← hN'.out] at this; omega
      have hdr : js.drop k = (at_, to) :: js.drop (k + 1) := by
        obtain ⟨q, e⟩ := List.getElem?_eq_some_iff.1 hjk
        rw [List.drop_eq_getElem_cons q, e]
      have HR2 := HR.out
      rw [hdr, leadN] at HR2
      simp only at HR2
      have hbj' := hbj
      obtain ⟨W1, hW1⟩ : ∃ W1, W1 = wr.alloc (.cells #[.int .i64 (at_ : Nat), .string (strL to)] 78) := ⟨_, rfl⟩
      have hW1' := Lib.hid hW1
      have kJ : Bk W1 wr.heap.size 78 #[.int .i64 (at_ : Nat), .string (strL to)] := by rw [hW1]; exact Bk.new _ _ _
      have hbW : Below wr.heap.size wr W1 := by rw [hW1]; exact (Below.refl _ _).alloc (Nat.le_refl _) _
      have H1 := Lib.hid (hB.kept hbW)
      have kJ' := Lib.hid kJ
      obtain ⟨j0, j1, jf⟩ := kJ.two
      obtain ⟨y0, y1, y2, y3, yf⟩ := H1.out.bk.four
      have hb1 : Below m w W1 := hb.trans (hbW.mono (Nat.le_of_lt hB.labs.lt))
      have hgcw : gc ≠ wr.heap.size := by omega
      clear hB hjk hsl hcj e0 e1 hdr HR hbW kJ hW1 hB' hbj'
      by_cases hin : to ∈ labs.map (·.1)
      · have hlk := look_in (w := W1.drew) (H1.out.labs.heap rfl) hto hl1.out hin
        have hwl := hl2.out to
        generalize whereN labs to = p at *
        by_cases hp : p ≤ (at_ : Int)
        · rw [if_pos hp] at HR2
          subst HR2
          clear hin hto
          go_wp2
          rw [← hW1'.out]
          go_still_tail 11, (by kernel_rfl)
          go_wp2
          go_ret
          exact ⟨hb1.drew, rfl⟩
        · rw [if_neg hp] at HR2
          have HR3 := Lib.hid HR2
          clear HR2 hin hto
          have e1 : IntKind.i64.wrap (p - (at_ : Int)) = p - (at_ : Int) := IntWalk.i64_in _ (by omega)
          have e2 : IntKind.i64.wrap (p - (at_ : Int) - 1) = p - (at_ : Int) - 1 := IntWalk.i64_in _ (by omega)
          have d2 : (at_ : Int) < (code'.length : Int) := by rw [hlen.out]; omega
          have d3 : code'.length ≤ cap := (Sl.own' H1.out.code).2.1
          have d4 : (at_ : Int) < (cap : Int) := by omega
          go_wp2
          rw [← hW1'.out]
          go_still_tail 11, (by kernel_rfl)
          go_wp2
          obtain ⟨W2, hW2⟩ : ∃ W2, W2 = W1.drew := ⟨_, rfl⟩
          rw [← hW2]
          have H2 := Lib.hid (H1.out.kept (show Below W1.heap.size W1 W2 by rw [hW2]; exact below_drew1 W1))
          have kJ2 : Bk W2 wr.heap.size 78 #[.int .i64 (at_ : Nat), .string (strL to)] := by rw [hW2]; exact kJ'.out.below (below_drew1 W1)
          have hb2 : Below m w W2 := by rw [hW2]; exact hb1.drew
          clear hW2 j0 j1 jf y0 y1 y2 y3 yf hlk
          obtain ⟨j0, j1, jf⟩ := kJ2.two
          obtain ⟨y0, y1, y2, y3, yf⟩ := H2.out.bk.four
          obtain ⟨cur, hcur, hcs⟩ := own_bk H2.out.code
          obtain ⟨z, hz⟩ : ∃ z, W2.cell? ⟨gc, at_ * 3 + 1, none⟩ = some z := ⟨_, (hcur.cell _).trans (Array.getElem?_eq_getElem (by omega))⟩
          have hzf := fun o => hcur.frozen o
          clear kJ2 hcur
          go_still_tail 13, (by kernel_rfl)
          go_wp2
          refine ⟨⟨k + 1, code'.set at_ (aimI (insAt code' at_) (p - (at_ : Int) - 1)), by omega, by go_num, ?_, Lib.hid (by rw [List.length_set]; exact hlen.out), HR3, (hb2.setCell (by simp; omega) _).drew⟩, by simp [intOf]; omega⟩
          exact (H2.out.setCode at_ (p - (at_ : Int) - 1) (by rw [hlen.out]; exact hat) hgc).kept (below_drew1 _)
      · obtain ⟨cc, hlk⟩ := look_out (w := W1.drew) (H1.out.labs.heap rfl) hto hl1.out hin
        rw [where_no hin, if_pos (by omega)] at HR2
        subst HR2
        clear hin hto
        go_wp2
        rw [← hW1'.out]
        go_still_tail 11, (by kernel_rfl)
        go_wp2
        go_ret
        exact ⟨hb1.drew, rfl⟩
    · obtain rfl : k = N := by omega
      have HR2 := HR.out
      rw [hN'.out, List.drop_length, leadN] at HR2
      subst HR2
      clear HR
      go_wp2
      go_ret
      exact ⟨hb, rfl, hB'.out⟩

end Go.Proofs.YtjbhhlhaikmecaaDoor
