/-
  Deeds in memory; what short answers of them, for every list of deeds.
-/
import Derived.Test.YthcfncpkeldapaaSecW
namespace Go.Proofs.Ythcfncpkeldapaa
open Go.RowKit

/-- A deed: put (0), flush (1), arm (2), start (3). -/
structure ActD where
  kind : Int
  at_ : Int
  data : ByteArray
  stay : List Bool
  torn : Int
  bytes : Int

/-- The deed lies in block b from o on. -/
def IsAct (w : World) (b o : Nat) (x : ActD) : Prop :=
  ∃ S qc, w.cell? ⟨b, o, none⟩ = some (.int .i64 x.kind) ∧ w.cell? ⟨b, o + 1, none⟩ = some (.int .i64 x.at_) ∧ w.cell? ⟨b, o + 2, none⟩ = some (.string x.data) ∧
    w.cell? ⟨b, o + 3, none⟩ = some (.slice S x.stay.length qc) ∧ w.cell? ⟨b, o + 4, none⟩ = some (.int .i64 x.torn) ∧ w.cell? ⟨b, o + 5, none⟩ = some (.int .i64 x.bytes) ∧
    Sl w 1 S x.stay.length qc (x.stay.map Value.bool) ∧ x.at_ ≤ 9223372036854775807 ∧ x.data.size ≤ 9223372036854775807 ∧ x.stay.length ≤ 9223372036854775807

/-- The slice '.slice A n c' holds these deeds. -/
def IsActs (w : World) (A : Option Addr) (n : Nat) (l : List ActD) : Prop :=
  l.length = n ∧ n ≤ 9223372036854775807 ∧ (0 < n → ∃ b off, A = some ⟨b, off, none⟩ ∧ b < w.heap.size ∧ ∀ (i : Nat) (h : i < l.length), IsAct w b (off + i * 6) l[i])

theorem IsAct.below {w w' : World} {b o : Nat} {x : ActD} (h : IsAct w b o x) (hb : Below w.heap.size w w') (hlt : b < w.heap.size) : IsAct w' b o x := by
  obtain ⟨S, qc, h1, h2, h3, h4, h5, h6, h7, h8⟩ := h
  refine ⟨S, qc, ?_, ?_, ?_, ?_, ?_, ?_, h7.below hb, h8⟩ <;> (rw [hb.cell (by exact hlt)]; assumption)

theorem IsActs.below {w w' : World} {A : Option Addr} {n : Nat} {l : List ActD} (h : IsActs w A n l) (hb : Below w.heap.size w w') : IsActs w' A n l :=
  ⟨h.1, h.2.1, fun hn => by
    obtain ⟨b, off, e, hlt, hc⟩ := h.2.2 hn
    exact ⟨b, off, e, Nat.lt_of_lt_of_le hlt hb.size, fun i hi => (hc i hi).below hb hlt⟩⟩

def okAct (x : ActD) : Bool := decide (x.data.size ≤ 300) && decide (x.stay.length ≤ 50)

def shortB (l : List ActD) : Bool := l.all okAct && decide (l.length ≤ 60)

set_option maxHeartbeats 1000000 in
theorem short_any (A : Option Addr) (n c : Nat) (l : List ActD) (w : World) (h : IsActs w A n l) :
    Calls Try.prog 10 #[.slice A n c] w fun e w' => e = .returned (.bool (shortB l)) ∧ w = w' := by
  obtain ⟨sb, hsb⟩ : ∃ sb, shortB l = sb := ⟨_, rfl⟩
  rw [hsb]
  have HSB := Lib.hid hsb
  have H := Lib.hid h
  have hn : n ≤ 9223372036854775807 := h.2.1
  clear hsb h
  go_enter Try.func10, Try.ntmps10
  go_wp2
  go_loop [3] (fun i => ∃ k : Nat, k ≤ n ∧ i = .int .i64 k ∧ (l.take k).all okAct = true) (fun i => n - (intOf i).toNat)
  case atStart => exact ⟨0, Nat.zero_le _, rfl, by simp⟩
  case round =>
    obtain ⟨k, hk, rfl, hall⟩ := hrel
    have HALL := Lib.hid hall
    clear hall
    by_cases hlt : k < n
    · have hkl : k < l.length := by rw [H.out.1]; exact hlt
      obtain ⟨b, off, rfl, hbl, hcell⟩ := H.out.2.2 (by omega)
      obtain ⟨S, qc, y0, y1, y2, y3, y4, y5, _, _, z1, z2⟩ := hcell k hkl
      obtain ⟨x, hx⟩ : ∃ x, l[k] = x := ⟨_, rfl⟩
      rw [hx] at y0 y1 y2 y3 y4 y5 z1 z2
      have HX := Lib.hid hx
      clear hx hcell
      obtain ⟨xk, xa, xd, xs, xt, xb⟩ := x
      simp only at y0 y1 y2 y3 y4 y5 z1 z2
      by_cases h300 : xd.size ≤ 300
      · by_cases h50 : xs.length ≤ 50
        · go_wp2
          go_round
          case rel => exact ⟨k + 1, by omega, by go_num, by rw [List.take_succ_eq_append_getElem hkl, List.all_append, HALL.out, HX.out]; simp [okAct, h300, h50]⟩
          case measure => simp [intOf]; omega
        · go_wp2
          go_ret
          refine ⟨?_, rfl⟩
          have : sb = false := by
            rw [← HSB.out, shortB, Bool.and_eq_false_iff]
            left
            rw [List.all_eq_false]
            exact ⟨l[k], List.getElem_mem _, by rw [HX.out]; simp [okAct]; omega⟩
          rw [this]; rfl
      · go_wp2
        go_ret
        refine ⟨?_, rfl⟩
        have : sb = false := by
          rw [← HSB.out, shortB, Bool.and_eq_false_iff]
          left
          rw [List.all_eq_false]
          exact ⟨l[k], List.getElem_mem _, by rw [HX.out]; simp [okAct]; omega⟩
        rw [this]; rfl
    · obtain rfl : k = n := by omega
      have hfin : sb = decide (k ≤ 60) := by
        rw [← HSB.out, shortB, H.out.1]
        have := HALL.out
        rw [← H.out.1, List.take_length] at this
        rw [this]; rfl
      have HF := Lib.hid hfin
      clear hfin
      go_wp2
      go_ret
      exact ⟨by rw [HF.out]; simp; omega, rfl⟩

end Go.Proofs.Ythcfncpkeldapaa
