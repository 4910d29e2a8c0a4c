/-
  awake of layer 4's laws: true, in whatever memory.
-/
import Derived.Test.YtncpnfcdoegpcaaTokH
namespace Go.Proofs.Ytncpnfcdoegpcaa
open Go.RowKit

def text1 : ByteArray := ⟨#[103, 111, 32, 120, 32, 35, 32, 116, 111, 32, 120, 10, 120, 58, 32, 112, 117, 115, 104, 32, 45, 49, 50, 97, 98]⟩
def toks1 : List Tok := [⟨1, [103, 111], 0⟩, ⟨1, [120], 0⟩, ⟨3, [120], 0⟩, ⟨1, [112, 117, 115, 104], 0⟩, ⟨2, [], -12⟩, ⟨1, [97, 98], 0⟩]
theorem text1_split : splitN (bL text1) = some toks1 := by kernel_rfl
theorem text2_split : splitN (bL ⟨#[97, 45, 98]⟩) = none := by kernel_rfl
theorem text3_split : splitN (bL ⟨#[195, 169]⟩) = none := by kernel_rfl
theorem text4_split : splitN (bL ⟨#[49, 48, 57, 57, 53, 49, 49, 54, 50, 55, 55, 55, 55]⟩) = none := by kernel_rfl

theorem toks1_cells {w : World} {v : Value} {B : Nat} (h : w.ownsRow B 31 3 v toks1.length (toksV toks1)) : ∃ b off c, v = .slice (some ⟨b, off, none⟩) 6 c ∧ b < w.heap.size ∧ 6 ≤ c ∧
    w.cell? ⟨b, off, none⟩ = some (.int .i64 1) ∧ w.cell? ⟨b, off + 1, none⟩ = some (.string ⟨#[103, 111]⟩) ∧ w.cell? ⟨b, off + 2, none⟩ = some (.int .i64 0) ∧
    w.cell? ⟨b, off + 6, none⟩ = some (.int .i64 3) ∧ w.cell? ⟨b, off + 7, none⟩ = some (.string ⟨#[120]⟩) ∧ w.cell? ⟨b, off + 8, none⟩ = some (.int .i64 0) ∧
    w.cell? ⟨b, off + 12, none⟩ = some (.int .i64 2) ∧ w.cell? ⟨b, off + 13, none⟩ = some (.string ⟨#[]⟩) ∧ w.cell? ⟨b, off + 14, none⟩ = some (.int .i64 (-12)) ∧
    w.cell? ⟨b, off + 16, none⟩ = some (.string ⟨#[97, 98]⟩) := by
  obtain ⟨A, c, rfl, hT⟩ := Toks.own h
  obtain ⟨b, off, rfl, hb, hc⟩ := hT.2.2.2 (by decide)
  exact ⟨b, off, c, rfl, hb, hT.2.1, hc 0 (by decide), hc 1 (by decide), hc 2 (by decide), hc 6 (by decide), hc 7 (by decide), hc 8 (by decide), hc 12 (by decide), hc 13 (by decide), hc 14 (by decide), hc 16 (by decide)⟩

set_option maxHeartbeats 2000000 in
theorem awake4 (w : World) : Calls Try.prog 7 #[] w fun e w' => e = .returned (.bool true) ∧ Below w.heap.size w w' := by
  have c1 := Lib.hid (split_yes text1 toks1 w (by decide) text1_split)
  have c2 := Lib.hid (fun W => split_no ⟨#[97, 45, 98]⟩ W (by decide) text2_split)
  have c3 := Lib.hid (fun W => split_no ⟨#[195, 169]⟩ W (by decide) text3_split)
  have c4 := Lib.hid (fun W => split_no ⟨#[49, 48, 57, 57, 53, 49, 49, 54, 50, 55, 55, 55, 55]⟩ W (by decide) text4_split)
  go_enter Try.func7, Try.ntmps7
  go_wp2_with (first
    | (go_at_call 8; refine c1.out.mono ?_; rintro e w1 ⟨v1, rfl, ho1, hb1⟩; clear c1)
    | (go_at_call 8; refine (c2.out _).mono ?_; rintro e w2 ⟨rfl, hb2⟩; clear c2)
    | (go_at_call 8; refine (c3.out _).mono ?_; rintro e w3 ⟨rfl, hb3⟩; clear c3)
    | (go_at_call 8; refine (c4.out _).mono ?_; rintro e w4 ⟨rfl, hb4⟩; clear c4; obtain ⟨b, off, c, rfl, hlt, hc, x0, x1, x2, x6, x7, x8, x12, x13, x14, x16⟩ := toks1_cells (own_below (own_below (own_below ho1 hb2) hb3) hb4); clear ho1))
  go_ret
  exact ⟨rfl, bnext (bnext hb1 hb2) (bnext hb3 hb4)⟩
end Go.Proofs.Ytncpnfcdoegpcaa
