/-
  What line answers, in whatever memory that has the tables: an instruction's line, of a known kind, with numbers that a text may have, and a jump to a place up to 64.
-/
import Derived.Test.YtjbhhlhaikmecaaDoorAsmN
import Derived.Deep.RegionHeld3
namespace Go.Proofs.YtjbhhlhaikmecaaDoor
open Go.RowKit

theorem text_jump {i : Nat} {x : Ins} (h : jumpsN x.op) : textT (lineT i x) = wordN x.op ++ [32] ++ labelN ((i : Int) + 1 + x.a).toNat ++ [10] := by
  unfold lineT
  rw [if_pos h]
  simp [textT, textOf]

set_option maxRecDepth 100000 in
set_option maxHeartbeats 4000000 in
theorem line_jump (i : Nat) (x : Ins) (w : World) (hi : i ≤ 64) (hg : goodIns x) (hj : jumpsN x.op) (ha : 0 ≤ (i : Int) + 1 + x.a ∧ (i : Int) + 1 + x.a ≤ 64) (hT : HasKinds w) :
    Calls Tryd.prog 33 #[.int .i64 (i : Nat), .agg #[.int .i64 x.op, .int .i64 x.a, .int .i64 x.b]] w fun e w' => e = .returned (.string (strL (textT (lineT i x)))) ∧ Below w.heap.size w w' := by
  obtain ⟨n, hn⟩ := Int.eq_ofNat_of_zero_le ha.1
  rw [text_jump hj, hn]
  have hbx : Below w.heap.size w (w.alloc (.cells #[.int .i64 x.op, .int .i64 x.a, .int .i64 x.b] 35)) := (Below.refl _ _).alloc (Nat.le_refl _) _
  have hw := Lib.hid (word_any x.op _ (hT.belowS hbx))
  have hij := Lib.hid (isJump_is x.op true (decide_eq_true hj) (w.alloc (.cells #[.int .i64 x.op, .int .i64 x.a, .int .i64 x.b] 35)))
  have hld := Lib.hid (leadsTo_any i x (w.alloc (.cells #[.int .i64 x.op, .int .i64 x.a, .int .i64 x.b] 35)) hi hg.a)
  rw [hn] at hld
  have hlb : Hid (∀ W : World, _) := Lib.hid (fun W => labelOf_any n W (by omega))
  have hwl := wordN_len hg.op
  have e2 : (strL (labelN n)).size = 3 := by rw [strL_size]; rfl
  have e3 : (strL (wordN x.op)).size ≤ 4 := by rw [strL_size]; exact hwl
  have hfin : Hid (((strL (wordN x.op) ++ ⟨#[32]⟩) ++ strL (labelN n)) ++ ⟨#[10]⟩ = strL (wordN x.op ++ [32] ++ labelN (n : Int).toNat ++ [10])) := Lib.hid (by
    rw [show (⟨#[32]⟩ : ByteArray) = strL [32] from rfl, show (⟨#[10]⟩ : ByteArray) = strL [10] from rfl, strL_app, strL_app, strL_app, Int.toNat_natCast])
  generalize strL (wordN x.op ++ [32] ++ labelN (n : Int).toNat ++ [10]) = F at *
  generalize strL (wordN x.op) = S at *
  generalize strL (labelN n) = L at *
  clear hT hn ha hj hg hwl hbx
  go_enter Tryd.func33, Tryd.ntmps33
  go_wp2_with (first
    | (go_at_call 14; go_must ((with_reducible refine hw.out.mono ?_); rintro e w1 ⟨rfl, rfl⟩))
    | (go_at_call 29; go_must ((with_reducible refine hij.out.mono ?_); rintro e w1 ⟨rfl, rfl⟩))
    | (go_at_call 30; go_must ((with_reducible refine hld.out.mono ?_); rintro e w2 ⟨rfl, hb2⟩))
    | (go_at_call 46; go_must ((with_reducible refine (hlb.out _).mono ?_); rintro e w3 ⟨rfl, hb3⟩)))
  go_ret
  rw [← hfin.out]
  exact ⟨rfl, ((Below.refl _ _).alloc (Nat.le_refl _) _).trans ((bnext hb2 hb3).mono (by rw [World.size_alloc]; omega))⟩

/-- the numbers that a line has. -/
def numsOf (x : Ins) : List Int := [x.a, x.b].take (takesN x.op)
def numsTx (l : List Int) : List Nat := l.flatMap fun n => 32 :: decZ n
theorem text_nums {i : Nat} {x : Ins} (h : ¬ jumpsN x.op) : textT (lineT i x) = wordN x.op ++ numsTx (numsOf x) ++ [10] := by
  unfold lineT numsOf
  rw [if_neg h]
  have hle := takes_le x.op
  rcases (show takesN x.op = 0 ∨ takesN x.op = 1 ∨ takesN x.op = 2 by omega) with ht | ht | ht
  · rw [ht]; simp [textT, textOf, numsTx]
  · rw [ht]; simp [textT, textOf, numsTx]
  · rw [ht]; simp [textT, textOf, numsTx]

theorem numsTx_snoc (l : List Int) (n : Int) : numsTx (l ++ [n]) = numsTx l ++ (32 :: decZ n) := by simp [numsTx]
theorem nums_len {l : List Int} (h : ∀ n ∈ l, -1099511627776 ≤ n ∧ n ≤ 1099511627776) : (numsTx l).length ≤ 15 * l.length := by
  induction l with
  | nil => simp [numsTx]
  | cons n l ih =>
    have h1 := decZ_lenA (h n List.mem_cons_self)
    have h2 := ih (fun m hm => h m (List.mem_cons_of_mem _ hm))
    unfold numsTx at h2 ⊢
    rw [List.flatMap_cons, List.length_append, List.length_cons, List.length_cons]
    omega

set_option maxRecDepth 100000 in
set_option maxHeartbeats 8000000 in
theorem line_nums (i : Nat) (x : Ins) (w : World) (hg : goodIns x) (hj : ¬ jumpsN x.op) (hT : HasKinds w) (hP : HasPow w) :
    Calls Tryd.prog 33 #[.int .i64 (i : Nat), .agg #[.int .i64 x.op, .int .i64 x.a, .int .i64 x.b]] w fun e w' => e = .returned (.string (strL (textT (lineT i x)))) ∧ Below w.heap.size w w' := by
  rw [text_nums hj]
  have hbx : Below w.heap.size w (w.alloc (.cells #[.int .i64 x.op, .int .i64 x.a, .int .i64 x.b] 35)) := (Below.refl _ _).alloc (Nat.le_refl _) _
  have hw := Lib.hid (word_any x.op _ (hT.belowS hbx))
  have hij := Lib.hid (isJump_is x.op false (decide_eq_false hj) (w.alloc (.cells #[.int .i64 x.op, .int .i64 x.a, .int .i64 x.b] 35)))
  have hT1 : Hid (HasKinds (w.alloc (.cells #[.int .i64 x.op, .int .i64 x.a, .int .i64 x.b] 35)).drew) := Lib.hid ((hT.belowS hbx).belowS (below_drew1 _))
  have hT2 : Hid (HasKinds ((w.alloc (.cells #[.int .i64 x.op, .int .i64 x.a, .int .i64 x.b] 35)).alloc (.cells #[.int .i64 x.a, .int .i64 x.b] 3)).drew) := Lib.hid (((hT.belowS hbx).belowS ((Below.refl _ _).alloc (Nat.le_refl _) _)).belowS (below_drew1 _))
  have htk : Hid (∀ W, HasKinds W → Calls Tryd.prog 12 #[.int .i64 x.op] W fun e w' => e = .returned (.int .i64 (takesN x.op : Nat)) ∧ W = w') := Lib.hid (fun W hW => takes_any x.op W hW)
  have hwl := wordN_len hg.op
  have htl := takes_le x.op
  obtain ⟨hA, hB⟩ : (-1099511627776 ≤ x.a ∧ x.a ≤ 1099511627776) ∧ (-1099511627776 ≤ x.b ∧ x.b ≤ 1099511627776) := ⟨hg.a, hg.b⟩
  have hN : Hid (numsOf x = [x.a, x.b].take (takesN x.op)) := Lib.hid rfl
  generalize numsOf x = N at *
  generalize takesN x.op = tk at *
  generalize wordN x.op = wd at *
  obtain ⟨op, xa, xb⟩ := x
  simp only at *
  have d1 : (0 : Int) ≤ (tk : Int) := by omega
  have d2 : (tk : Int) ≤ 2 := by omega
  have hP' := Lib.hid hP
  clear hg hj hT hP hbx
  go_enter Tryd.func33, Tryd.ntmps33
  go_wp2_with (first
    | (go_at_call 14; go_must ((with_reducible refine hw.out.mono ?_); rintro e w1 ⟨rfl, rfl⟩))
    | (go_at_call 29; go_must ((with_reducible refine hij.out.mono ?_); rintro e w1 ⟨rfl, rfl⟩)))
  go_region_held3 (fun w' => w'.cell? ⟨w.heap.size, 0, none⟩ = some (.int .i64 op) ∧ w'.cell? ⟨w.heap.size, 1, none⟩ = some (.int .i64 xa) ∧ w'.cell? ⟨w.heap.size, 2, none⟩ = some (.int .i64 xb)) (go_keep)
    (first | (go_at_call 12; refine (htk.out _ (by first | exact hT1.out | exact hT2.out)).mono ?_; rintro e w9 ⟨rfl, rfl⟩))
  all_goals
    go_wp2
    go_loopw [5, 32] (fun ss cc wr => ∃ k : Nat, k ≤ tk ∧ cc = .int .i64 k ∧ ss = .string (strL (wd ++ numsTx ([xa, xb].take k))) ∧ Bk wr (w.heap.size + 1) 3 #[.int .i64 xa, .int .i64 xb] ∧ Below w.heap.size w wr) (fun _ cc _ => tk - (intOf cc).toNat)
    case atStart =>
      refine ⟨0, by omega, rfl, by simp [numsTx], ?_, (((Below.refl _ _).alloc (Nat.le_refl _) _).alloc (by rw [World.size_alloc]; omega) _).drew⟩
      have := (Bk.new (w.alloc (.cells #[.int .i64 op, .int .i64 xa, .int .i64 xb] 35)) 3 #[.int .i64 xa, .int .i64 xb]).below (below_drew1 _)
      rw [World.size_alloc] at this
      exact this
    case round =>
      obtain ⟨k, hk, rfl, rfl, hbk, hb⟩ := hrel
      have hbk' := Lib.hid hbk
      obtain ⟨y0, y1, yf⟩ := hbk.two
      have hlt := hbk.lt
      have hPr := Lib.hid (hP'.out.belowS hb)
      clear hbk
      have hl0 : (numsTx ([xa, xb].take k)).length ≤ 15 * ([xa, xb].take k).length := nums_len (fun n hn => by
        have := List.mem_of_mem_take hn
        simp only [List.mem_cons, List.not_mem_nil, or_false] at this
        rcases this with rfl | rfl
        · exact hA
        · exact hB)
      have hl1 : ([xa, xb].take k).length ≤ 2 := by rw [List.length_take]; simp; omega
      have e0 : (strL (wd ++ numsTx ([xa, xb].take k))).size ≤ 34 := by rw [strL_size, List.length_append]; omega
      by_cases hkt : k < tk
      · have q0 : (k : Int) < (tk : Int) := by omega
        have q1 : (k : Int) < 2 := by omega
        obtain ⟨z, hz, hzc, hzb⟩ : ∃ z, [xa, xb].take (k + 1) = [xa, xb].take k ++ [z] ∧ wr.cell? ⟨w.heap.size + 1, k, none⟩ = some (.int .i64 z) ∧ (-1099511627776 ≤ z ∧ z ≤ 1099511627776) := by
          rcases (show k = 0 ∨ k = 1 by omega) with rfl | rfl
          · exact ⟨xa, rfl, y0, hA⟩
          · exact ⟨xb, rfl, y1, hB⟩
        have hit := Lib.hid (itoaZ z hzb wr hPr.out)
        have e1 : (strL (decZ z)).size ≤ 14 := by rw [strL_size]; exact decZ_lenA hzb
        have hz' : Hid (strL (wd ++ numsTx ([xa, xb].take k)) ++ (⟨#[32]⟩ ++ strL (decZ z)) = strL (wd ++ numsTx ([xa, xb].take (k + 1)))) := Lib.hid (by
          rw [hz, numsTx_snoc, show (⟨#[32]⟩ : ByteArray) = strL [32] from rfl, strL_app, strL_app, List.append_assoc]
          rfl)
        clear hz y0 y1 hl0 hl1 hzb
        generalize strL (wd ++ numsTx ([xa, xb].take k)) = S at *
        generalize strL (decZ z) = D at *
        go_wp2_with (go_at_call 47; go_must ((with_reducible refine hit.out.mono ?_); rintro e w2 ⟨rfl, hb2⟩))
        go_roundw
        case rel => exact ⟨k + 1, by omega, by go_num, by rw [hz'.out], hbk'.out.below hb2, bnext hb hb2⟩
        case measure => simp [intOf]; omega
      · obtain rfl : k = tk := by omega
        have hfin : Hid (strL (wd ++ numsTx ([xa, xb].take k)) ++ ⟨#[10]⟩ = strL (wd ++ numsTx N ++ [10])) := Lib.hid (by
          rw [hN.out, show (⟨#[10]⟩ : ByteArray) = strL [10] from rfl, strL_app])
        generalize strL (wd ++ numsTx ([xa, xb].take k)) = S at *
        go_wp2
        go_ret
        rw [← hfin.out]
        exact ⟨rfl, hb⟩

theorem line_any (l : List Ins) (h : tellable l) (i : Nat) (hi : i < l.length) (w : World) (hT : HasKinds w) (hP : HasPow w) :
    Calls Tryd.prog 33 #[.int .i64 (i : Nat), .agg #[.int .i64 (insAt l i).op, .int .i64 (insAt l i).a, .int .i64 (insAt l i).b]] w fun e w' => e = .returned (.string (strL (textT (lineT i (insAt l i))))) ∧ Below w.heap.size w w' := by
  have hl := h.len
  by_cases hj : jumpsN (insAt l i).op
  · have := h.jump i hi hj
    exact line_jump i _ w (by omega) (h.good i hi) hj (by omega) hT
  · exact line_nums i _ w (h.good i hi) hj hT hP

end Go.Proofs.YtjbhhlhaikmecaaDoor
