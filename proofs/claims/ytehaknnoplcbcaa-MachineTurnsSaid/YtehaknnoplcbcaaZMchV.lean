/-
  MachineTurns, walked: true of any number and any byte, in whatever memory.
-/
import Derived.Test.YtehaknnoplcbcaaZRckC
import Derived.Test.YtehaknnoplcbcaaZMchT
import Derived.Test.YtehaknnoplcbcaaZRowP
import Derived.Test.YtehaknnoplcbcaaQRowT
namespace Go.Proofs.Ytehaknnoplcbcaa
open Go.RowKit
attribute [local go_sem] look findAt
attribute [local simp] depsOf isV Region.binds

def endI : Ins := ⟨17, 0, 0⟩
def codeX (n : Int) (K i : Nat) : List Ins := ⟨1, n, 0⟩ :: ⟨13, K, 0⟩ :: List.replicate i endI
def codeY (K i : Nat) : List Ins := ⟨14, K, 0⟩ :: List.replicate i endI
def cmdX (n : Int) (K i : Nat) : Cmd := ⟨[], [], [], 9, codeX n K i⟩
def cmdY (K i : Nat) : Cmd := ⟨[], [], [], 9, codeY K i⟩

theorem codeX_length (n : Int) (K i : Nat) : (codeX n K i).length = i + 2 := by simp [codeX]
theorem codeY_length (K i : Nat) : (codeY K i).length = i + 1 := by simp [codeY]
theorem codeX_more (n : Int) (K i : Nat) : inssW (codeX n K (i + 1)) = inssW (codeX n K i) ++ [(.int .i64 17 : Value), .int .i64 0, .int .i64 0] := by
  have : codeX n K (i + 1) = codeX n K i ++ [endI] := by simp [codeX, List.replicate_succ']
  rw [this, inssW_snoc]
  rfl
theorem codeY_more (K i : Nat) : inssW (codeY K (i + 1)) = inssW (codeY K i) ++ [(.int .i64 17 : Value), .int .i64 0, .int .i64 0] := by
  have : codeY K (i + 1) = codeY K i ++ [endI] := by simp [codeY, List.replicate_succ']
  rw [this, inssW_snoc]
  rfl
theorem codeX_first (n : Int) (K i : Nat) : (inssW (codeX n K i))[0]? = some (.int .i64 1) := rfl
theorem codeY_first (K i : Nat) : (inssW (codeY K i))[0]? = some (.int .i64 14) := rfl
theorem codeX_cells (n : Int) (K i : Nat) : (inssW (codeX n K i)).length = (2 + i) * 3 := by rw [inssW_length, codeX_length]; omega
theorem codeY_cells (K i : Nat) : (inssW (codeY K i)).length = (1 + i) * 3 := by rw [inssW_length, codeY_length]; omega

theorem checkX (n : Int) (K : Nat) (h : K ≤ 4) : checkN (cmdX n K (K + 1)) = 0 := by
  rcases (show K = 0 ∨ K = 1 ∨ K = 2 ∨ K = 3 ∨ K = 4 by omega) with rfl | rfl | rfl | rfl | rfl <;> rfl

theorem fitI_skip (c : Cmd) (K : Nat) (hK : K ≤ 1000) (b : Int) (m : Mac) (own : Blks) (h : 1 ≤ m.stack.length) : FitI c ⟨13, K, b⟩ m own :=
  ⟨(show (1 : Int) ≤ 13 ∧ (13 : Int) ≤ 17 by decide), fun h => absurd h (show ¬ ((13 : Int) = 2 ∨ (13 : Int) = 3) by decide), fun h => absurd h (show ¬ ((13 : Int) = 4 ∨ (13 : Int) = 5) by decide), fun h => absurd h (show ¬ (13 : Int) = 6 by decide), fun _ => by simp only; omega, h⟩
theorem fitI_go (c : Cmd) (K : Nat) (hK : K ≤ 1000) (b : Int) (m : Mac) (own : Blks) : FitI c ⟨14, K, b⟩ m own :=
  ⟨(show (1 : Int) ≤ 14 ∧ (14 : Int) ≤ 17 by decide), fun h => absurd h (show ¬ ((14 : Int) = 2 ∨ (14 : Int) = 3) by decide), fun h => absurd h (show ¬ ((14 : Int) = 4 ∨ (14 : Int) = 5) by decide), fun h => absurd h (show ¬ (14 : Int) = 6 by decide), fun _ => by simp only; omega, Nat.zero_le _⟩

theorem stepsX1 (n : Int) (K i : Nat) : stepsM (cmdX n K i) 1 (newM (cmdX n K i), []) = (⟨1, 8, [n], [0, 0, 0, 0], [], false, 0⟩, []) := rfl
theorem stepsX2 (n : Int) (K i : Nat) : stepsM (cmdX n K i) 2 (newM (cmdX n K i), []) = (⟨if n = 0 then 2 + K else 2, 7, [], [0, 0, 0, 0], [], false, 0⟩, []) := by
  rw [steps_succ, stepsX1]
  rfl
theorem stepsY1 (K i : Nat) : stepsM (cmdY K i) 1 (newM (cmdY K i), []) = (⟨1 + K, 8, [], [0, 0, 0, 0], [], false, 0⟩, []) := rfl
theorem fitX (n : Int) (K i : Nat) (hK : K ≤ 4) (hi : i ≤ 100) : ∀ k, k < 2 → Fit (cmdX n K i) (stepsM (cmdX n K i) k (newM (cmdX n K i), [])).1 (stepsM (cmdX n K i) k (newM (cmdX n K i), [])).2 := by
  intro k hk
  have hl := codeX_length n K i
  rcases (show k = 0 ∨ k = 1 by omega) with rfl | rfl
  · exact ⟨(show (0 : Int) ≤ 9 ∧ (9 : Int) ≤ 1000 by decide), (show 0 ≤ 100 by decide), (show 0 ≤ 100 by decide), rfl, (fun _ h => by cases h), (show 0 ≤ 100 by decide), fun _ _ => ⟨(show (0 : Int) ≤ 0 by decide), (show (0 : Int) < ((codeX n K i).length : Nat) by omega), (show (codeX n K i).length ≤ 1000 by omega), fitI_push _ _ _ _ _⟩⟩
  · rw [stepsX1]
    exact ⟨(show (0 : Int) ≤ 8 ∧ (8 : Int) ≤ 1000 by decide), (show 1 ≤ 100 by decide), (show 0 ≤ 100 by decide), rfl, (fun _ h => by cases h), (show 0 ≤ 100 by decide), fun _ _ => ⟨(show (0 : Int) ≤ 1 by decide), (show (1 : Int) < ((codeX n K i).length : Nat) by omega), (show (codeX n K i).length ≤ 1000 by omega), fitI_skip _ K (by omega) _ _ _ (show 1 ≤ 1 by decide)⟩⟩
theorem fitY (K i : Nat) (hK : K ≤ 4) (hi : i ≤ 100) : ∀ k, k < 1 → Fit (cmdY K i) (stepsM (cmdY K i) k (newM (cmdY K i), [])).1 (stepsM (cmdY K i) k (newM (cmdY K i), [])).2 := by
  intro k hk
  have hl := codeY_length K i
  obtain rfl : k = 0 := by omega
  exact ⟨(show (0 : Int) ≤ 9 ∧ (9 : Int) ≤ 1000 by decide), (show 0 ≤ 100 by decide), (show 0 ≤ 100 by decide), rfl, (fun _ h => by cases h), (show 0 ≤ 100 by decide), fun _ _ => ⟨(show (0 : Int) ≤ 0 by decide), (show (0 : Int) < ((codeY K i).length : Nat) by omega), (show (codeY K i).length ≤ 1000 by omega), fitI_go _ K (by omega) _ _ _⟩⟩

theorem cmdIn {w : World} {g : Nat} {m c : Nat} {l : List Ins} {B : Nat} (h : w.ownsRow B 43 3 (.slice (some ⟨g, 0, none⟩) m c) m (inssW l)) (hl : l.length = m) (hm : m ≤ 1000) : CmIn w ⟨[], [], [], 9, l⟩ none 0 0 none 0 0 none 0 0 (some ⟨g, 0, none⟩) m c := by
  have nil : ∀ W : World, Ints W none 0 [] := fun W => ⟨rfl, Nat.le_refl _, fun _ => ⟨rfl, rfl⟩, fun h => absurd h (by simp)⟩
  have hs := Sl.own' h
  refine ⟨rfl, rfl, rfl, hl, nil _, nil _, nil _, ?_, by decide, by decide, by decide, hm⟩
  show Sl w 3 _ l.length c _
  rw [hl]
  exact hs

/-- one end in a block of its own. -/
def endV (B : Nat) : Says := fun v w => ∃ g, v = .slice (some ⟨g, 0, none⟩) 1 1 ∧ B ≤ g ∧ Bk w g 43 ([(.int .i64 17 : Value), .int .i64 0, .int .i64 0] : List Value).toArray
/-- a row of instructions that grew by one, in its place or a new one, not at 'no'. -/
def rowI (B no n : Nat) (xs : List Value) : Says := fun v w => ∃ g c, v = .slice (some ⟨g, 0, none⟩) (n + 1) c ∧ g ≠ no ∧ w.ownsRow B 43 3 (.slice (some ⟨g, 0, none⟩) (n + 1) c) (n + 1) (xs ++ [(.int .i64 17 : Value), .int .i64 0, .int .i64 0])

theorem exec_insl (ρ : Operand → Value) (w : World) (o : Oper) (x : Operand) (ho : o.op = .buildSlice 23 1 #[(0, x)]) (hx : ρ x = .agg ([(.int .i64 17 : Value), .int .i64 0, .int .i64 0] : List Value).toArray) : (execOp ρ o).run Try.prog w = .ok (.value (.slice (some ⟨w.heap.size, 0, none⟩) 1 1)) (w.alloc (.cells ([(.int .i64 17 : Value), .int .i64 0, .int .i64 0] : List Value).toArray 43)) := by
  unfold execOp
  simp only [ho]
  go_simp

section
variable {B gc n1 gd n2 : Nat}
theorem endV_two (hc : gc < B) (hd : gd < B) (v : Value) (x y : World) (hT : TwoR 43 3 gc n1 gd n2 [(.int .i64 17 : Value), .int .i64 0, .int .i64 0] x y) (h : endV B v x) : endV B v y := by
  obtain ⟨g, rfl, hg, hk⟩ := h
  exact ⟨g, rfl, hg, hT.bk hk (by omega) (by omega)⟩
theorem rowI_one {B' : Nat} {xs : List Value} (hl : xs.length = n1 * 3) (v : Value) (x y : World) (hT : TwoR 43 3 gc n1 gd n2 [(.int .i64 17 : Value), .int .i64 0, .int .i64 0] x y) (h : rowI B' gd n1 xs v x) : rowI B' gd n1 xs v y := by
  obtain ⟨g, c, rfl, hg, ho⟩ := h
  exact ⟨g, c, rfl, hg, own_two ho hT (fun _ => .inr ⟨by simp; omega, xs, rfl, hl⟩) (fun e => absurd e hg)⟩
theorem rowI_two {B' : Nat} {xs : List Value} (hl : xs.length = n2 * 3) (v : Value) (x y : World) (hT : TwoR 43 3 gc n1 gd n2 [(.int .i64 17 : Value), .int .i64 0, .int .i64 0] x y) (h : rowI B' gc n2 xs v x) : rowI B' gc n2 xs v y := by
  obtain ⟨g, c, rfl, hg, ho⟩ := h
  exact ⟨g, c, rfl, hg, own_two ho hT (fun e => absurd e hg) (fun _ => .inr ⟨by simp; omega, xs, rfl, hl⟩)⟩
end


set_option maxHeartbeats 16000000 in
set_option maxRecDepth 100000 in
theorem turns_zero (a : Int) (ha : 0 ≤ a ∧ a ≤ 255) (w : World) : Calls Try.prog 7 #[.int .i64 0, .int .u8 a] w fun e w' => e = .returned (.bool true) ∧ Below w.heap.size w w' := by
  obtain ⟨n, hn0⟩ : ∃ n : Int, n = 0 := ⟨_, rfl⟩
  rw [← hn0]
  have hnn : (n == 0) = true := by simpa using hn0
  obtain ⟨K, hK⟩ := Int.eq_ofNat_of_zero_le (show (0 : Int) ≤ a % 5 by omega)
  have hK4 : K ≤ 4 := by omega
  obtain ⟨iI, hii, hz0, hz1, hz2⟩ := infoIns
  have aw := Lib.hid (fun W => awake10 W)
  have HX := Lib.hid (fun (g c : Nat) (W : World) (h : CmIn W (cmdX n K (K + 1)) none 0 0 none 0 0 none 0 0 (some ⟨g, 0, none⟩) (2 + (K + 1)) c) => went_any none 0 0 none 0 0 none 0 0 (some ⟨g, 0, none⟩) (2 + (K + 1)) c (cmdX n K (K + 1)) [] 2 none 0 0 W h (nilB _) (by decide) (fitX n K (K + 1) hK4 (by omega)))
  have HY := Lib.hid (fun (g c : Nat) (W : World) (h : CmIn W (cmdY K (K + 1)) none 0 0 none 0 0 none 0 0 (some ⟨g, 0, none⟩) (1 + (K + 1)) c) => went_any none 0 0 none 0 0 none 0 0 (some ⟨g, 0, none⟩) (1 + (K + 1)) c (cmdY K (K + 1)) [] 1 none 0 0 W h (nilB _) (by decide) (fitY K (K + 1) hK4 (by omega)))
  have HC := Lib.hid (fun (g c : Nat) (W : World) (h : CmIn W (cmdX n K (K + 1)) none 0 0 none 0 0 none 0 0 (some ⟨g, 0, none⟩) (2 + (K + 1)) c) => rcheck_any (cmdX n K (K + 1)) none 0 0 none 0 0 none 0 0 (some ⟨g, 0, none⟩) (2 + (K + 1)) c W h)
  have hc0 := Lib.hid (checkX n K hK4)
  have s2 : Hid (stepsM (cmdX n K (K + 1)) 2 (newM (cmdX n K (K + 1)), []) = (⟨(2 + K : Int), 7, [], [0, 0, 0, 0], [], false, 0⟩, [])) := Lib.hid (by
    rw [stepsX2]
    simp [hn0])
  clear hn0
  have s1 := Lib.hid (stepsY1 K (K + 1))
  have B0 : Hid (Below w.heap.size w ((((w.alloc (.cells #[.int .i64 1, .int .i64 n, .int .i64 0, .int .i64 13, .int .i64 (K : Int), .int .i64 0] 43)).alloc (.cells #[.slice none 0 0, .slice none 0 0, .slice none 0 0, .int .i64 9, .slice (some ⟨w.heap.size, 0, none⟩) (2) 2] 25)).alloc (.cells #[.int .i64 14, .int .i64 (K : Int), .int .i64 0] 43)).alloc (.cells #[.slice none 0 0, .slice none 0 0, .slice none 0 0, .int .i64 9, .slice (some ⟨w.heap.size + 1 + 1, 0, none⟩) (1) 1] 25))) := Lib.hid (bnext (bnext (bnext (below_alloc1 _ _) (below_alloc1 _ _)) (below_alloc1 _ _)) (below_alloc1 _ _))
  have OX0 : Hid (((((w.alloc (.cells #[.int .i64 1, .int .i64 n, .int .i64 0, .int .i64 13, .int .i64 (K : Int), .int .i64 0] 43)).alloc (.cells #[.slice none 0 0, .slice none 0 0, .slice none 0 0, .int .i64 9, .slice (some ⟨w.heap.size, 0, none⟩) (2) 2] 25)).alloc (.cells #[.int .i64 14, .int .i64 (K : Int), .int .i64 0] 43)).alloc (.cells #[.slice none 0 0, .slice none 0 0, .slice none 0 0, .int .i64 9, .slice (some ⟨w.heap.size + 1 + 1, 0, none⟩) (1) 1] 25)).ownsRow w.heap.size 43 3 (.slice (some ⟨w.heap.size, 0, none⟩) (2 + 0) 2) (2 + 0) (inssW (codeX n K 0))) := Lib.hid (by
    have h := World.ownsRow_lit (base := w.heap.size) (e := 43) (size := 3) w #[.int .i64 1, .int .i64 n, .int .i64 0, .int .i64 13, .int .i64 (K : Int), .int .i64 0] 2 (Nat.le_refl _) (by decide) rfl
    exact own_below (own_below (own_below h (below_alloc1 _ _)) (below_alloc1 _ _)) (below_alloc1 _ _))
  have OY0 : Hid (((((w.alloc (.cells #[.int .i64 1, .int .i64 n, .int .i64 0, .int .i64 13, .int .i64 (K : Int), .int .i64 0] 43)).alloc (.cells #[.slice none 0 0, .slice none 0 0, .slice none 0 0, .int .i64 9, .slice (some ⟨w.heap.size, 0, none⟩) (2) 2] 25)).alloc (.cells #[.int .i64 14, .int .i64 (K : Int), .int .i64 0] 43)).alloc (.cells #[.slice none 0 0, .slice none 0 0, .slice none 0 0, .int .i64 9, .slice (some ⟨w.heap.size + 1 + 1, 0, none⟩) (1) 1] 25)).ownsRow w.heap.size 43 3 (.slice (some ⟨w.heap.size + 1 + 1, 0, none⟩) (1 + 0) 1) (1 + 0) (inssW (codeY K 0))) := Lib.hid (by
    have h := World.ownsRow_lit (base := w.heap.size) (e := 43) (size := 3) ((w.alloc (.cells #[.int .i64 1, .int .i64 n, .int .i64 0, .int .i64 13, .int .i64 (K : Int), .int .i64 0] 43)).alloc (.cells #[.slice none 0 0, .slice none 0 0, .slice none 0 0, .int .i64 9, .slice (some ⟨w.heap.size, 0, none⟩) (2) 2] 25)) #[.int .i64 14, .int .i64 (K : Int), .int .i64 0] 1 (by simp only [World.size_alloc]; omega) (by decide) rfl
    rw [World.size_alloc, World.size_alloc] at h
    exact own_below h (below_alloc1 _ _))
  have K60 : Hid (Bk ((((w.alloc (.cells #[.int .i64 1, .int .i64 n, .int .i64 0, .int .i64 13, .int .i64 (K : Int), .int .i64 0] 43)).alloc (.cells #[.slice none 0 0, .slice none 0 0, .slice none 0 0, .int .i64 9, .slice (some ⟨w.heap.size, 0, none⟩) (2) 2] 25)).alloc (.cells #[.int .i64 14, .int .i64 (K : Int), .int .i64 0] 43)).alloc (.cells #[.slice none 0 0, .slice none 0 0, .slice none 0 0, .int .i64 9, .slice (some ⟨w.heap.size + 1 + 1, 0, none⟩) (1) 1] 25)) (w.heap.size + 1) 25 #[.slice none 0 0, .slice none 0 0, .slice none 0 0, .int .i64 9, .slice (some ⟨w.heap.size, 0, none⟩) (2) 2]) := Lib.hid (by
    have h := ((Bk.new (w.alloc (.cells #[.int .i64 1, .int .i64 n, .int .i64 0, .int .i64 13, .int .i64 (K : Int), .int .i64 0] 43)) 25 #[.slice none 0 0, .slice none 0 0, .slice none 0 0, .int .i64 9, .slice (some ⟨w.heap.size, 0, none⟩) (2) 2]).alloc (.cells #[.int .i64 14, .int .i64 (K : Int), .int .i64 0] 43)).alloc (.cells #[.slice none 0 0, .slice none 0 0, .slice none 0 0, .int .i64 9, .slice (some ⟨w.heap.size + 1 + 1, 0, none⟩) (1) 1] 25)
    rwa [World.size_alloc] at h)
  have K70 : Hid (Bk ((((w.alloc (.cells #[.int .i64 1, .int .i64 n, .int .i64 0, .int .i64 13, .int .i64 (K : Int), .int .i64 0] 43)).alloc (.cells #[.slice none 0 0, .slice none 0 0, .slice none 0 0, .int .i64 9, .slice (some ⟨w.heap.size, 0, none⟩) (2) 2] 25)).alloc (.cells #[.int .i64 14, .int .i64 (K : Int), .int .i64 0] 43)).alloc (.cells #[.slice none 0 0, .slice none 0 0, .slice none 0 0, .int .i64 9, .slice (some ⟨w.heap.size + 1 + 1, 0, none⟩) (1) 1] 25)) (w.heap.size + 1 + 1 + 1) 25 #[.slice none 0 0, .slice none 0 0, .slice none 0 0, .int .i64 9, .slice (some ⟨w.heap.size + 1 + 1, 0, none⟩) (1) 1]) := Lib.hid (by
    have h := Bk.new (((w.alloc (.cells #[.int .i64 1, .int .i64 n, .int .i64 0, .int .i64 13, .int .i64 (K : Int), .int .i64 0] 43)).alloc (.cells #[.slice none 0 0, .slice none 0 0, .slice none 0 0, .int .i64 9, .slice (some ⟨w.heap.size, 0, none⟩) (2) 2] 25)).alloc (.cells #[.int .i64 14, .int .i64 (K : Int), .int .i64 0] 43)) 25 #[.slice none 0 0, .slice none 0 0, .slice none 0 0, .int .i64 9, .slice (some ⟨w.heap.size + 1 + 1, 0, none⟩) (1) 1]
    rwa [World.size_alloc, World.size_alloc, World.size_alloc] at h)
  go_enter Try.func7, Try.ntmps7
  go_wp2
  obtain ⟨G6, hG6⟩ : ∃ G, G = w.heap.size + 1 := ⟨_, rfl⟩
  obtain ⟨G7, hG7⟩ : ∃ G, G = w.heap.size + 1 + 1 + 1 := ⟨_, rfl⟩
  obtain ⟨W0, hW0⟩ : ∃ W, W = ((((w.alloc (.cells #[.int .i64 1, .int .i64 n, .int .i64 0, .int .i64 13, .int .i64 (K : Int), .int .i64 0] 43)).alloc (.cells #[.slice none 0 0, .slice none 0 0, .slice none 0 0, .int .i64 9, .slice (some ⟨w.heap.size, 0, none⟩) (2) 2] 25)).alloc (.cells #[.int .i64 14, .int .i64 (K : Int), .int .i64 0] 43)).alloc (.cells #[.slice none 0 0, .slice none 0 0, .slice none 0 0, .int .i64 9, .slice (some ⟨w.heap.size + 1 + 1, 0, none⟩) (1) 1] 25)) := ⟨_, rfl⟩
  rw [← hW0] at B0 OX0 OY0 K60 K70 ⊢
  rw [← hG7] at K70 ⊢
  rw [← hG6] at K60 ⊢
  clear hW0
  have h67 : G6 ≠ G7 := by omega
  have h6w : w.heap.size ≤ G6 := by omega
  have h7w : w.heap.size ≤ G7 := by omega
  clear hG6 hG7
  go_loopw [8] (fun ii wr => ∃ (i gc c1 gd c2 : Nat), i ≤ K + 1 ∧ ii = .int .i64 i ∧ Hid (Below w.heap.size w wr) ∧ Hid (wr.ownsRow w.heap.size 43 3 (.slice (some ⟨gc, 0, none⟩) (2 + i) c1) (2 + i) (inssW (codeX n K i))) ∧ Hid (wr.ownsRow w.heap.size 43 3 (.slice (some ⟨gd, 0, none⟩) (1 + i) c2) (1 + i) (inssW (codeY K i))) ∧ Hid (Bk wr G6 25 #[.slice none 0 0, .slice none 0 0, .slice none 0 0, .int .i64 9, .slice (some ⟨gc, 0, none⟩) (2 + i) c1]) ∧ Hid (Bk wr G7 25 #[.slice none 0 0, .slice none 0 0, .slice none 0 0, .int .i64 9, .slice (some ⟨gd, 0, none⟩) (1 + i) c2])) (fun ii _ => K + 1 - (intOf ii).toNat)
  case atStart => exact ⟨0, w.heap.size, 2, w.heap.size + 1 + 1, 1, Nat.zero_le _, rfl, B0, OX0, OY0, K60, K70⟩
  case round =>
    clear B0 OX0 OY0 K60 K70
    obtain ⟨i, gc, c1, gd, c2, hi, rfl, HB, OX, OY, K6, K7⟩ := hrel
    by_cases hlt : i ≤ K
    · have di : (i : Int) ≤ (K : Int) := by omega
      have hne : gc ≠ gd := own_unlike OX.out OY.out (codeX_first n K i) (codeY_first K i) (by simp)
      have hgc : gc < wr.heap.size := own_lt OX.out rfl
      have hgd : gd < wr.heap.size := own_lt OY.out rfl
      have hgcB : w.heap.size ≤ gc := own_ge OX.out rfl
      have hgdB : w.heap.size ≤ gd := own_ge OY.out rfl
      obtain ⟨_, curc, ec, -, hkc, -, -, -, -⟩ := own_pos OX.out (by omega)
      injection ec with ec
      injection ec with ec
      subst ec
      obtain ⟨_, curd, ed, -, hkd, -, -, -, -⟩ := own_pos OY.out (by omega)
      injection ed with ed
      injection ed with ed
      subst ed
      have n6c : G6 ≠ gc := Ne.symm (K6.out.ne hkc (by decide))
      have n6d : G6 ≠ gd := Ne.symm (K6.out.ne hkd (by decide))
      have n7c : G7 ≠ gc := Ne.symm (K7.out.ne hkc (by decide))
      have n7d : G7 ≠ gd := Ne.symm (K7.out.ne hkd (by decide))
      clear hkc hkd
      have la : Hid (∀ X, TwoR 43 3 gc (2 + i) gd (1 + i) [(.int .i64 17 : Value), .int .i64 0, .int .i64 0] wr X → X.cell? ⟨G6, 4, none⟩ = some (.slice (some ⟨gc, 0, none⟩) (2 + i) c1) ∧ X.cell? ⟨G7, 4, none⟩ = some (.slice (some ⟨gd, 0, none⟩) (1 + i) c2)) := Lib.hid (fun X hX => ⟨(hX.bk K6.out n6c n6d).cell 4, (hX.bk K7.out n7c n7d).cell 4⟩)
      go_wp2
      try simp only [List.append_eq, List.cons_append, List.nil_append]
      refine wp_region_saysK 11 (TwoR 43 3 gc (2 + i) gd (1 + i) [(.int .i64 17 : Value), .int .i64 0, .int .i64 0]) (TwoR.trans) wr (TwoR.of (below_drew1 wr)) (by kernel_rfl) (by kernel_rfl) (by kernel_rfl) (by kernel_rfl) (by rfl) ?_
      simp only [List.take_succ_cons, List.take_zero, List.drop_succ_cons, List.drop_zero]
      refine walkK_is ?_ (by exact gs0 rfl) (fun _ => TwoR.refl _) (fun u X hX hd => ?_) ?_
      rotate_left
      · obtain ⟨q0, q1⟩ := la.out X hX
        try simp at hd
        go_simp
        try rfl
      apply walkK_norm
      · first | (simp only [List.nil_append]; rfl) | (simp only [List.nil_append, List.cons_append]; rfl) | simp only [List.nil_append, List.cons_append]
      refine walkK_is ?_ (by exact gs0 rfl) (fun _ => TwoR.refl _) (fun u X hX hd => ?_) ?_
      rotate_left
      · obtain ⟨q0, q1⟩ := la.out X hX
        try simp at hd
        go_simp
        try rfl
      apply walkK_norm
      · first | (simp only [List.nil_append]; rfl) | (simp only [List.nil_append, List.cons_append]; rfl) | simp only [List.nil_append, List.cons_append]
      refine walkK_is ?_ (by exact gs0 rfl) (fun _ => TwoR.refl _) (fun u X hX hd => ?_) ?_
      rotate_left
      · obtain ⟨q0, q1⟩ := la.out X hX
        try simp at hd
        go_simp
        try rfl
      apply walkK_norm
      · first | (simp only [List.nil_append]; rfl) | (simp only [List.nil_append, List.cons_append]; rfl) | simp only [List.nil_append, List.cons_append]
      refine walkK_new (endV wr.heap.size) (by exact gs0 rfl) (fun v x y hT h => endV_two hgc hgd v x y hT h) (fun u X hX hd => ⟨_, _, exec_insl _ _ _ _ rfl (by (try simp at hd); go_simp), TwoR.of (below_alloc1 _ _), _, rfl, hX.size, Bk.new _ _ _⟩) ?_
      apply walkK_norm
      · first | (simp only [List.nil_append]; rfl) | (simp only [List.nil_append, List.cons_append]; rfl) | simp only [List.nil_append, List.cons_append]
      refine walkK_new (rowI w.heap.size gd (2 + i) (inssW (codeX n K i))) (by exact gs0 rfl) (fun v x y hT h => rowI_one (codeX_cells n K i) v x y hT h) (fun u X hX hd => ?_) ?_
      · simp at hd
        obtain ⟨hsl, ⟨q, hq, -, hk⟩⟩ := hd
        have ho := own_two OX.out hX (fun e => .inl (Nat.le_refl _)) (fun e => absurd e hne)
        obtain ⟨g', c', w', hr, hown, hor⟩ := run_append_put (P := Try.prog) X 23 23 w.heap.size 43 iI _ 3 24 Try.underlying23 hii hz0 hz1 hz2 rfl (by decide) (Nat.le_trans HB.out.size hX.size) gc (2 + i) c1 _ ho [(.int .i64 17 : Value), .int .i64 0, .int .i64 0] rfl q hk (by intro u hu; simp at hu; rcases hu with rfl | rfl | rfl <;> rfl) (by unfold maxLen; omega) (by omega)
        refine ⟨_, w', exec_append _ _ _ _ _ _ rfl (by go_simp) (by go_simp) hr, ?_, g', c', rfl, ?_, hown⟩
        · rcases hor with ⟨-, cur, hb, hs, rfl⟩ | ⟨-, hb⟩
          · exact TwoR.setOne hne hb hs
          · exact TwoR.of hb
        · rcases hor with ⟨rfl, -⟩ | ⟨rfl, -⟩
          · exact hne
          · have := hX.size; omega
      apply walkK_norm
      · first | (simp only [List.nil_append]; rfl) | (simp only [List.nil_append, List.cons_append]; rfl) | simp only [List.nil_append, List.cons_append]
      refine walkK_is ?_ (by exact gs0 rfl) (fun _ => TwoR.refl _) (fun u X hX hd => ?_) ?_
      rotate_left
      · obtain ⟨q0, q1⟩ := la.out X hX
        try simp at hd
        go_simp
        try rfl
      apply walkK_norm
      · first | (simp only [List.nil_append]; rfl) | (simp only [List.nil_append, List.cons_append]; rfl) | simp only [List.nil_append, List.cons_append]
      refine walkK_is ?_ (by exact gs0 rfl) (fun _ => TwoR.refl _) (fun u X hX hd => ?_) ?_
      rotate_left
      · obtain ⟨q0, q1⟩ := la.out X hX
        try simp at hd
        go_simp
        try rfl
      apply walkK_norm
      · first | (simp only [List.nil_append]; rfl) | (simp only [List.nil_append, List.cons_append]; rfl) | simp only [List.nil_append, List.cons_append]
      refine walkK_is ?_ (by exact gs0 rfl) (fun _ => TwoR.refl _) (fun u X hX hd => ?_) ?_
      rotate_left
      · obtain ⟨q0, q1⟩ := la.out X hX
        try simp at hd
        go_simp
        try rfl
      apply walkK_norm
      · first | (simp only [List.nil_append]; rfl) | (simp only [List.nil_append, List.cons_append]; rfl) | simp only [List.nil_append, List.cons_append]
      refine walkK_new (endV wr.heap.size) (by exact gs0 rfl) (fun v x y hT h => endV_two hgc hgd v x y hT h) (fun u X hX hd => ⟨_, _, exec_insl _ _ _ _ rfl (by (try simp at hd); go_simp), TwoR.of (below_alloc1 _ _), _, rfl, hX.size, Bk.new _ _ _⟩) ?_
      apply walkK_norm
      · first | (simp only [List.nil_append]; rfl) | (simp only [List.nil_append, List.cons_append]; rfl) | simp only [List.nil_append, List.cons_append]
      refine walkK_new (rowI w.heap.size gc (1 + i) (inssW (codeY K i))) (by exact gs0 rfl) (fun v x y hT h => rowI_two (codeY_cells K i) v x y hT h) (fun u X hX hd => ?_) ?_
      · simp at hd
        obtain ⟨hsl, ⟨q, hq, -, hk⟩, -⟩ := hd
        have ho := own_two OY.out hX (fun e => absurd e (Ne.symm hne)) (fun e => .inl (Nat.le_refl _))
        obtain ⟨g', c', w', hr, hown, hor⟩ := run_append_put (P := Try.prog) X 23 23 w.heap.size 43 iI _ 3 24 Try.underlying23 hii hz0 hz1 hz2 rfl (by decide) (Nat.le_trans HB.out.size hX.size) gd (1 + i) c2 _ ho [(.int .i64 17 : Value), .int .i64 0, .int .i64 0] rfl q hk (by intro u hu; simp at hu; rcases hu with rfl | rfl | rfl <;> rfl) (by unfold maxLen; omega) (by omega)
        refine ⟨_, w', exec_append _ _ _ _ _ _ rfl (by go_simp) (by go_simp) hr, ?_, g', c', rfl, ?_, hown⟩
        · rcases hor with ⟨-, cur, hb, hs, rfl⟩ | ⟨-, hb⟩
          · exact TwoR.setTwo hne hb hs
          · exact TwoR.of hb
        · rcases hor with ⟨rfl, -⟩ | ⟨rfl, -⟩
          · exact Ne.symm hne
          · have := hX.size; omega
      apply walkK_norm
      · first | (simp only [List.nil_append]; rfl) | (simp only [List.nil_append, List.cons_append]; rfl) | simp only [List.nil_append, List.cons_append]
      refine walkK_is ?_ (by exact gs0 rfl) (fun _ => TwoR.refl _) (fun u X hX hd => ?_) ?_
      rotate_left
      · obtain ⟨q0, q1⟩ := la.out X hX
        try simp at hd
        go_simp
        try rfl
      apply walkK_norm
      · first | (simp only [List.nil_append]; rfl) | (simp only [List.nil_append, List.cons_append]; rfl) | simp only [List.nil_append, List.cons_append]
      intro u X hX hsay
      simp only [sayAll, isV] at hsay
      obtain ⟨v0, v1, v2, ⟨g3, v3, -, -⟩, ⟨g4, k4, v4, -, o4⟩, v5, v6, v7, ⟨g8, v8, -, -⟩, ⟨g9, k9, v9, -, o9⟩, v10, -⟩ := hsay
      have X6 := Lib.hid (hX.bk K6.out n6c n6d)
      have X7 := Lib.hid (hX.bk K7.out n7c n7d)
      have x6 := X6.out.cell 4
      have x6f := X6.out.frozen
      have x6l := X6.out.lt
      have x7 := (X7.out.far (p := ⟨G6, 4, none⟩) (Ne.symm h67) (.slice (some ⟨g4, 0, none⟩) (2 + i + 1) k4)).cell 4
      have x7f := (X7.out.far (p := ⟨G6, 4, none⟩) (Ne.symm h67) (.slice (some ⟨g4, 0, none⟩) (2 + i + 1) k4)).frozen
      have x7l := X7.out.lt
      simp only [List.getElem?_toArray, List.getElem?_cons_zero, List.getElem?_cons_succ] at x6 x7
      obtain ⟨_, q4, e4, h4B, hq4, -, -, -, -⟩ := own_pos o4 (by omega)
      injection e4 with e4
      injection e4 with e4
      subst e4
      obtain ⟨_, q9, e9, h9B, hq9, -, -, -, -⟩ := own_pos o9 (by omega)
      injection e9 with e9
      injection e9 with e9
      subst e9
      have m64 := X6.out.ne hq4 (by decide)
      have m74 := X7.out.ne hq4 (by decide)
      have m69 := X6.out.ne hq9 (by decide)
      have m79 := X7.out.ne hq9 (by decide)
      have BN : Hid (Below w.heap.size w ((X.setCell ⟨G6, 4, none⟩ (.slice (some ⟨g4, 0, none⟩) (2 + i + 1) k4)).setCell ⟨G7, 4, none⟩ (.slice (some ⟨g9, 0, none⟩) (1 + i + 1) k9))) := Lib.hid (((hX.below HB.out hgcB hgdB HB.out.size).setCell (p := ⟨G6, 4, none⟩) h6w _).setCell (p := ⟨G7, 4, none⟩) h7w _)
      have N6 : Hid (Bk ((X.setCell ⟨G6, 4, none⟩ (.slice (some ⟨g4, 0, none⟩) (2 + i + 1) k4)).setCell ⟨G7, 4, none⟩ (.slice (some ⟨g9, 0, none⟩) (1 + i + 1) k9)) G6 25 #[.slice none 0 0, .slice none 0 0, .slice none 0 0, .int .i64 9, .slice (some ⟨g4, 0, none⟩) (2 + i + 1) k4]) := Lib.hid (by simpa using (X6.out.set 4 (.slice (some ⟨g4, 0, none⟩) (2 + i + 1) k4)).far (p := ⟨G7, 4, none⟩) h67 (.slice (some ⟨g9, 0, none⟩) (1 + i + 1) k9))
      have N7 : Hid (Bk ((X.setCell ⟨G6, 4, none⟩ (.slice (some ⟨g4, 0, none⟩) (2 + i + 1) k4)).setCell ⟨G7, 4, none⟩ (.slice (some ⟨g9, 0, none⟩) (1 + i + 1) k9)) G7 25 #[.slice none 0 0, .slice none 0 0, .slice none 0 0, .int .i64 9, .slice (some ⟨g9, 0, none⟩) (1 + i + 1) k9]) := Lib.hid (by simpa using (X7.out.far (p := ⟨G6, 4, none⟩) (Ne.symm h67) (.slice (some ⟨g4, 0, none⟩) (2 + i + 1) k4)).set 4 (.slice (some ⟨g9, 0, none⟩) (1 + i + 1) k9))
      have P4 : Hid (((X.setCell ⟨G6, 4, none⟩ (.slice (some ⟨g4, 0, none⟩) (2 + i + 1) k4)).setCell ⟨G7, 4, none⟩ (.slice (some ⟨g9, 0, none⟩) (1 + i + 1) k9)).ownsRow w.heap.size 43 3 (.slice (some ⟨g4, 0, none⟩) (2 + (i + 1)) k4) (2 + (i + 1)) (inssW (codeX n K (i + 1)))) := Lib.hid (by
        rw [codeX_more, show 2 + (i + 1) = 2 + i + 1 by omega]
        exact own_keep (own_keep o4 (fun q _ hq => Below.heap_setCell X ⟨G6, 4, none⟩ _ q (by simp [Value.ownBlock] at hq; subst hq; exact m64))) (fun q _ hq => Below.heap_setCell _ ⟨G7, 4, none⟩ _ q (by simp [Value.ownBlock] at hq; subst hq; exact m74)))
      have P9 : Hid (((X.setCell ⟨G6, 4, none⟩ (.slice (some ⟨g4, 0, none⟩) (2 + i + 1) k4)).setCell ⟨G7, 4, none⟩ (.slice (some ⟨g9, 0, none⟩) (1 + i + 1) k9)).ownsRow w.heap.size 43 3 (.slice (some ⟨g9, 0, none⟩) (1 + (i + 1)) k9) (1 + (i + 1)) (inssW (codeY K (i + 1)))) := Lib.hid (by
        rw [codeY_more, show 1 + (i + 1) = 1 + i + 1 by omega]
        exact own_keep (own_keep o9 (fun q _ hq => Below.heap_setCell X ⟨G6, 4, none⟩ _ q (by simp [Value.ownBlock] at hq; subst hq; exact m69))) (fun q _ hq => Below.heap_setCell _ ⟨G7, 4, none⟩ _ q (by simp [Value.ownBlock] at hq; subst hq; exact m79)))
      simp only [putAll, Act.put, v0, v1, v2, v3, v4, v5, v6, v7, v8, v9, v10, List.setIfInBounds_toArray, List.set_cons_succ, List.set_cons_zero]
      clear v0 v1 v2 v3 v4 v5 v6 v7 v8 v9 v10 hX o4 o9 hq4 hq9 m64 m74 m69 m79 la
      go_wp2
      go_roundw
      case rel => exact ⟨i + 1, by omega, by go_num, g4, k4, P4, g9, k9, P9, N6, N7⟩
      case measure => simp [intOf]; omega
    · obtain rfl : i = K + 1 := by omega
      clear hlt
      have hk1 : ¬ ((K + 1 : Nat) : Int) ≤ (K : Int) := by omega
      have hcx : CmIn wr (cmdX n K (K + 1)) none 0 0 none 0 0 none 0 0 (some ⟨gc, 0, none⟩) (2 + (K + 1)) c1 := cmdIn OX.out (by rw [codeX_length]; omega) (by omega)
      have hcy : CmIn wr (cmdY K (K + 1)) none 0 0 none 0 0 none 0 0 (some ⟨gd, 0, none⟩) (1 + (K + 1)) c2 := cmdIn OY.out (by rw [codeY_length]; omega) (by omega)
      have SX := HX.out gc c1 wr hcx
      rw [s2.out] at SX
      have SX' : Hid (Calls Try.prog 17 #[.agg #[.slice none 0 0, .slice none 0 0, .slice none 0 0, .int .i64 9, .slice (some ⟨gc, 0, none⟩) (2 + (K + 1)) c1], .slice none 0 0, .int .i64 2] wr (WLit (2 + (K : Int)) 7 [] 0 0 0 0 [] false 0 [] wr)) := Lib.hid SX
      have SY : Hid (∀ W, Below wr.heap.size wr W → Calls Try.prog 17 #[.agg #[.slice none 0 0, .slice none 0 0, .slice none 0 0, .int .i64 9, .slice (some ⟨gd, 0, none⟩) (1 + (K + 1)) c2], .slice none 0 0, .int .i64 1] W (WLit (1 + (K : Int)) 8 [] 0 0 0 0 [] false 0 [] W)) := Lib.hid (fun W hW => by
        have := HY.out gd c2 W (hcy.below hW)
        rw [s1.out] at this
        exact this)
      have SC : Hid (∀ W, Below wr.heap.size wr W → Calls Try.prog 18 #[.agg #[.slice none 0 0, .slice none 0 0, .slice none 0 0, .int .i64 9, .slice (some ⟨gc, 0, none⟩) (2 + (K + 1)) c1]] W fun e w' => e = .returned (.int .i64 0) ∧ Below W.heap.size W w') := Lib.hid (fun W hW => by
        have := HC.out gc c1 W (hcx.below hW)
        rw [hc0.out] at this
        exact this)
      clear SX hcx hcy HX HY HC hc0 s2 s1 OX OY
      obtain ⟨c0, c1', c2', c3, c4, cf⟩ := K6.out.cmd
      have cl := K6.out.lt
      have m1 : True := trivial
      go_wp2_with (first
        | (go_at_call 17; clear m1; go_must ((with_reducible refine SX'.out.mono ?_); rintro e w1 ⟨sA, sn, sc, oA, on, oc, bA, bn, bc, rfl, m, hb⟩; obtain ⟨rfl, -, -⟩ : sn = 0 ∧ on = 0 ∧ bn = 0 := m.lens (fun _ h => by cases h); have N1 := Lib.hid (Bk.new w1 32 mZ); have V1 := Lib.hid (bnext hb (var_below w1 (mC (2 + (K : Int)) 7 (.slice sA 0 sc) 0 0 0 0 (.slice oA on oc) false 0))); have T1 := Lib.hid (var_bk w1 (mC (2 + (K : Int)) 7 (.slice sA 0 sc) 0 0 0 0 (.slice oA on oc) false 0)); have K71 := Lib.hid (K7.out.below V1.out); have K61 := Lib.hid (K6.out.below V1.out); have B1 := Lib.hid (bnext HB.out V1.out); obtain ⟨d0, d1, d2, d3, d4, df⟩ := K71.out.cmd; have dl := K71.out.lt; clear m hb))
        | (with_reducible refine st_mach w1.heap.size N1.out rfl rfl _ _ rfl rfl rfl rfl ?_)
        | (go_at_call 17; go_must ((with_reducible refine (SY.out _ V1.out).mono ?_); rintro e w2 ⟨sA2, sn2, sc2, oA2, on2, oc2, bA2, bn2, bc2, rfl, m, hb⟩; have N2 := Lib.hid (Bk.new w2 32 mZ); have V2 := Lib.hid (bnext hb (var_below w2 (mC (1 + (K : Int)) 8 (.slice sA2 sn2 sc2) 0 0 0 0 (.slice oA2 on2 oc2) false 0))); have T2 := Lib.hid (var_bk w2 (mC (1 + (K : Int)) 8 (.slice sA2 sn2 sc2) 0 0 0 0 (.slice oA2 on2 oc2) false 0)); have T12 := Lib.hid (T1.out.below V2.out); have K62 := Lib.hid (K61.out.below V2.out); have B2 := Lib.hid (bnext B1.out V2.out); have V12 := Lib.hid (bnext V1.out V2.out); clear m hb))
        | (with_reducible refine st_mach w2.heap.size N2.out rfl rfl _ _ rfl rfl rfl rfl ?_)
        | (go_at_call 10; go_must ((with_reducible refine (aw.out _).mono ?_); rintro e w3 ⟨rfl, hb3⟩; have B3 := Lib.hid (bnext B2.out hb3); have V3 := Lib.hid (bnext V12.out hb3); have T13 := Lib.hid (T12.out.below hb3); have T23 := Lib.hid (T2.out.below hb3); obtain ⟨e0, e1, e2, e3, e4, ef⟩ := (K62.out.below hb3).cmd; have el := (K62.out.below hb3).lt; clear hb3))
        | (go_at_call 18; go_must ((with_reducible refine (SC.out _ V3.out).mono ?_); rintro e w4 ⟨rfl, hb4⟩; have B4 := Lib.hid (bnext B3.out hb4); have a0 := (T13.out.below hb4).cell 0; have a2 := (T13.out.below hb4).cell 2; have al := (T13.out.below hb4).lt; have b0 := (T23.out.below hb4).cell 0; have bl := (T23.out.below hb4).lt; simp only [List.getElem?_toArray, List.getElem?_cons_zero, List.getElem?_cons_succ] at a0 a2 b0; clear hb4)))
      go_ret
      exact ⟨rfl, B4.out⟩


set_option maxHeartbeats 16000000 in
set_option maxRecDepth 100000 in
theorem turns_else (n a : Int) (hn : n ≠ 0) (ha : 0 ≤ a ∧ a ≤ 255) (w : World) : Calls Try.prog 7 #[.int .i64 n, .int .u8 a] w fun e w' => e = .returned (.bool true) ∧ Below w.heap.size w w' := by
  obtain ⟨K, hK⟩ := Int.eq_ofNat_of_zero_le (show (0 : Int) ≤ a % 5 by omega)
  have hK4 : K ≤ 4 := by omega
  obtain ⟨iI, hii, hz0, hz1, hz2⟩ := infoIns
  have aw := Lib.hid (fun W => awake10 W)
  have HX := Lib.hid (fun (g c : Nat) (W : World) (h : CmIn W (cmdX n K (K + 1)) none 0 0 none 0 0 none 0 0 (some ⟨g, 0, none⟩) (2 + (K + 1)) c) => went_any none 0 0 none 0 0 none 0 0 (some ⟨g, 0, none⟩) (2 + (K + 1)) c (cmdX n K (K + 1)) [] 2 none 0 0 W h (nilB _) (by decide) (fitX n K (K + 1) hK4 (by omega)))
  have HY := Lib.hid (fun (g c : Nat) (W : World) (h : CmIn W (cmdY K (K + 1)) none 0 0 none 0 0 none 0 0 (some ⟨g, 0, none⟩) (1 + (K + 1)) c) => went_any none 0 0 none 0 0 none 0 0 (some ⟨g, 0, none⟩) (1 + (K + 1)) c (cmdY K (K + 1)) [] 1 none 0 0 W h (nilB _) (by decide) (fitY K (K + 1) hK4 (by omega)))
  have HC := Lib.hid (fun (g c : Nat) (W : World) (h : CmIn W (cmdX n K (K + 1)) none 0 0 none 0 0 none 0 0 (some ⟨g, 0, none⟩) (2 + (K + 1)) c) => rcheck_any (cmdX n K (K + 1)) none 0 0 none 0 0 none 0 0 (some ⟨g, 0, none⟩) (2 + (K + 1)) c W h)
  have hc0 := Lib.hid (checkX n K hK4)
  have s2 : Hid (stepsM (cmdX n K (K + 1)) 2 (newM (cmdX n K (K + 1)), []) = (⟨2, 7, [], [0, 0, 0, 0], [], false, 0⟩, [])) := Lib.hid (by
    rw [stepsX2]
    simp [hn])
  have hnn : (n == 0) = false := by simpa using hn
  clear hn
  have s1 := Lib.hid (stepsY1 K (K + 1))
  have B0 : Hid (Below w.heap.size w ((((w.alloc (.cells #[.int .i64 1, .int .i64 n, .int .i64 0, .int .i64 13, .int .i64 (K : Int), .int .i64 0] 43)).alloc (.cells #[.slice none 0 0, .slice none 0 0, .slice none 0 0, .int .i64 9, .slice (some ⟨w.heap.size, 0, none⟩) (2) 2] 25)).alloc (.cells #[.int .i64 14, .int .i64 (K : Int), .int .i64 0] 43)).alloc (.cells #[.slice none 0 0, .slice none 0 0, .slice none 0 0, .int .i64 9, .slice (some ⟨w.heap.size + 1 + 1, 0, none⟩) (1) 1] 25))) := Lib.hid (bnext (bnext (bnext (below_alloc1 _ _) (below_alloc1 _ _)) (below_alloc1 _ _)) (below_alloc1 _ _))
  have OX0 : Hid (((((w.alloc (.cells #[.int .i64 1, .int .i64 n, .int .i64 0, .int .i64 13, .int .i64 (K : Int), .int .i64 0] 43)).alloc (.cells #[.slice none 0 0, .slice none 0 0, .slice none 0 0, .int .i64 9, .slice (some ⟨w.heap.size, 0, none⟩) (2) 2] 25)).alloc (.cells #[.int .i64 14, .int .i64 (K : Int), .int .i64 0] 43)).alloc (.cells #[.slice none 0 0, .slice none 0 0, .slice none 0 0, .int .i64 9, .slice (some ⟨w.heap.size + 1 + 1, 0, none⟩) (1) 1] 25)).ownsRow w.heap.size 43 3 (.slice (some ⟨w.heap.size, 0, none⟩) (2 + 0) 2) (2 + 0) (inssW (codeX n K 0))) := Lib.hid (by
    have h := World.ownsRow_lit (base := w.heap.size) (e := 43) (size := 3) w #[.int .i64 1, .int .i64 n, .int .i64 0, .int .i64 13, .int .i64 (K : Int), .int .i64 0] 2 (Nat.le_refl _) (by decide) rfl
    exact own_below (own_below (own_below h (below_alloc1 _ _)) (below_alloc1 _ _)) (below_alloc1 _ _))
  have OY0 : Hid (((((w.alloc (.cells #[.int .i64 1, .int .i64 n, .int .i64 0, .int .i64 13, .int .i64 (K : Int), .int .i64 0] 43)).alloc (.cells #[.slice none 0 0, .slice none 0 0, .slice none 0 0, .int .i64 9, .slice (some ⟨w.heap.size, 0, none⟩) (2) 2] 25)).alloc (.cells #[.int .i64 14, .int .i64 (K : Int), .int .i64 0] 43)).alloc (.cells #[.slice none 0 0, .slice none 0 0, .slice none 0 0, .int .i64 9, .slice (some ⟨w.heap.size + 1 + 1, 0, none⟩) (1) 1] 25)).ownsRow w.heap.size 43 3 (.slice (some ⟨w.heap.size + 1 + 1, 0, none⟩) (1 + 0) 1) (1 + 0) (inssW (codeY K 0))) := Lib.hid (by
    have h := World.ownsRow_lit (base := w.heap.size) (e := 43) (size := 3) ((w.alloc (.cells #[.int .i64 1, .int .i64 n, .int .i64 0, .int .i64 13, .int .i64 (K : Int), .int .i64 0] 43)).alloc (.cells #[.slice none 0 0, .slice none 0 0, .slice none 0 0, .int .i64 9, .slice (some ⟨w.heap.size, 0, none⟩) (2) 2] 25)) #[.int .i64 14, .int .i64 (K : Int), .int .i64 0] 1 (by simp only [World.size_alloc]; omega) (by decide) rfl
    rw [World.size_alloc, World.size_alloc] at h
    exact own_below h (below_alloc1 _ _))
  have K60 : Hid (Bk ((((w.alloc (.cells #[.int .i64 1, .int .i64 n, .int .i64 0, .int .i64 13, .int .i64 (K : Int), .int .i64 0] 43)).alloc (.cells #[.slice none 0 0, .slice none 0 0, .slice none 0 0, .int .i64 9, .slice (some ⟨w.heap.size, 0, none⟩) (2) 2] 25)).alloc (.cells #[.int .i64 14, .int .i64 (K : Int), .int .i64 0] 43)).alloc (.cells #[.slice none 0 0, .slice none 0 0, .slice none 0 0, .int .i64 9, .slice (some ⟨w.heap.size + 1 + 1, 0, none⟩) (1) 1] 25)) (w.heap.size + 1) 25 #[.slice none 0 0, .slice none 0 0, .slice none 0 0, .int .i64 9, .slice (some ⟨w.heap.size, 0, none⟩) (2) 2]) := Lib.hid (by
    have h := ((Bk.new (w.alloc (.cells #[.int .i64 1, .int .i64 n, .int .i64 0, .int .i64 13, .int .i64 (K : Int), .int .i64 0] 43)) 25 #[.slice none 0 0, .slice none 0 0, .slice none 0 0, .int .i64 9, .slice (some ⟨w.heap.size, 0, none⟩) (2) 2]).alloc (.cells #[.int .i64 14, .int .i64 (K : Int), .int .i64 0] 43)).alloc (.cells #[.slice none 0 0, .slice none 0 0, .slice none 0 0, .int .i64 9, .slice (some ⟨w.heap.size + 1 + 1, 0, none⟩) (1) 1] 25)
    rwa [World.size_alloc] at h)
  have K70 : Hid (Bk ((((w.alloc (.cells #[.int .i64 1, .int .i64 n, .int .i64 0, .int .i64 13, .int .i64 (K : Int), .int .i64 0] 43)).alloc (.cells #[.slice none 0 0, .slice none 0 0, .slice none 0 0, .int .i64 9, .slice (some ⟨w.heap.size, 0, none⟩) (2) 2] 25)).alloc (.cells #[.int .i64 14, .int .i64 (K : Int), .int .i64 0] 43)).alloc (.cells #[.slice none 0 0, .slice none 0 0, .slice none 0 0, .int .i64 9, .slice (some ⟨w.heap.size + 1 + 1, 0, none⟩) (1) 1] 25)) (w.heap.size + 1 + 1 + 1) 25 #[.slice none 0 0, .slice none 0 0, .slice none 0 0, .int .i64 9, .slice (some ⟨w.heap.size + 1 + 1, 0, none⟩) (1) 1]) := Lib.hid (by
    have h := Bk.new (((w.alloc (.cells #[.int .i64 1, .int .i64 n, .int .i64 0, .int .i64 13, .int .i64 (K : Int), .int .i64 0] 43)).alloc (.cells #[.slice none 0 0, .slice none 0 0, .slice none 0 0, .int .i64 9, .slice (some ⟨w.heap.size, 0, none⟩) (2) 2] 25)).alloc (.cells #[.int .i64 14, .int .i64 (K : Int), .int .i64 0] 43)) 25 #[.slice none 0 0, .slice none 0 0, .slice none 0 0, .int .i64 9, .slice (some ⟨w.heap.size + 1 + 1, 0, none⟩) (1) 1]
    rwa [World.size_alloc, World.size_alloc, World.size_alloc] at h)
  go_enter Try.func7, Try.ntmps7
  go_wp2
  obtain ⟨G6, hG6⟩ : ∃ G, G = w.heap.size + 1 := ⟨_, rfl⟩
  obtain ⟨G7, hG7⟩ : ∃ G, G = w.heap.size + 1 + 1 + 1 := ⟨_, rfl⟩
  obtain ⟨W0, hW0⟩ : ∃ W, W = ((((w.alloc (.cells #[.int .i64 1, .int .i64 n, .int .i64 0, .int .i64 13, .int .i64 (K : Int), .int .i64 0] 43)).alloc (.cells #[.slice none 0 0, .slice none 0 0, .slice none 0 0, .int .i64 9, .slice (some ⟨w.heap.size, 0, none⟩) (2) 2] 25)).alloc (.cells #[.int .i64 14, .int .i64 (K : Int), .int .i64 0] 43)).alloc (.cells #[.slice none 0 0, .slice none 0 0, .slice none 0 0, .int .i64 9, .slice (some ⟨w.heap.size + 1 + 1, 0, none⟩) (1) 1] 25)) := ⟨_, rfl⟩
  rw [← hW0] at B0 OX0 OY0 K60 K70 ⊢
  rw [← hG7] at K70 ⊢
  rw [← hG6] at K60 ⊢
  clear hW0
  have h67 : G6 ≠ G7 := by omega
  have h6w : w.heap.size ≤ G6 := by omega
  have h7w : w.heap.size ≤ G7 := by omega
  clear hG6 hG7
  go_loopw [8] (fun ii wr => ∃ (i gc c1 gd c2 : Nat), i ≤ K + 1 ∧ ii = .int .i64 i ∧ Hid (Below w.heap.size w wr) ∧ Hid (wr.ownsRow w.heap.size 43 3 (.slice (some ⟨gc, 0, none⟩) (2 + i) c1) (2 + i) (inssW (codeX n K i))) ∧ Hid (wr.ownsRow w.heap.size 43 3 (.slice (some ⟨gd, 0, none⟩) (1 + i) c2) (1 + i) (inssW (codeY K i))) ∧ Hid (Bk wr G6 25 #[.slice none 0 0, .slice none 0 0, .slice none 0 0, .int .i64 9, .slice (some ⟨gc, 0, none⟩) (2 + i) c1]) ∧ Hid (Bk wr G7 25 #[.slice none 0 0, .slice none 0 0, .slice none 0 0, .int .i64 9, .slice (some ⟨gd, 0, none⟩) (1 + i) c2])) (fun ii _ => K + 1 - (intOf ii).toNat)
  case atStart => exact ⟨0, w.heap.size, 2, w.heap.size + 1 + 1, 1, Nat.zero_le _, rfl, B0, OX0, OY0, K60, K70⟩
  case round =>
    clear B0 OX0 OY0 K60 K70
    obtain ⟨i, gc, c1, gd, c2, hi, rfl, HB, OX, OY, K6, K7⟩ := hrel
    by_cases hlt : i ≤ K
    · have di : (i : Int) ≤ (K : Int) := by omega
      have hne : gc ≠ gd := own_unlike OX.out OY.out (codeX_first n K i) (codeY_first K i) (by simp)
      have hgc : gc < wr.heap.size := own_lt OX.out rfl
      have hgd : gd < wr.heap.size := own_lt OY.out rfl
      have hgcB : w.heap.size ≤ gc := own_ge OX.out rfl
      have hgdB : w.heap.size ≤ gd := own_ge OY.out rfl
      obtain ⟨_, curc, ec, -, hkc, -, -, -, -⟩ := own_pos OX.out (by omega)
      injection ec with ec
      injection ec with ec
      subst ec
      obtain ⟨_, curd, ed, -, hkd, -, -, -, -⟩ := own_pos OY.out (by omega)
      injection ed with ed
      injection ed with ed
      subst ed
      have n6c : G6 ≠ gc := Ne.symm (K6.out.ne hkc (by decide))
      have n6d : G6 ≠ gd := Ne.symm (K6.out.ne hkd (by decide))
      have n7c : G7 ≠ gc := Ne.symm (K7.out.ne hkc (by decide))
      have n7d : G7 ≠ gd := Ne.symm (K7.out.ne hkd (by decide))
      clear hkc hkd
      have la : Hid (∀ X, TwoR 43 3 gc (2 + i) gd (1 + i) [(.int .i64 17 : Value), .int .i64 0, .int .i64 0] wr X → X.cell? ⟨G6, 4, none⟩ = some (.slice (some ⟨gc, 0, none⟩) (2 + i) c1) ∧ X.cell? ⟨G7, 4, none⟩ = some (.slice (some ⟨gd, 0, none⟩) (1 + i) c2)) := Lib.hid (fun X hX => ⟨(hX.bk K6.out n6c n6d).cell 4, (hX.bk K7.out n7c n7d).cell 4⟩)
      go_wp2
      try simp only [List.append_eq, List.cons_append, List.nil_append]
      refine wp_region_saysK 11 (TwoR 43 3 gc (2 + i) gd (1 + i) [(.int .i64 17 : Value), .int .i64 0, .int .i64 0]) (TwoR.trans) wr (TwoR.of (below_drew1 wr)) (by kernel_rfl) (by kernel_rfl) (by kernel_rfl) (by kernel_rfl) (by rfl) ?_
      simp only [List.take_succ_cons, List.take_zero, List.drop_succ_cons, List.drop_zero]
      refine walkK_is ?_ (by exact gs0 rfl) (fun _ => TwoR.refl _) (fun u X hX hd => ?_) ?_
      rotate_left
      · obtain ⟨q0, q1⟩ := la.out X hX
        try simp at hd
        go_simp
        try rfl
      apply walkK_norm
      · first | (simp only [List.nil_append]; rfl) | (simp only [List.nil_append, List.cons_append]; rfl) | simp only [List.nil_append, List.cons_append]
      refine walkK_is ?_ (by exact gs0 rfl) (fun _ => TwoR.refl _) (fun u X hX hd => ?_) ?_
      rotate_left
      · obtain ⟨q0, q1⟩ := la.out X hX
        try simp at hd
        go_simp
        try rfl
      apply walkK_norm
      · first | (simp only [List.nil_append]; rfl) | (simp only [List.nil_append, List.cons_append]; rfl) | simp only [List.nil_append, List.cons_append]
      refine walkK_is ?_ (by exact gs0 rfl) (fun _ => TwoR.refl _) (fun u X hX hd => ?_) ?_
      rotate_left
      · obtain ⟨q0, q1⟩ := la.out X hX
        try simp at hd
        go_simp
        try rfl
      apply walkK_norm
      · first | (simp only [List.nil_append]; rfl) | (simp only [List.nil_append, List.cons_append]; rfl) | simp only [List.nil_append, List.cons_append]
      refine walkK_new (endV wr.heap.size) (by exact gs0 rfl) (fun v x y hT h => endV_two hgc hgd v x y hT h) (fun u X hX hd => ⟨_, _, exec_insl _ _ _ _ rfl (by (try simp at hd); go_simp), TwoR.of (below_alloc1 _ _), _, rfl, hX.size, Bk.new _ _ _⟩) ?_
      apply walkK_norm
      · first | (simp only [List.nil_append]; rfl) | (simp only [List.nil_append, List.cons_append]; rfl) | simp only [List.nil_append, List.cons_append]
      refine walkK_new (rowI w.heap.size gd (2 + i) (inssW (codeX n K i))) (by exact gs0 rfl) (fun v x y hT h => rowI_one (codeX_cells n K i) v x y hT h) (fun u X hX hd => ?_) ?_
      · simp at hd
        obtain ⟨hsl, ⟨q, hq, -, hk⟩⟩ := hd
        have ho := own_two OX.out hX (fun e => .inl (Nat.le_refl _)) (fun e => absurd e hne)
        obtain ⟨g', c', w', hr, hown, hor⟩ := run_append_put (P := Try.prog) X 23 23 w.heap.size 43 iI _ 3 24 Try.underlying23 hii hz0 hz1 hz2 rfl (by decide) (Nat.le_trans HB.out.size hX.size) gc (2 + i) c1 _ ho [(.int .i64 17 : Value), .int .i64 0, .int .i64 0] rfl q hk (by intro u hu; simp at hu; rcases hu with rfl | rfl | rfl <;> rfl) (by unfold maxLen; omega) (by omega)
        refine ⟨_, w', exec_append _ _ _ _ _ _ rfl (by go_simp) (by go_simp) hr, ?_, g', c', rfl, ?_, hown⟩
        · rcases hor with ⟨-, cur, hb, hs, rfl⟩ | ⟨-, hb⟩
          · exact TwoR.setOne hne hb hs
          · exact TwoR.of hb
        · rcases hor with ⟨rfl, -⟩ | ⟨rfl, -⟩
          · exact hne
          · have := hX.size; omega
      apply walkK_norm
      · first | (simp only [List.nil_append]; rfl) | (simp only [List.nil_append, List.cons_append]; rfl) | simp only [List.nil_append, List.cons_append]
      refine walkK_is ?_ (by exact gs0 rfl) (fun _ => TwoR.refl _) (fun u X hX hd => ?_) ?_
      rotate_left
      · obtain ⟨q0, q1⟩ := la.out X hX
        try simp at hd
        go_simp
        try rfl
      apply walkK_norm
      · first | (simp only [List.nil_append]; rfl) | (simp only [List.nil_append, List.cons_append]; rfl) | simp only [List.nil_append, List.cons_append]
      refine walkK_is ?_ (by exact gs0 rfl) (fun _ => TwoR.refl _) (fun u X hX hd => ?_) ?_
      rotate_left
      · obtain ⟨q0, q1⟩ := la.out X hX
        try simp at hd
        go_simp
        try rfl
      apply walkK_norm
      · first | (simp only [List.nil_append]; rfl) | (simp only [List.nil_append, List.cons_append]; rfl) | simp only [List.nil_append, List.cons_append]
      refine walkK_is ?_ (by exact gs0 rfl) (fun _ => TwoR.refl _) (fun u X hX hd => ?_) ?_
      rotate_left
      · obtain ⟨q0, q1⟩ := la.out X hX
        try simp at hd
        go_simp
        try rfl
      apply walkK_norm
      · first | (simp only [List.nil_append]; rfl) | (simp only [List.nil_append, List.cons_append]; rfl) | simp only [List.nil_append, List.cons_append]
      refine walkK_new (endV wr.heap.size) (by exact gs0 rfl) (fun v x y hT h => endV_two hgc hgd v x y hT h) (fun u X hX hd => ⟨_, _, exec_insl _ _ _ _ rfl (by (try simp at hd); go_simp), TwoR.of (below_alloc1 _ _), _, rfl, hX.size, Bk.new _ _ _⟩) ?_
      apply walkK_norm
      · first | (simp only [List.nil_append]; rfl) | (simp only [List.nil_append, List.cons_append]; rfl) | simp only [List.nil_append, List.cons_append]
      refine walkK_new (rowI w.heap.size gc (1 + i) (inssW (codeY K i))) (by exact gs0 rfl) (fun v x y hT h => rowI_two (codeY_cells K i) v x y hT h) (fun u X hX hd => ?_) ?_
      · simp at hd
        obtain ⟨hsl, ⟨q, hq, -, hk⟩, -⟩ := hd
        have ho := own_two OY.out hX (fun e => absurd e (Ne.symm hne)) (fun e => .inl (Nat.le_refl _))
        obtain ⟨g', c', w', hr, hown, hor⟩ := run_append_put (P := Try.prog) X 23 23 w.heap.size 43 iI _ 3 24 Try.underlying23 hii hz0 hz1 hz2 rfl (by decide) (Nat.le_trans HB.out.size hX.size) gd (1 + i) c2 _ ho [(.int .i64 17 : Value), .int .i64 0, .int .i64 0] rfl q hk (by intro u hu; simp at hu; rcases hu with rfl | rfl | rfl <;> rfl) (by unfold maxLen; omega) (by omega)
        refine ⟨_, w', exec_append _ _ _ _ _ _ rfl (by go_simp) (by go_simp) hr, ?_, g', c', rfl, ?_, hown⟩
        · rcases hor with ⟨-, cur, hb, hs, rfl⟩ | ⟨-, hb⟩
          · exact TwoR.setTwo hne hb hs
          · exact TwoR.of hb
        · rcases hor with ⟨rfl, -⟩ | ⟨rfl, -⟩
          · exact Ne.symm hne
          · have := hX.size; omega
      apply walkK_norm
      · first | (simp only [List.nil_append]; rfl) | (simp only [List.nil_append, List.cons_append]; rfl) | simp only [List.nil_append, List.cons_append]
      refine walkK_is ?_ (by exact gs0 rfl) (fun _ => TwoR.refl _) (fun u X hX hd => ?_) ?_
      rotate_left
      · obtain ⟨q0, q1⟩ := la.out X hX
        try simp at hd
        go_simp
        try rfl
      apply walkK_norm
      · first | (simp only [List.nil_append]; rfl) | (simp only [List.nil_append, List.cons_append]; rfl) | simp only [List.nil_append, List.cons_append]
      intro u X hX hsay
      simp only [sayAll, isV] at hsay
      obtain ⟨v0, v1, v2, ⟨g3, v3, -, -⟩, ⟨g4, k4, v4, -, o4⟩, v5, v6, v7, ⟨g8, v8, -, -⟩, ⟨g9, k9, v9, -, o9⟩, v10, -⟩ := hsay
      have X6 := Lib.hid (hX.bk K6.out n6c n6d)
      have X7 := Lib.hid (hX.bk K7.out n7c n7d)
      have x6 := X6.out.cell 4
      have x6f := X6.out.frozen
      have x6l := X6.out.lt
      have x7 := (X7.out.far (p := ⟨G6, 4, none⟩) (Ne.symm h67) (.slice (some ⟨g4, 0, none⟩) (2 + i + 1) k4)).cell 4
      have x7f := (X7.out.far (p := ⟨G6, 4, none⟩) (Ne.symm h67) (.slice (some ⟨g4, 0, none⟩) (2 + i + 1) k4)).frozen
      have x7l := X7.out.lt
      simp only [List.getElem?_toArray, List.getElem?_cons_zero, List.getElem?_cons_succ] at x6 x7
      obtain ⟨_, q4, e4, h4B, hq4, -, -, -, -⟩ := own_pos o4 (by omega)
      injection e4 with e4
      injection e4 with e4
      subst e4
      obtain ⟨_, q9, e9, h9B, hq9, -, -, -, -⟩ := own_pos o9 (by omega)
      injection e9 with e9
      injection e9 with e9
      subst e9
      have m64 := X6.out.ne hq4 (by decide)
      have m74 := X7.out.ne hq4 (by decide)
      have m69 := X6.out.ne hq9 (by decide)
      have m79 := X7.out.ne hq9 (by decide)
      have BN : Hid (Below w.heap.size w ((X.setCell ⟨G6, 4, none⟩ (.slice (some ⟨g4, 0, none⟩) (2 + i + 1) k4)).setCell ⟨G7, 4, none⟩ (.slice (some ⟨g9, 0, none⟩) (1 + i + 1) k9))) := Lib.hid (((hX.below HB.out hgcB hgdB HB.out.size).setCell (p := ⟨G6, 4, none⟩) h6w _).setCell (p := ⟨G7, 4, none⟩) h7w _)
      have N6 : Hid (Bk ((X.setCell ⟨G6, 4, none⟩ (.slice (some ⟨g4, 0, none⟩) (2 + i + 1) k4)).setCell ⟨G7, 4, none⟩ (.slice (some ⟨g9, 0, none⟩) (1 + i + 1) k9)) G6 25 #[.slice none 0 0, .slice none 0 0, .slice none 0 0, .int .i64 9, .slice (some ⟨g4, 0, none⟩) (2 + i + 1) k4]) := Lib.hid (by simpa using (X6.out.set 4 (.slice (some ⟨g4, 0, none⟩) (2 + i + 1) k4)).far (p := ⟨G7, 4, none⟩) h67 (.slice (some ⟨g9, 0, none⟩) (1 + i + 1) k9))
      have N7 : Hid (Bk ((X.setCell ⟨G6, 4, none⟩ (.slice (some ⟨g4, 0, none⟩) (2 + i + 1) k4)).setCell ⟨G7, 4, none⟩ (.slice (some ⟨g9, 0, none⟩) (1 + i + 1) k9)) G7 25 #[.slice none 0 0, .slice none 0 0, .slice none 0 0, .int .i64 9, .slice (some ⟨g9, 0, none⟩) (1 + i + 1) k9]) := Lib.hid (by simpa using (X7.out.far (p := ⟨G6, 4, none⟩) (Ne.symm h67) (.slice (some ⟨g4, 0, none⟩) (2 + i + 1) k4)).set 4 (.slice (some ⟨g9, 0, none⟩) (1 + i + 1) k9))
      have P4 : Hid (((X.setCell ⟨G6, 4, none⟩ (.slice (some ⟨g4, 0, none⟩) (2 + i + 1) k4)).setCell ⟨G7, 4, none⟩ (.slice (some ⟨g9, 0, none⟩) (1 + i + 1) k9)).ownsRow w.heap.size 43 3 (.slice (some ⟨g4, 0, none⟩) (2 + (i + 1)) k4) (2 + (i + 1)) (inssW (codeX n K (i + 1)))) := Lib.hid (by
        rw [codeX_more, show 2 + (i + 1) = 2 + i + 1 by omega]
        exact own_keep (own_keep o4 (fun q _ hq => Below.heap_setCell X ⟨G6, 4, none⟩ _ q (by simp [Value.ownBlock] at hq; subst hq; exact m64))) (fun q _ hq => Below.heap_setCell _ ⟨G7, 4, none⟩ _ q (by simp [Value.ownBlock] at hq; subst hq; exact m74)))
      have P9 : Hid (((X.setCell ⟨G6, 4, none⟩ (.slice (some ⟨g4, 0, none⟩) (2 + i + 1) k4)).setCell ⟨G7, 4, none⟩ (.slice (some ⟨g9, 0, none⟩) (1 + i + 1) k9)).ownsRow w.heap.size 43 3 (.slice (some ⟨g9, 0, none⟩) (1 + (i + 1)) k9) (1 + (i + 1)) (inssW (codeY K (i + 1)))) := Lib.hid (by
        rw [codeY_more, show 1 + (i + 1) = 1 + i + 1 by omega]
        exact own_keep (own_keep o9 (fun q _ hq => Below.heap_setCell X ⟨G6, 4, none⟩ _ q (by simp [Value.ownBlock] at hq; subst hq; exact m69))) (fun q _ hq => Below.heap_setCell _ ⟨G7, 4, none⟩ _ q (by simp [Value.ownBlock] at hq; subst hq; exact m79)))
      simp only [putAll, Act.put, v0, v1, v2, v3, v4, v5, v6, v7, v8, v9, v10, List.setIfInBounds_toArray, List.set_cons_succ, List.set_cons_zero]
      clear v0 v1 v2 v3 v4 v5 v6 v7 v8 v9 v10 hX o4 o9 hq4 hq9 m64 m74 m69 m79 la
      go_wp2
      go_roundw
      case rel => exact ⟨i + 1, by omega, by go_num, g4, k4, P4, g9, k9, P9, N6, N7⟩
      case measure => simp [intOf]; omega
    · obtain rfl : i = K + 1 := by omega
      clear hlt
      have hk1 : ¬ ((K + 1 : Nat) : Int) ≤ (K : Int) := by omega
      have hcx : CmIn wr (cmdX n K (K + 1)) none 0 0 none 0 0 none 0 0 (some ⟨gc, 0, none⟩) (2 + (K + 1)) c1 := cmdIn OX.out (by rw [codeX_length]; omega) (by omega)
      have hcy : CmIn wr (cmdY K (K + 1)) none 0 0 none 0 0 none 0 0 (some ⟨gd, 0, none⟩) (1 + (K + 1)) c2 := cmdIn OY.out (by rw [codeY_length]; omega) (by omega)
      have SX := HX.out gc c1 wr hcx
      rw [s2.out] at SX
      have SX' : Hid (Calls Try.prog 17 #[.agg #[.slice none 0 0, .slice none 0 0, .slice none 0 0, .int .i64 9, .slice (some ⟨gc, 0, none⟩) (2 + (K + 1)) c1], .slice none 0 0, .int .i64 2] wr (WLit 2 7 [] 0 0 0 0 [] false 0 [] wr)) := Lib.hid SX
      have SY : Hid (∀ W, Below wr.heap.size wr W → Calls Try.prog 17 #[.agg #[.slice none 0 0, .slice none 0 0, .slice none 0 0, .int .i64 9, .slice (some ⟨gd, 0, none⟩) (1 + (K + 1)) c2], .slice none 0 0, .int .i64 1] W (WLit (1 + (K : Int)) 8 [] 0 0 0 0 [] false 0 [] W)) := Lib.hid (fun W hW => by
        have := HY.out gd c2 W (hcy.below hW)
        rw [s1.out] at this
        exact this)
      have SC : Hid (∀ W, Below wr.heap.size wr W → Calls Try.prog 18 #[.agg #[.slice none 0 0, .slice none 0 0, .slice none 0 0, .int .i64 9, .slice (some ⟨gc, 0, none⟩) (2 + (K + 1)) c1]] W fun e w' => e = .returned (.int .i64 0) ∧ Below W.heap.size W w') := Lib.hid (fun W hW => by
        have := HC.out gc c1 W (hcx.below hW)
        rw [hc0.out] at this
        exact this)
      clear SX hcx hcy HX HY HC hc0 s2 s1 OX OY
      obtain ⟨c0, c1', c2', c3, c4, cf⟩ := K6.out.cmd
      have cl := K6.out.lt
      have m1 : True := trivial
      go_wp2_with (first
        | (go_at_call 17; clear m1; go_must ((with_reducible refine SX'.out.mono ?_); rintro e w1 ⟨sA, sn, sc, oA, on, oc, bA, bn, bc, rfl, m, hb⟩; obtain ⟨rfl, -, -⟩ : sn = 0 ∧ on = 0 ∧ bn = 0 := m.lens (fun _ h => by cases h); have N1 := Lib.hid (Bk.new w1 32 mZ); have V1 := Lib.hid (bnext hb (var_below w1 (mC 2 7 (.slice sA 0 sc) 0 0 0 0 (.slice oA on oc) false 0))); have T1 := Lib.hid (var_bk w1 (mC 2 7 (.slice sA 0 sc) 0 0 0 0 (.slice oA on oc) false 0)); have K71 := Lib.hid (K7.out.below V1.out); have K61 := Lib.hid (K6.out.below V1.out); have B1 := Lib.hid (bnext HB.out V1.out); obtain ⟨d0, d1, d2, d3, d4, df⟩ := K71.out.cmd; have dl := K71.out.lt; clear m hb))
        | (with_reducible refine st_mach w1.heap.size N1.out rfl rfl _ _ rfl rfl rfl rfl ?_)
        | (go_at_call 17; go_must ((with_reducible refine (SY.out _ V1.out).mono ?_); rintro e w2 ⟨sA2, sn2, sc2, oA2, on2, oc2, bA2, bn2, bc2, rfl, m, hb⟩; have N2 := Lib.hid (Bk.new w2 32 mZ); have V2 := Lib.hid (bnext hb (var_below w2 (mC (1 + (K : Int)) 8 (.slice sA2 sn2 sc2) 0 0 0 0 (.slice oA2 on2 oc2) false 0))); have T2 := Lib.hid (var_bk w2 (mC (1 + (K : Int)) 8 (.slice sA2 sn2 sc2) 0 0 0 0 (.slice oA2 on2 oc2) false 0)); have T12 := Lib.hid (T1.out.below V2.out); have K62 := Lib.hid (K61.out.below V2.out); have B2 := Lib.hid (bnext B1.out V2.out); have V12 := Lib.hid (bnext V1.out V2.out); clear m hb))
        | (with_reducible refine st_mach w2.heap.size N2.out rfl rfl _ _ rfl rfl rfl rfl ?_)
        | (go_at_call 10; go_must ((with_reducible refine (aw.out _).mono ?_); rintro e w3 ⟨rfl, hb3⟩; have B3 := Lib.hid (bnext B2.out hb3); have V3 := Lib.hid (bnext V12.out hb3); have T13 := Lib.hid (T12.out.below hb3); have T23 := Lib.hid (T2.out.below hb3); obtain ⟨e0, e1, e2, e3, e4, ef⟩ := (K62.out.below hb3).cmd; have el := (K62.out.below hb3).lt; clear hb3))
        | (go_at_call 18; go_must ((with_reducible refine (SC.out _ V3.out).mono ?_); rintro e w4 ⟨rfl, hb4⟩; have B4 := Lib.hid (bnext B3.out hb4); have a0 := (T13.out.below hb4).cell 0; have a2 := (T13.out.below hb4).cell 2; have al := (T13.out.below hb4).lt; have b0 := (T23.out.below hb4).cell 0; have bl := (T23.out.below hb4).lt; simp only [List.getElem?_toArray, List.getElem?_cons_zero, List.getElem?_cons_succ] at a0 a2 b0; clear hb4)))
      go_ret
      exact ⟨rfl, B4.out⟩


theorem machineTurns_walk (n a : Int) (ha : 0 ≤ a ∧ a ≤ 255) (w : World) : Calls Try.prog 7 #[.int .i64 n, .int .u8 a] w fun e w' => e = .returned (.bool true) ∧ Below w.heap.size w w' := by
  by_cases h : n = 0
  · subst h
    exact turns_zero a ha w
  · exact turns_else n a h ha w

end Go.Proofs.Ytehaknnoplcbcaa
