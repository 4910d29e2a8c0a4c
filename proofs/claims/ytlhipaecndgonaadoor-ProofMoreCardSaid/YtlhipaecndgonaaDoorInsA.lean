/-
  What instr's places and Right answer, in whatever memory that has the kinds' table. No conditions but those that stand there.
-/
import Derived.Test.YtlhipaecndgonaaDoorAsmKd
import Derived.Test.YtlhipaecndgonaaDoorAsmW
import Derived.Test.YtlhipaecndgonaaDoorBut
import Derived.Test.YtlhipaecndgonaaDoorInsP
import Derived.Deep.RegionHeld3
namespace Go.Proofs.YtlhipaecndgonaaDoor
open Go.RowKit

theorem HasKinds.but {g : Nat} {w w' : World} (h : HasKinds w) (hb : But g w w') (hne : 0 ≠ g) : HasKinds w' :=
  ⟨Nat.lt_of_lt_of_le h.lt hb.size, fun i hi => (hb.cell _ _ h.lt hne).trans (h.word i hi), fun i hi => (hb.cell _ _ h.lt hne).trans (h.takes i hi)⟩

theorem takes_two (op : Int) : takesN op = 0 ∨ takesN op = 1 ∨ takesN op = 2 := by
  unfold takesN
  split
  · exact .inr (.inr rfl)
  · split
    · exact .inr (.inl rfl)
    · exact .inl rfl

/-- behind places: two blocks more. -/
def placed (x : Ins) (w : World) : World := (w.alloc (.cells #[.int .i64 x.op, .int .i64 x.a, .int .i64 x.b] 35)).alloc (.cells #[.int .i64 x.a, .int .i64 x.b] 3)

theorem placed_below (x : Ins) (w : World) : Below w.heap.size w (placed x w) := ((Below.refl _ _).alloc (Nat.le_refl _) _).alloc (by rw [World.size_alloc]; omega) _
theorem placed_bk (x : Ins) (w : World) : Bk (placed x w) (w.heap.size + 1) 3 #[.int .i64 x.a, .int .i64 x.b] := by
  have := Bk.new (w.alloc (.cells #[.int .i64 x.op, .int .i64 x.a, .int .i64 x.b] 35)) 3 #[.int .i64 x.a, .int .i64 x.b]
  rwa [World.size_alloc] at this

theorem places_any (x : Ins) (w : World) :
    Calls Tryd.prog 30 #[.agg #[.int .i64 x.op, .int .i64 x.a, .int .i64 x.b]] w fun e w' => e = .returned (.slice (some ⟨w.heap.size + 1, 0, none⟩) 2 2) ∧ w' = placed x w := by
  go_enter Tryd.func30, Tryd.ntmps30
  go_wp2
  go_ret
  exact ⟨rfl, rfl⟩

/-- the numbers in their places. -/
def insN (x : Ins) (i : Nat) : Int := if i = 0 then x.a else x.b

set_option maxHeartbeats 4000000 in
theorem insRight_main (x : Ins) (tk m : Nat) (hm : m + tk ≤ 2) (h0 : ∀ i, i < m → insN x (tk + i) = 0) (h1 : m + tk < 2 → insN x (tk + m) ≠ 0) (b : Bool) (hb : decide (m + tk = 2) = b) (w : World) (hop : 1 ≤ x.op ∧ x.op ≤ 17) (ht : takesN x.op = tk) (hT : HasKinds w) :
    Calls Tryd.prog 23 #[.agg #[.int .i64 x.op, .int .i64 x.a, .int .i64 x.b]] w fun e w' => e = .returned (.bool b) ∧ Below w.heap.size w w' := by
  have hbx : Below w.heap.size w (w.alloc (.cells #[.int .i64 x.op, .int .i64 x.a, .int .i64 x.b] 35)) := (Below.refl _ _).alloc (Nat.le_refl _) _
  have htk : Hid (∀ W, HasKinds W → Calls Tryd.prog 31 #[.int .i64 x.op] W fun e w' => e = .returned (.int .i64 tk) ∧ W = w') := Lib.hid (fun W hW => by have := takes_any x.op W hW; rw [ht] at this; exact this)
  have hpl : Hid (∀ W : World, _) := Lib.hid (fun W => places_any x W)
  have hT1 : Hid (HasKinds (w.alloc (.cells #[.int .i64 x.op, .int .i64 x.a, .int .i64 x.b] 35)).drew) := Lib.hid ((hT.belowS hbx).belowS (below_drew1 _))
  have hT2 : Hid (HasKinds (placed x (w.alloc (.cells #[.int .i64 x.op, .int .i64 x.a, .int .i64 x.b] 35)).drew)) := Lib.hid (hT1.out.belowS (placed_below _ _))
  obtain ⟨o1, o2⟩ := hop
  have d1 : (0 : Int) ≤ (tk : Int) := by omega
  have d2 : (tk : Int) ≤ 2 := by omega
  clear ht hT hbx
  have hx0 : Hid (insN x 0 = x.a) := Lib.hid rfl
  have hx1 : Hid (insN x 1 = x.b) := Lib.hid rfl
  have h0' := Lib.hid h0
  have h1' := Lib.hid h1
  have hsz : (w.alloc (.cells #[.int .i64 x.op, .int .i64 x.a, .int .i64 x.b] 35)).drew.heap.size = w.heap.size + 1 := by
    show (w.alloc _).heap.size = _
    rw [World.size_alloc]
  have hpb0 := placed_bk x (w.alloc (.cells #[.int .i64 x.op, .int .i64 x.a, .int .i64 x.b] 35)).drew
  rw [hsz] at hpb0
  have hpb := Lib.hid hpb0
  clear hpb0 hsz
  have hlb := Lib.hid (bnext (((Below.refl w.heap.size w).alloc (Nat.le_refl _) (.cells #[.int .i64 x.op, .int .i64 x.a, .int .i64 x.b] 35)).drew) (placed_below x _))
  clear h0 h1
  obtain ⟨tz, htz⟩ : ∃ tz : Int, tz = tk := ⟨_, rfl⟩
  rw [← htz] at htk
  rcases (show tk = 0 ∨ tk = 1 ∨ tk = 2 by omega) with rfl | rfl | rfl
  all_goals
    first
      | obtain rfl : tz = 0 := htz
      | obtain rfl : tz = 1 := htz
      | obtain rfl : tz = 2 := htz
    clear d1 d2
    go_enter Tryd.func23, Tryd.ntmps23
    go_wp2
    go_region_held3 (fun w' => w'.cell? ⟨w.heap.size, 0, none⟩ = some (.int .i64 x.op) ∧ w'.cell? ⟨w.heap.size, 1, none⟩ = some (.int .i64 x.a) ∧ w'.cell? ⟨w.heap.size, 2, none⟩ = some (.int .i64 x.b)) (first | go_keep | (unfold placed; go_keep))
      (first
        | (go_at_call 31; refine (htk.out _ (by first | exact hT1.out | exact hT2.out)).mono ?_; rintro e w9 ⟨rfl, rfl⟩)
        | (go_at_call 30; refine (hpl.out _).mono ?_; rintro e w8 ⟨rfl, rfl⟩))
    go_wp2
    obtain ⟨W1, hW1⟩ : ∃ W1, W1 = placed x (w.alloc (.cells #[.int .i64 x.op, .int .i64 x.a, .int .i64 x.b] 35)).drew := ⟨_, rfl⟩
    rw [← hW1] at hpb hlb ⊢
    obtain ⟨y0, y1, yf⟩ := hpb.out.two
    have hlt := hpb.out.lt
    clear hW1 hT1 hT2 htk hpl
    go_loop [20] (fun cc => ∃ i : Nat, i ≤ m ∧ cc = .int .i64 i) (fun cc => 2 - (intOf cc).toNat)
    case atStart => exact ⟨0, by omega, rfl⟩
    case round =>
      obtain ⟨i, hi, rfl⟩ := hrel
      rcases Nat.lt_or_ge i m with hlm | hlm
      · have z := h0'.out i hlm
        rcases (show i = 0 ∨ i = 1 by omega) with rfl | rfl
        all_goals
          first
            | (exfalso; omega)
            | (simp [insN] at z
               first | rw [z] at y0 | rw [z] at y1
               go_wp2
               go_round
               case rel => exact ⟨_, hlm, rfl⟩
               case measure => simp [intOf])
      · obtain rfl : i = m := by omega
        rcases (show i = 0 ∨ i = 1 ∨ i = 2 by omega) with rfl | rfl | rfl
        all_goals
          first
            | (exfalso; omega)
            | (obtain rfl : true = b := by rw [← hb]; decide
               go_wp2
               go_ret
               exact ⟨rfl, hlb.out⟩)
            | (obtain rfl : false = b := by rw [← hb]; decide
               have z := h1'.out (by omega)
               simp [insN] at z
               go_wp2
               go_ret
               exact ⟨rfl, hlb.out⟩)

theorem insRight_any (x : Ins) (b : Bool) (hb : decide (rightN x) = b) (w : World) (hT : HasKinds w) :
    Calls Tryd.prog 23 #[.agg #[.int .i64 x.op, .int .i64 x.a, .int .i64 x.b]] w fun e w' => e = .returned (.bool b) ∧ Below w.heap.size w w' := by
  subst hb
  by_cases hop : 1 ≤ x.op ∧ x.op ≤ 17
  · have key : ∀ tk m, takesN x.op = tk → m + tk ≤ 2 → (∀ i, i < m → insN x (tk + i) = 0) → (m + tk < 2 → insN x (tk + m) ≠ 0) → decide (m + tk = 2) = decide (rightN x) → Calls Tryd.prog 23 #[.agg #[.int .i64 x.op, .int .i64 x.a, .int .i64 x.b]] w fun e w' => e = .returned (.bool (decide (rightN x))) ∧ Below w.heap.size w w' :=
      fun tk m ht hm h0 h1 hd => insRight_main x tk m hm h0 h1 _ hd w hop ht hT
    rcases takes_two x.op with ht | ht | ht
    · by_cases ha : x.a = 0
      · by_cases hb : x.b = 0
        · exact key 0 2 ht (by omega) (fun i hi => by unfold insN; split <;> assumption) (fun h => by omega) (decide_eq_decide.2 (by simp [rightN, hop, ha, hb]))
        · exact key 0 1 ht (by omega) (fun i hi => by obtain rfl : i = 0 := (by omega); exact ha) (fun _ => hb) (decide_eq_decide.2 (by simp [rightN, hb, ht]))
      · exact key 0 0 ht (by omega) (fun i hi => by omega) (fun _ => ha) (decide_eq_decide.2 (by simp [rightN, ha, ht]))
    · by_cases hb : x.b = 0
      · exact key 1 1 ht (by omega) (fun i hi => by obtain rfl : i = 0 := (by omega); exact hb) (fun h => by omega) (decide_eq_decide.2 (by simp [rightN, hop, hb, ht]))
      · exact key 1 0 ht (by omega) (fun i hi => by omega) (fun _ => hb) (decide_eq_decide.2 (by simp [rightN, hb, ht]))
    · exact key 2 0 ht (by omega) (fun i hi => by omega) (fun h => by omega) (decide_eq_decide.2 (by simp [rightN, hop, ht]))
  · rw [decide_eq_false (show ¬ rightN x from fun h => hop h.1)]
    clear hT
    by_cases h1 : x.op < 1
    · clear hop
      go_enter Tryd.func23, Tryd.ntmps23
      go_wp2
      go_ret
      exact ⟨rfl, (Below.refl _ _).alloc (Nat.le_refl _) _⟩
    · have h2 : 17 < x.op := by omega
      clear hop
      go_enter Tryd.func23, Tryd.ntmps23
      go_wp2
      go_ret
      exact ⟨rfl, (Below.refl _ _).alloc (Nat.le_refl _) _⟩

end Go.Proofs.YtlhipaecndgonaaDoor
