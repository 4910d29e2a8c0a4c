/-
  awake of layer 16's laws: true, in whatever memory. No conditions.
-/
import Derived.Test.YtldljohholgmoaaZPooV
import Derived.Test.YtldljohholgmoaaZInsN
import Derived.Test.YtldljohholgmoaaQRely
namespace Go.Proofs.Ytldljohholgmoaa
open Go Go.RowKit
attribute [local go_sem] look findAt
attribute [local simp] depsOf isV Region.binds

def cmdX : Cmd := ⟨[], [0], [], 7, [⟨17, 0, 0⟩]⟩
theorem cmdX_may : MayBe cmdX := (check_zero cmdX).1 (by kernel_rfl)
theorem cmdX_fits : fitsT cmdX 1 := by unfold fitsT cmdX; simp
abbrev tsX : List Tsk := [newP 4 cmdX, newP 5 cmdX]
abbrev tsY : List Tsk := [{ newP 4 cmdX with worker := 1 }, newP 5 cmdX]
abbrev whoX : Who := [(4, cmdX), (5, cmdX)]
theorem xGood : goodL 1 tsX := fun T hT => by
  simp only [List.mem_cons, List.not_mem_nil, or_false] at hT
  rcases hT with rfl | rfl <;> exact ⟨cmdX_may, cmdX_fits⟩
theorem yGood : goodL 1 tsY := fun T hT => by
  simp only [List.mem_cons, List.not_mem_nil, or_false] at hT
  rcases hT with rfl | rfl <;> exact ⟨cmdX_may, cmdX_fits⟩
theorem xReady : readiesL (lksW whoX 1) tsX = [4] := by kernel_rfl
theorem yReady : readiesL (lksW whoX 1) tsY = [] := by kernel_rfl
theorem xFind5 : idxP (seqP 5) tsX = 1 := by kernel_rfl
theorem xFind6 : idxP (seqP 6) tsX = -1 := by kernel_rfl
theorem xOf : idxP (wkP (-1)) tsX = -1 := by kernel_rfl
theorem yOf : idxP (wkP 1) tsY = 0 := by kernel_rfl
theorem xFuel : fuelP tsX = 14 := by kernel_rfl

theorem intsNil (w : World) : Ints w none 0 [] := ⟨rfl, Nat.le_refl _, fun _ => ⟨rfl, rfl⟩, fun h => absurd h (by simp)⟩
theorem xFew (a b : Nat) : fewC ⟨cmdX, none, 0, 0, some ⟨a, 0, none⟩, 1, 1, none, 0, 0, some ⟨b, 0, none⟩, 1, 1⟩ := ⟨Nat.zero_le _, (show 1 ≤ 1000 by decide), Nat.zero_le _, (show 1 ≤ 1000 by decide)⟩

section
variable (X : World) (A : Option Addr) (c : Nat) (l : List TkL)
theorem xwith (t : TkL) (ht : t.In X) (hf : fewT t) (hs : t.tsk = { newP 4 cmdX with worker := 1 }) (h : TkIs tsX X A 2 c l) : Calls Try.prog 12 #[.slice A 2 c, .int .i64 0, .agg (tkA t)] X fun e w' => ∃ A' c' l', e = .returned (.slice A' 2 c') ∧ TkIs tsY w' A' 2 c' l' ∧ Below X.heap.size X w' :=
  (pwith_is tsX l A 2 c X 0 t h (by decide) (by decide) ht hf).mono fun _ _ ⟨A', c', l', he, hO, hb⟩ => ⟨A', c', l', he, by have := hO.is; rw [hs] at this; exact this, hb⟩
theorem xfind5 (h : TkIs tsX X A 2 c l) : Calls Try.prog 15 #[.slice A 2 c, .int .i64 5] X fun e w' => e = .returned (.int .i64 1) ∧ Below X.heap.size X w' := by rw [← xFind5]; exact pfind_is _ _ _ _ _ _ 5 h (by decide)
theorem xfind6 (h : TkIs tsX X A 2 c l) : Calls Try.prog 15 #[.slice A 2 c, .int .i64 6] X fun e w' => e = .returned (.int .i64 (-1)) ∧ Below X.heap.size X w' := by rw [← xFind6]; exact pfind_is _ _ _ _ _ _ 6 h (by decide)
theorem xof (h : TkIs tsX X A 2 c l) : Calls Try.prog 17 #[.slice A 2 c, .int .i64 (-1)] X fun e w' => e = .returned (.int .i64 (-1)) ∧ Below X.heap.size X w' := by rw [← xOf]; exact pof_is _ _ _ _ _ _ (-1) h (by decide)
theorem yof (h : TkIs tsY X A 2 c l) : Calls Try.prog 17 #[.slice A 2 c, .int .i64 1] X fun e w' => e = .returned (.int .i64 0) ∧ Below X.heap.size X w' := by rw [← yOf]; exact pof_is _ _ _ _ _ _ 1 h (by decide)
theorem xfuel (h : TkIs tsX X A 2 c l) : Calls Try.prog 19 #[.slice A 2 c] X fun e w' => e = .returned (.int .i64 14) ∧ Below X.heap.size X w' := by
  rw [← xFuel]
  exact pfuel_is _ _ _ _ _ _ h (by decide) (fun T hT => by
    simp only [List.mem_cons, List.not_mem_nil, or_false] at hT
    rcases hT with rfl | rfl <;> decide)
theorem xready (WA : Option Addr) (wc : Nat) (h : TkIs tsX X A 2 c l) (hl : LkSl X WA 1 wc (lksW whoX 1)) : Calls Try.prog 22 #[.slice A 2 c, .slice WA 1 wc] X fun e w' => ∃ A' c', e = .returned (.slice A' 1 c') ∧ Ints w' A' c' [4] ∧ Below X.heap.size X w' := by
  have := pready_is _ _ _ _ _ _ whoX WA 1 wc h (by decide) xGood hl (by decide)
  rwa [xReady] at this
theorem yready (WA : Option Addr) (wc : Nat) (h : TkIs tsY X A 2 c l) (hl : LkSl X WA 1 wc (lksW whoX 1)) : Calls Try.prog 22 #[.slice A 2 c, .slice WA 1 wc] X fun e w' => ∃ A' c', e = .returned (.slice A' 0 c') ∧ Ints w' A' c' [] ∧ Below X.heap.size X w' := by
  have := pready_is _ _ _ _ _ _ whoX WA 1 wc h (by decide) yGood hl (by decide)
  rwa [yReady] at this
theorem ywithout (h : TkIs tsY X A 2 c l) : Calls Try.prog 24 #[.slice A 2 c, .int .i64 0] X fun e w' => ∃ A' c', e = .returned (.slice A' 1 c') ∧ Below X.heap.size X w' :=
  (pwithout_is _ _ _ _ _ _ 0 h (by decide) (by decide)).mono fun _ _ ⟨A', c', _, he, _, hb⟩ => ⟨A', c', he, hb⟩
end

structure StX (A : Option Addr) (c : Nat) (l : List TkL) (A3 : Option Addr) (c3 : Nat) (l3 : List TkL) (WA : Option Addr) (wc : Nat) (rA : Option Addr) (rc : Nat) (W : World) : Prop where
  x : TkIs tsX W A 2 c l
  y : TkIs tsY W A3 2 c3 l3
  k : LkSl W WA 1 wc (lksW whoX 1)
  r : Ints W rA rc [4]
theorem StX.below {A : Option Addr} {c : Nat} {l : List TkL} {A3 : Option Addr} {c3 : Nat} {l3 : List TkL} {WA : Option Addr} {wc : Nat} {rA : Option Addr} {rc : Nat} {W W' : World} (h : StX A c l A3 c3 l3 WA wc rA rc W) (hb : Below W.heap.size W W') : StX A c l A3 c3 l3 WA wc rA rc W' :=
  ⟨h.x.below hb, h.y.below hb, h.k.below hb, h.r.below hb⟩

set_option maxRecDepth 100000 in
set_option maxHeartbeats 8000000 in
theorem awake16 (w : World) : Calls Try.prog 7 #[] w fun e w' => e = .returned (.bool true) ∧ Below w.heap.size w w' := by
  have e0 : (w.alloc (.cells #[.int .i64 0] 3)).heap.size = w.heap.size + 1 := World.size_alloc ..
  have B1 := below_alloc1 w (.cells #[.int .i64 0] 3)
  have B2 := below_alloc1 (w.alloc (.cells #[.int .i64 0] 3)) (.cells #[.int .i64 17, .int .i64 0, .int .i64 0] 57)
  have B3 := below_alloc1 ((w.alloc (.cells #[.int .i64 0] 3)).alloc (.cells #[.int .i64 17, .int .i64 0, .int .i64 0] 57)) (.cells #[.slice none 0 0, .slice (some ⟨w.heap.size, 0, none⟩) 1 1, .slice none 0 0, .int .i64 7, .slice (some ⟨w.heap.size + 1, 0, none⟩) 1 1] 33)
  have q0 := ((ints_new [0] w).below B2).below B3
  have q1 := (inss_new [⟨17, 0, 0⟩] (w.alloc (.cells #[.int .i64 0] 3))).below B3
  have k0 := Bk.new ((w.alloc (.cells #[.int .i64 0] 3)).alloc (.cells #[.int .i64 17, .int .i64 0, .int .i64 0] 57)) 33 #[.slice none 0 0, .slice (some ⟨w.heap.size, 0, none⟩) 1 1, .slice none 0 0, .int .i64 7, .slice (some ⟨w.heap.size + 1, 0, none⟩) 1 1]
  rw [World.size_alloc, World.size_alloc] at k0
  rw [e0] at q1
  have b0 := bnext B1 (bnext B2 B3)
  obtain ⟨W0, hW0⟩ : ∃ W0, W0 = ((w.alloc (.cells #[.int .i64 0] 3)).alloc (.cells #[.int .i64 17, .int .i64 0, .int .i64 0] 57)).alloc (.cells #[.slice none 0 0, .slice (some ⟨w.heap.size, 0, none⟩) 1 1, .slice none 0 0, .int .i64 7, .slice (some ⟨w.heap.size + 1, 0, none⟩) 1 1] 33) := ⟨_, rfl⟩
  rw [← hW0] at b0 k0
  have q0' : Ints W0 (some ⟨w.heap.size, 0, none⟩) 1 [0] := by rw [hW0]; exact q0
  have q1' : Inss W0 (some ⟨w.heap.size + 1, 0, none⟩) 1 [⟨17, 0, 0⟩] := by rw [hW0]; exact q1
  have hin : CmL.In ⟨cmdX, none, 0, 0, some ⟨w.heap.size, 0, none⟩, 1, 1, none, 0, 0, some ⟨w.heap.size + 1, 0, none⟩, 1, 1⟩ W0 := ⟨rfl, rfl, rfl, rfl, intsNil _, q0', intsNil _, q1'⟩
  have hlk : CmLk W0 cmdX none 0 0 (some ⟨w.heap.size, 0, none⟩) 1 1 1 := ⟨rfl, rfl, intsNil _, q0', by decide, by decide, by decide, by decide⟩
  have CC : Hid (∀ X, Below W0.heap.size W0 X → X.cell? ⟨w.heap.size + 1 + 1, 0, none⟩ = some (.slice none 0 0) ∧ X.cell? ⟨w.heap.size + 1 + 1, 1, none⟩ = some (.slice (some ⟨w.heap.size, 0, none⟩) 1 1) ∧ X.cell? ⟨w.heap.size + 1 + 1, 2, none⟩ = some (.slice none 0 0) ∧ X.cell? ⟨w.heap.size + 1 + 1, 3, none⟩ = some (.int .i64 7) ∧ X.cell? ⟨w.heap.size + 1 + 1, 4, none⟩ = some (.slice (some ⟨w.heap.size + 1, 0, none⟩) 1 1) ∧ w.heap.size + 1 + 1 < X.heap.size) := Lib.hid (fun X hX => by
    have hk := k0.below hX
    exact ⟨hk.cell 0, hk.cell 1, hk.cell 2, hk.cell 3, hk.cell 4, hk.lt⟩)
  have ha1 : Hid (∀ X, Below W0.heap.size W0 X → Calls Try.prog 9 #[.slice none 0 0, (.agg #[.slice none 0 0, .slice (some ⟨w.heap.size, 0, none⟩) 1 1, .slice none 0 0, .int .i64 7, .slice (some ⟨w.heap.size + 1, 0, none⟩) 1 1]), .int .i64 4] X fun e w' => ∃ v, e = .returned v ∧ Below X.heap.size X w' ∧ isT [newP 4 cmdX] 1 v w') := Lib.hid (fun X hX => (padd_is [] [] none 0 0 X ⟨cmdX, none, 0, 0, some ⟨w.heap.size, 0, none⟩, 1, 1, none, 0, 0, some ⟨w.heap.size + 1, 0, none⟩, 1, 1⟩ 4 (TkIs.nil X) (by decide) (hin.below hX) (xFew _ _)).mono fun _ _ h => h.is.says)
  have ha2 : Hid (∀ (X : World) A c l, Below W0.heap.size W0 X → TkIs [newP 4 cmdX] X A 1 c l → Calls Try.prog 9 #[.slice A 1 c, (.agg #[.slice none 0 0, .slice (some ⟨w.heap.size, 0, none⟩) 1 1, .slice none 0 0, .int .i64 7, .slice (some ⟨w.heap.size + 1, 0, none⟩) 1 1]), .int .i64 5] X fun e w' => ∃ v, e = .returned v ∧ Below X.heap.size X w' ∧ isT tsX 2 v w') := Lib.hid (fun X A c l hX hl => (padd_is [newP 4 cmdX] l A 1 c X ⟨cmdX, none, 0, 0, some ⟨w.heap.size, 0, none⟩, 1, 1, none, 0, 0, some ⟨w.heap.size + 1, 0, none⟩, 1, 1⟩ 5 hl (by decide) (hin.below hX) (xFew _ _)).mono fun _ _ h => h.is.says)
  have hn : Hid (∀ X, Below W0.heap.size W0 X → Calls Try.prog 8 #[.int .i64 1] X fun e w' => ∃ v, e = .returned v ∧ Below X.heap.size X w' ∧ lksV 1 (lksW [] 1) v w') := Lib.hid (fun X _ => (rnew_who 1 X (by decide) (by decide)).mono fun _ _ h => h.sl.says)
  have hs1 : Hid (∀ (X : World) A k, Below W0.heap.size W0 X → LkSl X A 1 k (lksW [] 1) → Calls Try.prog 11 #[.slice A 1 k, (.agg #[.slice none 0 0, .slice (some ⟨w.heap.size, 0, none⟩) 1 1, .slice none 0 0, .int .i64 7, .slice (some ⟨w.heap.size + 1, 0, none⟩) 1 1]), .int .i64 4] X fun e w' => ∃ v, e = .returned v ∧ Below X.heap.size X w' ∧ lksV 1 (lksW [(4, cmdX)] 1) v w') := Lib.hid (fun X A k hX hl => (rask_who cmdX none 0 0 (some ⟨w.heap.size, 0, none⟩) 1 1 none 0 0 7 (some ⟨w.heap.size + 1, 0, none⟩) 1 1 [] A 1 k 4 X hl (by decide) (by decide) cmdX_may.sets (hlk.below hX)).mono fun _ _ h => h.says)
  have hs2 : Hid (∀ (X : World) A k, Below W0.heap.size W0 X → LkSl X A 1 k (lksW [(4, cmdX)] 1) → Calls Try.prog 11 #[.slice A 1 k, (.agg #[.slice none 0 0, .slice (some ⟨w.heap.size, 0, none⟩) 1 1, .slice none 0 0, .int .i64 7, .slice (some ⟨w.heap.size + 1, 0, none⟩) 1 1]), .int .i64 5] X fun e w' => ∃ v, e = .returned v ∧ Below X.heap.size X w' ∧ lksV 1 (lksW whoX 1) v w') := Lib.hid (fun X A k hX hl => (rask_who cmdX none 0 0 (some ⟨w.heap.size, 0, none⟩) 1 1 none 0 0 7 (some ⟨w.heap.size + 1, 0, none⟩) 1 1 [(4, cmdX)] A 1 k 5 X hl (by decide) (by decide) cmdX_may.sets (hlk.below hX)).mono fun _ _ h => h.says)
  have HW := Lib.hid hW0
  have B0 := Lib.hid b0
  clear e0 B1 B2 B3 q0 q1 q0' q1' k0 b0 hin hlk hW0
  go_enter Try.func7, Try.ntmps7
  go_wp2
  rw [← HW.out]
  try simp only [List.append_eq, List.cons_append, List.nil_append]
  refine wp_region_saysK 4 (fun x y => Below x.heap.size x y) (fun _ _ _ h k => bnext h k) W0 (below_drew1 W0) (by kernel_rfl) (by kernel_rfl) (by kernel_rfl) (by kernel_rfl) (by rfl) ?_
  simp only [List.take_succ_cons, List.take_zero, List.drop_succ_cons, List.drop_zero]
  refine walkK_is (.agg #[.slice none 0 0, .slice (some ⟨w.heap.size, 0, none⟩) 1 1, .slice none 0 0, .int .i64 7, .slice (some ⟨w.heap.size + 1, 0, none⟩) 1 1]) (by first | exact gs0 rfl | exact gs1 rfl rfl rfl) (fun _ => Below.refl _ _) (fun u X hX hd => ?_) ?_
  · obtain ⟨a0, a1, a2, a3, a4, a5⟩ := CC.out X hX
    try simp at hd
    go_simp
    try rfl
  apply walkK_norm
  · first | (simp only [List.nil_append]; rfl) | simp only [List.nil_append]
  refine walkK_call (isT [newP 4 cmdX] 1) 9 ?_ (by first | exact gs0 rfl | exact gs1 rfl rfl rfl) (fun v x y hb h => isT_keep v x y hb h) (fun u X hX hd => ?_) (fun X hX => ?_) ?_
  rotate_left
  · obtain ⟨a0, a1, a2, a3, a4, a5⟩ := CC.out X hX
    try simp at hd
    go_simp
    try rfl
  · exact ha1.out X hX
  apply walkK_norm
  · first | (simp only [List.nil_append, List.cons_append]; rfl) | simp only [List.nil_append, List.cons_append]
  refine walkK_is (.agg #[.slice none 0 0, .slice (some ⟨w.heap.size, 0, none⟩) 1 1, .slice none 0 0, .int .i64 7, .slice (some ⟨w.heap.size + 1, 0, none⟩) 1 1]) (by first | exact gs0 rfl | exact gs1 rfl rfl rfl) (fun _ => Below.refl _ _) (fun u X hX hd => ?_) ?_
  · obtain ⟨a0, a1, a2, a3, a4, a5⟩ := CC.out X hX
    try simp at hd
    go_simp
    try rfl
  apply walkK_norm
  · first | (simp only [List.nil_append, List.cons_append]; rfl) | simp only [List.nil_append, List.cons_append]
  refine walkK_callU (isT tsX 2) 9 (by first | exact gs0 rfl | exact gs1 rfl rfl rfl) (fun v x y hb h => isT_keep v x y hb h) (fun u X hX hd => ?_) ?_
  · simp at hd
    obtain ⟨⟨A', c', l', hv, hS⟩, h1⟩ := hd
    refine ⟨#[.slice A' 1 c', (.agg #[.slice none 0 0, .slice (some ⟨w.heap.size, 0, none⟩) 1 1, .slice none 0 0, .int .i64 7, .slice (some ⟨w.heap.size + 1, 0, none⟩) 1 1]), .int .i64 5], ?_, ha2.out X A' c' l' hX hS⟩
    go_simp
  apply walkK_norm
  · first | (simp only [List.nil_append, List.cons_append]; rfl) | simp only [List.nil_append, List.cons_append]
  intro u X hX hsay
  simp only [sayAll, isV] at hsay
  obtain ⟨-, -, -, v3, -⟩ := hsay
  obtain ⟨A2, c2, l2, v3, hS⟩ := v3
  simp only [putAll, Act.put, v3, List.setIfInBounds_toArray, List.set_cons_succ, List.set_cons_zero, Nat.zero_add, Nat.reduceAdd]
  have S1 := Lib.hid hS
  have HX1 := Lib.hid hX
  obtain ⟨W1, hW1⟩ : ∃ W1, W1 = X := ⟨_, rfl⟩
  rw [← hW1] at S1 HX1 ⊢
  clear v3 hS hX hW1
  go_wp2
  try simp only [List.append_eq, List.cons_append, List.nil_append]
  refine wp_region_saysK 5 (fun x y => Below x.heap.size x y) (fun _ _ _ h k => bnext h k) W1 (below_drew1 W1) (by kernel_rfl) (by kernel_rfl) (by kernel_rfl) (by kernel_rfl) (by rfl) ?_
  simp only [List.take_succ_cons, List.take_zero, List.drop_succ_cons, List.drop_zero]
  refine walkK_call (lksV 1 (lksW [] 1)) 8 ?_ (by first | exact gs0 rfl | exact gs1 rfl rfl rfl) (fun v x y hb h => lksV_keep v x y hb h) (fun u X hX hd => ?_) (fun X hX => ?_) ?_
  rotate_left
  · obtain ⟨a0, a1, a2, a3, a4, a5⟩ := CC.out X (bnext HX1.out hX)
    try simp at hd
    go_simp
    try rfl
  · exact hn.out X (bnext HX1.out hX)
  apply walkK_norm
  · first | (simp only [List.nil_append]; rfl) | simp only [List.nil_append]
  refine walkK_is (.agg #[.slice none 0 0, .slice (some ⟨w.heap.size, 0, none⟩) 1 1, .slice none 0 0, .int .i64 7, .slice (some ⟨w.heap.size + 1, 0, none⟩) 1 1]) (by first | exact gs0 rfl | exact gs1 rfl rfl rfl) (fun _ => Below.refl _ _) (fun u X hX hd => ?_) ?_
  · obtain ⟨a0, a1, a2, a3, a4, a5⟩ := CC.out X (bnext HX1.out hX)
    try simp at hd
    go_simp
    try rfl
  apply walkK_norm
  · first | (simp only [List.nil_append, List.cons_append]; rfl) | simp only [List.nil_append, List.cons_append]
  refine walkK_callU (lksV 1 (lksW [(4, cmdX)] 1)) 11 (by first | exact gs0 rfl | exact gs1 rfl rfl rfl) (fun v x y hb h => lksV_keep v x y hb h) (fun u X hX hd => ?_) ?_
  · simp at hd
    obtain ⟨⟨A', k', hv, hs⟩, h1⟩ := hd
    refine ⟨#[.slice A' 1 k', (.agg #[.slice none 0 0, .slice (some ⟨w.heap.size, 0, none⟩) 1 1, .slice none 0 0, .int .i64 7, .slice (some ⟨w.heap.size + 1, 0, none⟩) 1 1]), .int .i64 4], ?_, hs1.out X A' k' (bnext HX1.out hX) hs⟩
    go_simp
  apply walkK_norm
  · first | (simp only [List.nil_append, List.cons_append]; rfl) | simp only [List.nil_append, List.cons_append]
  refine walkK_is (.agg #[.slice none 0 0, .slice (some ⟨w.heap.size, 0, none⟩) 1 1, .slice none 0 0, .int .i64 7, .slice (some ⟨w.heap.size + 1, 0, none⟩) 1 1]) (by first | exact gs0 rfl | exact gs1 rfl rfl rfl) (fun _ => Below.refl _ _) (fun u X hX hd => ?_) ?_
  · obtain ⟨a0, a1, a2, a3, a4, a5⟩ := CC.out X (bnext HX1.out hX)
    try simp at hd
    go_simp
    try rfl
  apply walkK_norm
  · first | (simp only [List.nil_append, List.cons_append]; rfl) | simp only [List.nil_append, List.cons_append]
  refine walkK_callU (lksV 1 (lksW whoX 1)) 11 (by first | exact gs0 rfl | exact gs1 rfl rfl rfl) (fun v x y hb h => lksV_keep v x y hb h) (fun u X hX hd => ?_) ?_
  · simp at hd
    obtain ⟨⟨A', k', hv, hs⟩, h1⟩ := hd
    refine ⟨#[.slice A' 1 k', (.agg #[.slice none 0 0, .slice (some ⟨w.heap.size, 0, none⟩) 1 1, .slice none 0 0, .int .i64 7, .slice (some ⟨w.heap.size + 1, 0, none⟩) 1 1]), .int .i64 5], ?_, hs2.out X A' k' (bnext HX1.out hX) hs⟩
    go_simp
  apply walkK_norm
  · first | (simp only [List.nil_append, List.cons_append]; rfl) | simp only [List.nil_append, List.cons_append]
  intro u X hX hsay
  simp only [sayAll, isV] at hsay
  obtain ⟨-, -, -, -, v4, -⟩ := hsay
  obtain ⟨WA, wc, v4, hL⟩ := v4
  simp only [putAll, Act.put, v4, List.setIfInBounds_toArray, List.set_cons_succ, List.set_cons_zero, Nat.zero_add, Nat.reduceAdd]
  have S2 := Lib.hid (S1.out.below hX)
  have L2 := Lib.hid hL
  have B2 := Lib.hid (bnext B0.out (bnext HX1.out hX))
  clear v4 hL hX ha1 ha2 hn hs1 hs2
  obtain ⟨t0, ht0⟩ := tk_at (l := l2) (i := 0) (by rw [S2.out.len]; decide)
  obtain ⟨b, off, rfl, hat⟩ := S2.out.sl.lies ht0
  rw [Nat.zero_mul, Nat.add_zero] at hat
  have HAT := Lib.hid hat
  have hin0 := Lib.hid (S2.out.sl.2 t0 (List.mem_of_getElem? ht0))
  have hfe0 := Lib.hid (S2.out.few t0 (List.mem_of_getElem? ht0))
  have hts : t0.tsk = newP 4 cmdX := by
    have := S2.out.says.at ht0
    injection this with this
    exact this.symm
  have hwk : t0.wk = -1 := congrArg Tsk.worker hts
  have HTS := Lib.hid hts
  have HWK := Lib.hid hwk
  have hcap := S2.out.sl.cap
  rw [S2.out.len] at hcap
  have d1 : (0 : Int) < (c2 : Int) := by omega
  have hrd := Lib.hid (xready X (some ⟨b, off, none⟩) c2 l2 WA wc S2.out L2.out)
  clear ht0 hat hts hwk
  go_wp2_with fail
  refine hrd.out.mono ?_
  rintro e w4 ⟨rA, rc, rfl, hI, hb4⟩
  have I4 := Lib.hid hI
  have X4 := Lib.hid hb4
  clear hI hb4
  have HR4 := Lib.hid (HAT.out w4 X4.out).all
  have hbl := (HAT.out w4 X4.out).lt
  have KZ := Lib.hid (Bk.new w4 41 tkZ)
  obtain ⟨w5, hw5⟩ : ∃ w5, w5 = (w4.alloc (.cells tkZ 41)).setRow w4.heap.size (tkA t0) := ⟨_, rfl⟩
  have HW5 := Lib.hid hw5.symm
  have k5 : Bk w5 w4.heap.size 41 (tkA t0) := by rw [hw5]; exact KZ.out.setRow _
  have b5 : Below w4.heap.size w4 w5 := by rw [hw5]; exact below_row (below_alloc1 _ _) (Nat.le_refl _) _
  have p17 := k5.cell 17
  have pl := k5.lt
  have pf := fun o => k5.frozen o
  simp only [List.getElem?_toArray, List.getElem?_cons_zero, List.getElem?_cons_succ] at p17
  obtain ⟨t1, ht1⟩ : ∃ t1, t1 = ({ t0 with wk := 1 } : TkL) := ⟨_, rfl⟩
  have k6 : Bk (w5.setCell ⟨w4.heap.size, 17, none⟩ (.int .i64 1)) w4.heap.size 41 (tkA t1) := by
    have := k5.set 17 (.int .i64 1)
    simp only [List.setIfInBounds_toArray, List.set_cons_zero, List.set_cons_succ] at this
    rw [ht1]
    exact this
  have b6 : Below w4.heap.size w4 (w5.setCell ⟨w4.heap.size, 17, none⟩ (.int .i64 1)) := b5.setCell (p := ⟨w4.heap.size, 17, none⟩) (Nat.le_refl _) _
  have K6 := Lib.hid k6
  have C6 := Lib.hid b6
  have B6 := Lib.hid (bnext X4.out b6)
  have hts1 : t1.tsk = { newP 4 cmdX with worker := 1 } := by rw [ht1, ← HTS.out]; rfl
  have hin1 : t1.In X := by rw [ht1]; exact ⟨hin0.out.cmd, hin0.out.mac, hin0.out.four, hin0.out.own, hin0.out.eight⟩
  have hfe1 : fewT t1 := by rw [ht1]; exact ⟨hfe0.out.r, hfe0.out.w, hfe0.out.a, hfe0.out.c, hfe0.out.s, hfe0.out.o, hfe0.out.b⟩
  have hwi := Lib.hid (xwith _ (some ⟨b, off, none⟩) c2 l2 t1 (hin1.below B6.out) hfe1 hts1 (S2.out.below B6.out))
  clear hw5 k5 b5 ht1 k6 b6 hts1 hin1 hfe1
  have m1 : True := trivial
  have m2 : True := trivial
  go_wp2_with (first
    | (with_reducible refine ld_tskm b off HR4.out _ rfl rfl rfl ?_)
    | (with_reducible refine st_tsk w4.heap.size KZ.out rfl t0 _ _ rfl rfl rfl rfl ?_; rw [HW5.out])
    | (with_reducible refine ld_tsk w4.heap.size K6.out _ rfl rfl rfl ?_)
    | (go_at_call 12; go_must ((with_reducible refine hwi.out.mono ?_); rintro e w7 ⟨A3, c3, l3, rfl, hY, hb7⟩; have B7 := Lib.hid (bnext B6.out hb7); have T7 : Hid (StX (some ⟨b, off, none⟩) c2 l2 A3 c3 l3 WA wc rA rc w7) := Lib.hid ⟨S2.out.below B7.out, hY, L2.out.below B7.out, I4.out.below (bnext C6.out hb7)⟩; have z17 := (HAT.out w7 B7.out).wk; rw [HWK.out] at z17; have zl := (HAT.out w7 B7.out).lt; clear hY hb7))
    | (go_at_call 15; clear m1; go_must ((with_reducible refine (xfind5 _ _ _ _ T7.out.x).mono ?_); rintro e w8 ⟨rfl, hb⟩; have T8 := Lib.hid (T7.out.below hb); have B8 := Lib.hid (bnext B7.out hb); clear hb))
    | (go_at_call 15; go_must ((with_reducible refine (xfind6 _ _ _ _ T8.out.x).mono ?_); rintro e w9 ⟨rfl, hb⟩; have T9 := Lib.hid (T8.out.below hb); have B9 := Lib.hid (bnext B8.out hb); clear hb))
    | (go_at_call 17; clear m2; go_must ((with_reducible refine (xof _ _ _ _ T9.out.x).mono ?_); rintro e wa ⟨rfl, hb⟩; have Ta := Lib.hid (T9.out.below hb); have Ba := Lib.hid (bnext B9.out hb); clear hb))
    | (go_at_call 17; go_must ((with_reducible refine (yof _ _ _ _ Ta.out.y).mono ?_); rintro e wb ⟨rfl, hb⟩; have Tb := Lib.hid (Ta.out.below hb); have Bb := Lib.hid (bnext Ba.out hb); clear hb; obtain ⟨rb, ro, rfl, hrl, r0⟩ := Tb.out.r.cellAt (j := 0) (by decide); simp only [Nat.add_zero, List.getElem?_cons_zero, Option.getD_some] at r0))
    | (go_at_call 22; go_must ((with_reducible refine (yready _ _ _ _ _ _ Tb.out.y Tb.out.k).mono ?_); rintro e wc' ⟨yA, yc, rfl, -, hb⟩; have Tc := Lib.hid (Tb.out.below hb); have Bc := Lib.hid (bnext Bb.out hb); clear hb))
    | (go_at_call 19; go_must ((with_reducible refine (xfuel _ _ _ _ Tc.out.x).mono ?_); rintro e wd ⟨rfl, hb⟩; have Td := Lib.hid (Tc.out.below hb); have Bd := Lib.hid (bnext Bc.out hb); clear hb))
    | (go_at_call 24; go_must ((with_reducible refine (ywithout _ _ _ _ Td.out.y).mono ?_); rintro e we ⟨oA, oc, rfl, hb⟩; have Be := Lib.hid (bnext Bd.out hb); clear hb)))
  go_ret
  exact ⟨rfl, bnext B2.out Be.out⟩

end Go.Proofs.Ytldljohholgmoaa
