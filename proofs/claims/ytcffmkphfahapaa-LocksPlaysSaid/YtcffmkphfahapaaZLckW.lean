/-
  awake of layer 15's laws: true, in whatever memory. No conditions.
-/
import Derived.Test.YtcffmkphfahapaaZLckX
import Derived.Test.YtcffmkphfahapaaQAddr
namespace Go.Proofs.Ytcffmkphfahapaa
open Go.RowKit Go.Shelf
attribute [local go_sem] look findAt
attribute [local simp] depsOf isV Region.binds

def cmdA : Cmd := ⟨[0], [1], [], 1, [⟨17, 0, 0⟩]⟩
def cmdB : Cmd := ⟨[0, 1], [], [], 1, [⟨17, 0, 0⟩]⟩
def cmdN : Cmd := ⟨[], [], [], 1, [⟨17, 0, 0⟩]⟩
abbrev whoA : Who := [(1, cmdA)]
abbrev whoAB : Who := [(1, cmdA), (2, cmdB)]
abbrev whoB : Who := [(2, cmdB)]

theorem awA : readyL (lksW whoAB 2) cmdA 1 = true := by kernel_rfl
theorem awB : readyL (lksW whoAB 2) cmdB 2 = false := by kernel_rfl
theorem awB2 : readyL (lksW whoB 2) cmdB 2 = true := by kernel_rfl
theorem awA2 : readyL (lksW whoB 2) cmdA 1 = false := by kernel_rfl
theorem awN : readyL (lksW whoAB 2) cmdN 9 = true := by kernel_rfl

set_option maxRecDepth 100000 in
set_option maxHeartbeats 8000000 in
theorem awake15 (w : World) : Calls Try.prog 9 #[] w fun e w' => e = .returned (.bool true) ∧ Below w.heap.size w w' := by
  have hof := Lib.hid (fun ra nr rc wa nw wc W => of15_any ra nr rc wa nw wc W)
  have m1 : True := trivial
  go_enter Try.func9, Try.ntmps9
  go_wp2_with (first
    | (go_at_call 20; clear m1; go_must ((with_reducible refine (hof.out _ _ _ _ _ _ _).mono ?_); rintro e w1 ⟨rfl, hk1, hb1⟩; have K1 := Lib.hid hk1; have B1 := Lib.hid hb1; clear hk1 hb1))
    | (go_at_call 20; go_must ((with_reducible refine (hof.out _ _ _ _ _ _ _).mono ?_); rintro e w2 ⟨rfl, hk2, hb2⟩; have K2 := Lib.hid hk2; have B2 := Lib.hid hb2; clear hk2 hb2)))
  have e0 : (w.alloc (.cells #[.int .i64 0] 3)).heap.size = w.heap.size + 1 := World.size_alloc ..
  have q0 := (ints_new [0] w)
  have q1 := (ints_new [1] (w.alloc (.cells #[.int .i64 0] 3)))
  rw [e0] at q1
  have q0' := (q0.below (below_alloc1 _ (.cells #[.int .i64 1] 3))).below B1.out
  have q1' := q1.below B1.out
  have q2 := (ints_new [0, 1] w1).below B2.out
  have h01 : Below w.heap.size w w1 := bnext (below_alloc1 w (.cells #[.int .i64 0] 3)) (bnext (below_alloc1 _ (.cells #[.int .i64 1] 3)) B1.out)
  have h12 : Below w1.heap.size w1 w2 := bnext (below_alloc1 w1 (.cells #[.int .i64 0, .int .i64 1] 3)) B2.out
  have h23 : Below w2.heap.size w2 ((w2.alloc (.cells #[.slice (some ⟨w.heap.size, 0, none⟩) 1 1, .slice (some ⟨w.heap.size + 1, 0, none⟩) 1 1, .slice none 0 0, .int .i64 1, .slice (some ⟨w.heap.size + 1 + 1 + 1, 0, none⟩) 1 1] 32)).alloc (.cells #[.slice (some ⟨w1.heap.size, 0, none⟩) 2 2, .slice none 0 0, .slice none 0 0, .int .i64 1, .slice (some ⟨w1.heap.size + 1 + 1, 0, none⟩) 1 1] 32)) := bnext (below_alloc1 _ _) (below_alloc1 _ _)
  have ka := (Bk.new w2 32 #[.slice (some ⟨w.heap.size, 0, none⟩) 1 1, .slice (some ⟨w.heap.size + 1, 0, none⟩) 1 1, .slice none 0 0, .int .i64 1, .slice (some ⟨w.heap.size + 1 + 1 + 1, 0, none⟩) 1 1]).below (below_alloc1 _ (.cells #[.slice (some ⟨w1.heap.size, 0, none⟩) 2 2, .slice none 0 0, .slice none 0 0, .int .i64 1, .slice (some ⟨w1.heap.size + 1 + 1, 0, none⟩) 1 1] 32))
  have kb := Bk.new (w2.alloc (.cells #[.slice (some ⟨w.heap.size, 0, none⟩) 1 1, .slice (some ⟨w.heap.size + 1, 0, none⟩) 1 1, .slice none 0 0, .int .i64 1, .slice (some ⟨w.heap.size + 1 + 1 + 1, 0, none⟩) 1 1] 32)) 32 #[.slice (some ⟨w1.heap.size, 0, none⟩) 2 2, .slice none 0 0, .slice none 0 0, .int .i64 1, .slice (some ⟨w1.heap.size + 1 + 1, 0, none⟩) 1 1]
  rw [World.size_alloc] at kb
  obtain ⟨w3, hw3⟩ : ∃ W, W = ((w2.alloc (.cells #[.slice (some ⟨w.heap.size, 0, none⟩) 1 1, .slice (some ⟨w.heap.size + 1, 0, none⟩) 1 1, .slice none 0 0, .int .i64 1, .slice (some ⟨w.heap.size + 1 + 1 + 1, 0, none⟩) 1 1] 32)).alloc (.cells #[.slice (some ⟨w1.heap.size, 0, none⟩) 2 2, .slice none 0 0, .slice none 0 0, .int .i64 1, .slice (some ⟨w1.heap.size + 1 + 1, 0, none⟩) 1 1] 32)) := ⟨_, rfl⟩
  rw [← hw3] at h23 ka kb ⊢
  have CA : CmLk w3 cmdA (some ⟨w.heap.size, 0, none⟩) 1 1 (some ⟨w.heap.size + 1, 0, none⟩) 1 1 2 := ⟨rfl, rfl, (q0'.below h12).below h23, (q1'.below h12).below h23, by decide, by decide, by decide, by decide⟩
  have CB : CmLk w3 cmdB (some ⟨w1.heap.size, 0, none⟩) 2 2 none 0 0 2 := ⟨rfl, rfl, q2.below h23, Ints.nil _, by decide, by decide, by decide, by decide⟩
  have CN : ∀ X : World, CmLk X cmdN none 0 0 none 0 0 2 := fun X => ⟨rfl, rfl, Ints.nil _, Ints.nil _, by decide, by decide, by decide, by decide⟩
  have hQ : Hid (∀ X, Below w3.heap.size w3 X → X.cell? ⟨w2.heap.size, 0, none⟩ = some (.slice (some ⟨w.heap.size, 0, none⟩) 1 1) ∧ X.cell? ⟨w2.heap.size, 1, none⟩ = some (.slice (some ⟨w.heap.size + 1, 0, none⟩) 1 1) ∧ X.cell? ⟨w2.heap.size, 2, none⟩ = some (.slice none 0 0) ∧ X.cell? ⟨w2.heap.size, 3, none⟩ = some (.int .i64 1) ∧ X.cell? ⟨w2.heap.size, 4, none⟩ = some (.slice (some ⟨w.heap.size + 1 + 1 + 1, 0, none⟩) 1 1) ∧ w2.heap.size < X.heap.size) := Lib.hid (fun X hX => ⟨(ka.below hX).cell 0, (ka.below hX).cell 1, (ka.below hX).cell 2, (ka.below hX).cell 3, (ka.below hX).cell 4, (ka.below hX).lt⟩)
  have hR : Hid (∀ X, Below w3.heap.size w3 X → X.cell? ⟨w2.heap.size + 1, 0, none⟩ = some (.slice (some ⟨w1.heap.size, 0, none⟩) 2 2) ∧ X.cell? ⟨w2.heap.size + 1, 1, none⟩ = some (.slice none 0 0) ∧ X.cell? ⟨w2.heap.size + 1, 2, none⟩ = some (.slice none 0 0) ∧ X.cell? ⟨w2.heap.size + 1, 3, none⟩ = some (.int .i64 1) ∧ X.cell? ⟨w2.heap.size + 1, 4, none⟩ = some (.slice (some ⟨w1.heap.size + 1 + 1, 0, none⟩) 1 1) ∧ w2.heap.size + 1 < X.heap.size) := Lib.hid (fun X hX => ⟨(kb.below hX).cell 0, (kb.below hX).cell 1, (kb.below hX).cell 2, (kb.below hX).cell 3, (kb.below hX).cell 4, (kb.below hX).lt⟩)
  have hn : Hid (∀ X, Below w3.heap.size w3 X → Calls Try.prog 10 #[.int .i64 2] X fun e w' => ∃ v, e = .returned v ∧ Below X.heap.size X w' ∧ lksV 2 (lksW [] 2) v w') := Lib.hid (fun X _ => (new_who 2 X (by decide) (by decide)).mono fun _ _ h => h.sl.says)
  have ha : Hid (∀ (X : World) A k, Below w3.heap.size w3 X → LkSl X A 2 k (lksW [] 2) → Calls Try.prog 12 #[.slice A 2 k, cmV (some ⟨w.heap.size, 0, none⟩) 1 1 (some ⟨w.heap.size + 1, 0, none⟩) 1 1 none 0 0 1 (some ⟨w.heap.size + 1 + 1 + 1, 0, none⟩) 1 1, .int .i64 1] X fun e w' => ∃ v, e = .returned v ∧ Below X.heap.size X w' ∧ lksV 2 (lksW whoA 2) v w') := Lib.hid (fun X A k hX hl => (ask_who cmdA (some ⟨w.heap.size, 0, none⟩) 1 1 (some ⟨w.heap.size + 1, 0, none⟩) 1 1 none 0 0 1 (some ⟨w.heap.size + 1 + 1 + 1, 0, none⟩) 1 1 [] A 2 k 1 X hl (by decide) (by decide) (by decide) (CA.below hX)).mono fun _ _ h => h.sl.says)
  have hb : Hid (∀ (X : World) A k, Below w3.heap.size w3 X → LkSl X A 2 k (lksW whoA 2) → Calls Try.prog 12 #[.slice A 2 k, cmV (some ⟨w1.heap.size, 0, none⟩) 2 2 none 0 0 none 0 0 1 (some ⟨w1.heap.size + 1 + 1, 0, none⟩) 1 1, .int .i64 2] X fun e w' => ∃ v, e = .returned v ∧ Below X.heap.size X w' ∧ lksV 2 (lksW whoAB 2) v w') := Lib.hid (fun X A k hX hl => (ask_who cmdB (some ⟨w1.heap.size, 0, none⟩) 2 2 none 0 0 none 0 0 1 (some ⟨w1.heap.size + 1 + 1, 0, none⟩) 1 1 whoA A 2 k 2 X hl (by decide) (by decide) (by decide) (CB.below hX)).mono fun _ _ h => h.sl.says)
  have hg : Hid (∀ (X : World) A k, Below w3.heap.size w3 X → LkSl X A 2 k (lksW whoAB 2) → Calls Try.prog 17 #[.slice A 2 k, cmV (some ⟨w.heap.size, 0, none⟩) 1 1 (some ⟨w.heap.size + 1, 0, none⟩) 1 1 none 0 0 1 (some ⟨w.heap.size + 1 + 1 + 1, 0, none⟩) 1 1, .int .i64 1] X (LkPost (lksW whoB 2) 2 X)) := Lib.hid (fun X A k hX hl => give_who cmdA (some ⟨w.heap.size, 0, none⟩) 1 1 (some ⟨w.heap.size + 1, 0, none⟩) 1 1 none 0 0 1 (some ⟨w.heap.size + 1 + 1 + 1, 0, none⟩) 1 1 whoAB A 2 k 1 X hl (by decide) (by decide) (by decide) (fun x hx e => by
    simp only [List.mem_cons, List.not_mem_nil, or_false] at hx
    rcases hx with rfl | rfl
    · rfl
    · exact absurd e (by decide)) (CA.below hX))
  have r1 : Hid (∀ (X : World) A k, Below w3.heap.size w3 X → LkSl X A 2 k (lksW whoAB 2) → Calls Try.prog 15 #[.slice A 2 k, cmV (some ⟨w.heap.size, 0, none⟩) 1 1 (some ⟨w.heap.size + 1, 0, none⟩) 1 1 none 0 0 1 (some ⟨w.heap.size + 1 + 1 + 1, 0, none⟩) 1 1, .int .i64 1] X fun e w' => e = .returned (.bool true) ∧ Below X.heap.size X w') := Lib.hid (fun X A k hX hl => by rw [← awA]; exact ready_who cmdA (some ⟨w.heap.size, 0, none⟩) 1 1 (some ⟨w.heap.size + 1, 0, none⟩) 1 1 none 0 0 1 (some ⟨w.heap.size + 1 + 1 + 1, 0, none⟩) 1 1 whoAB A 2 k 1 X hl (by decide) (CA.below hX))
  have r2 : Hid (∀ (X : World) A k, Below w3.heap.size w3 X → LkSl X A 2 k (lksW whoAB 2) → Calls Try.prog 15 #[.slice A 2 k, cmV (some ⟨w1.heap.size, 0, none⟩) 2 2 none 0 0 none 0 0 1 (some ⟨w1.heap.size + 1 + 1, 0, none⟩) 1 1, .int .i64 2] X fun e w' => e = .returned (.bool false) ∧ Below X.heap.size X w') := Lib.hid (fun X A k hX hl => by rw [← awB]; exact ready_who cmdB (some ⟨w1.heap.size, 0, none⟩) 2 2 none 0 0 none 0 0 1 (some ⟨w1.heap.size + 1 + 1, 0, none⟩) 1 1 whoAB A 2 k 2 X hl (by decide) (CB.below hX))
  have r3 : Hid (∀ (X : World) A k, Below w3.heap.size w3 X → LkSl X A 2 k (lksW whoB 2) → Calls Try.prog 15 #[.slice A 2 k, cmV (some ⟨w1.heap.size, 0, none⟩) 2 2 none 0 0 none 0 0 1 (some ⟨w1.heap.size + 1 + 1, 0, none⟩) 1 1, .int .i64 2] X fun e w' => e = .returned (.bool true) ∧ Below X.heap.size X w') := Lib.hid (fun X A k hX hl => by rw [← awB2]; exact ready_who cmdB (some ⟨w1.heap.size, 0, none⟩) 2 2 none 0 0 none 0 0 1 (some ⟨w1.heap.size + 1 + 1, 0, none⟩) 1 1 whoB A 2 k 2 X hl (by decide) (CB.below hX))
  have r4 : Hid (∀ (X : World) A k, Below w3.heap.size w3 X → LkSl X A 2 k (lksW whoB 2) → Calls Try.prog 15 #[.slice A 2 k, cmV (some ⟨w.heap.size, 0, none⟩) 1 1 (some ⟨w.heap.size + 1, 0, none⟩) 1 1 none 0 0 1 (some ⟨w.heap.size + 1 + 1 + 1, 0, none⟩) 1 1, .int .i64 1] X fun e w' => e = .returned (.bool false) ∧ Below X.heap.size X w') := Lib.hid (fun X A k hX hl => by rw [← awA2]; exact ready_who cmdA (some ⟨w.heap.size, 0, none⟩) 1 1 (some ⟨w.heap.size + 1, 0, none⟩) 1 1 none 0 0 1 (some ⟨w.heap.size + 1 + 1 + 1, 0, none⟩) 1 1 whoB A 2 k 1 X hl (by decide) (CA.below hX))
  have r5 : Hid (∀ (X : World) A k g, LkSl X A 2 k (lksW whoAB 2) → Calls Try.prog 15 #[.slice A 2 k, cmV none 0 0 none 0 0 none 0 0 1 (some ⟨g, 0, none⟩) 1 1, .int .i64 9] X fun e w' => e = .returned (.bool true) ∧ Below X.heap.size X w') := Lib.hid (fun X A k g hl => by rw [← awN]; exact ready_who cmdN none 0 0 none 0 0 none 0 0 1 (some ⟨g, 0, none⟩) 1 1 whoAB A 2 k 9 X hl (by decide) (CN X))
  have hless := Lib.hid (fun X => lnew_less X)
  have BB := Lib.hid (bnext h01 (bnext h12 h23))
  clear K1 B1 K2 B2 e0 q0 q1 q0' q1' q2 h01 h12 h23 ka kb hw3 CA CB CN
  try simp only [List.append_eq, List.cons_append, List.nil_append]
  refine wp_region_saysK 5 (fun x y => Below x.heap.size x y) (fun _ _ _ h k => bnext h k) w3 (below_drew1 w3) (by kernel_rfl) (by kernel_rfl) (by kernel_rfl) (by kernel_rfl) (by rfl) ?_
  simp only [List.take_succ_cons, List.take_zero, List.drop_succ_cons, List.drop_zero]
  refine walkK_call (lksV 2 (lksW [] 2)) 10 ?_ (by first | exact gs0 rfl | exact gs1 rfl rfl rfl) (fun v x y hb h => lksV_keep v x y hb h) (fun u X hX hd => ?_) (fun X hX => ?_) ?_
  rotate_left
  · obtain ⟨a0, a1, a2, a3, a4, a5⟩ := hQ.out X hX
    obtain ⟨b0, b1, b2, b3, b4, b5⟩ := hR.out X hX
    try simp at hd
    go_simp
    try rfl
  · exact hn.out X hX
  apply walkK_norm
  · first | (simp only [List.nil_append]; rfl) | simp only [List.nil_append]
  refine walkK_is (cmV (some ⟨w.heap.size, 0, none⟩) 1 1 (some ⟨w.heap.size + 1, 0, none⟩) 1 1 none 0 0 1 (some ⟨w.heap.size + 1 + 1 + 1, 0, none⟩) 1 1) (by first | exact gs0 rfl | exact gs1 rfl rfl rfl) (fun _ => Below.refl _ _) (fun u X hX hd => ?_) ?_
  · obtain ⟨a0, a1, a2, a3, a4, a5⟩ := hQ.out X hX
    obtain ⟨b0, b1, b2, b3, b4, b5⟩ := hR.out X hX
    try simp at hd
    go_simp
    try rfl
  apply walkK_norm
  · first | (simp only [List.nil_append, List.cons_append]; rfl) | simp only [List.nil_append, List.cons_append]
  refine walkK_callU (lksV 2 (lksW whoA 2)) 12 (by first | exact gs0 rfl | exact gs1 rfl rfl rfl) (fun v x y hb h => lksV_keep v x y hb h) (fun u X hX hd => ?_) ?_
  · simp at hd
    obtain ⟨⟨A', k', hv, hs⟩, h1⟩ := hd
    refine ⟨#[.slice A' 2 k', cmV (some ⟨w.heap.size, 0, none⟩) 1 1 (some ⟨w.heap.size + 1, 0, none⟩) 1 1 none 0 0 1 (some ⟨w.heap.size + 1 + 1 + 1, 0, none⟩) 1 1, .int .i64 1], ?_, ha.out X A' k' hX hs⟩
    go_simp
  apply walkK_norm
  · first | (simp only [List.nil_append, List.cons_append]; rfl) | simp only [List.nil_append, List.cons_append]
  refine walkK_is (cmV (some ⟨w1.heap.size, 0, none⟩) 2 2 none 0 0 none 0 0 1 (some ⟨w1.heap.size + 1 + 1, 0, none⟩) 1 1) (by first | exact gs0 rfl | exact gs1 rfl rfl rfl) (fun _ => Below.refl _ _) (fun u X hX hd => ?_) ?_
  · obtain ⟨a0, a1, a2, a3, a4, a5⟩ := hQ.out X hX
    obtain ⟨b0, b1, b2, b3, b4, b5⟩ := hR.out X hX
    try simp at hd
    go_simp
    try rfl
  apply walkK_norm
  · first | (simp only [List.nil_append, List.cons_append]; rfl) | simp only [List.nil_append, List.cons_append]
  refine walkK_callU (lksV 2 (lksW whoAB 2)) 12 (by first | exact gs0 rfl | exact gs1 rfl rfl rfl) (fun v x y hb h => lksV_keep v x y hb h) (fun u X hX hd => ?_) ?_
  · simp at hd
    obtain ⟨⟨A', k', hv, hs⟩, h1⟩ := hd
    refine ⟨#[.slice A' 2 k', cmV (some ⟨w1.heap.size, 0, none⟩) 2 2 none 0 0 none 0 0 1 (some ⟨w1.heap.size + 1 + 1, 0, none⟩) 1 1, .int .i64 2], ?_, hb.out X A' k' hX hs⟩
    go_simp
  apply walkK_norm
  · first | (simp only [List.nil_append, List.cons_append]; rfl) | simp only [List.nil_append, List.cons_append]
  intro u X hX hsay
  simp only [sayAll, isV] at hsay
  obtain ⟨-, -, -, -, v4, -⟩ := hsay
  obtain ⟨A4, k4, v4, hS⟩ := v4
  simp only [putAll, Act.put, v4, List.setIfInBounds_toArray, List.set_cons_succ, List.set_cons_zero, Nat.zero_add, Nat.reduceAdd]
  have SX := Lib.hid hS
  have BX := Lib.hid hX
  obtain ⟨a0, a1, a2, a3, a4, a5⟩ := hQ.out X hX
  obtain ⟨b0, b1, b2, b3, b4, b5⟩ := hR.out X hX
  clear hS v4 hX ha hb hn
  have m1 : True := trivial
  have m2 : True := trivial
  have m3 : True := trivial
  have m4 : True := trivial
  go_wp2_with (first
    | (go_at_call 17; go_must ((with_reducible refine (hg.out _ _ _ BX.out SX.out).mono ?_); rintro e w5 ⟨A5, k5, rfl, hO, hb5⟩; have S5 := Lib.hid hO.sl; have T5 := Lib.hid (SX.out.below hb5); have B5 := Lib.hid (bnext BX.out hb5); clear hO hb5 a0 a1 a2 a3 a4 a5 b0 b1 b2 b3 b4 b5; obtain ⟨a0, a1, a2, a3, a4, a5⟩ := hQ.out _ B5.out; obtain ⟨b0, b1, b2, b3, b4, b5⟩ := hR.out _ B5.out))
    | (go_at_call 15; clear m1; go_must ((with_reducible refine (r1.out _ _ _ B5.out T5.out).mono ?_); rintro e w6 ⟨rfl, hb6⟩; have S6 := Lib.hid (S5.out.below hb6); have T6 := Lib.hid (T5.out.below hb6); have B6 := Lib.hid (bnext B5.out hb6); clear hb6 a0 a1 a2 a3 a4 a5 b0 b1 b2 b3 b4 b5; obtain ⟨a0, a1, a2, a3, a4, a5⟩ := hQ.out _ B6.out; obtain ⟨b0, b1, b2, b3, b4, b5⟩ := hR.out _ B6.out))
    | (go_at_call 15; clear m2; go_must ((with_reducible refine (r2.out _ _ _ B6.out T6.out).mono ?_); rintro e w7 ⟨rfl, hb7⟩; have S7 := Lib.hid (S6.out.below hb7); have T7 := Lib.hid (T6.out.below hb7); have B7 := Lib.hid (bnext B6.out hb7); clear hb7 a0 a1 a2 a3 a4 a5 b0 b1 b2 b3 b4 b5; obtain ⟨a0, a1, a2, a3, a4, a5⟩ := hQ.out _ B7.out; obtain ⟨b0, b1, b2, b3, b4, b5⟩ := hR.out _ B7.out))
    | (go_at_call 15; clear m3; go_must ((with_reducible refine (r3.out _ _ _ B7.out S7.out).mono ?_); rintro e w8 ⟨rfl, hb8⟩; have S8 := Lib.hid (S7.out.below hb8); have T8 := Lib.hid (T7.out.below hb8); have B8 := Lib.hid (bnext B7.out hb8); clear hb8 a0 a1 a2 a3 a4 a5 b0 b1 b2 b3 b4 b5; obtain ⟨a0, a1, a2, a3, a4, a5⟩ := hQ.out _ B8.out; obtain ⟨b0, b1, b2, b3, b4, b5⟩ := hR.out _ B8.out))
    | (go_at_call 15; clear m4; go_must ((with_reducible refine (r4.out _ _ _ B8.out S8.out).mono ?_); rintro e w9 ⟨rfl, hb9⟩; have T9 := Lib.hid (T8.out.below hb9); have B9 := Lib.hid (bnext B8.out hb9); clear hb9 a0 a1 a2 a3 a4 a5 b0 b1 b2 b3 b4 b5))
    | (go_at_call 10; go_must ((with_reducible refine (hless.out _).mono ?_); rintro e wa ⟨rfl, rfl⟩))
    | (go_at_call 20; go_must ((with_reducible refine (hof.out _ _ _ _ _ _ _).mono ?_); rintro e wb ⟨rfl, -, hbb⟩; have Tb := Lib.hid (T9.out.below hbb); have Bb := Lib.hid (bnext B9.out hbb); clear hbb))
    | (go_at_call 15; go_must ((with_reducible refine (r5.out _ _ _ _ Tb.out).mono ?_); rintro e wc ⟨rfl, hbc⟩; have Bc := Lib.hid (bnext Bb.out hbc); clear hbc)))
  go_ret
  exact ⟨rfl, bnext BB.out Bc.out⟩

end Go.Proofs.Ytcffmkphfahapaa
