/-
  What pool.ownCommand, ownTask, copied and has answer, in whatever memory: the same with lists of one's own. No conditions but those that stand there.
-/
import Derived.Test.YtldljohholgmoaaZTskC
import Derived.Test.YtldljohholgmoaaZOwnV
import Derived.Test.YtldljohholgmoaaZMchB
import Derived.Test.YtldljohholgmoaaZPooW
namespace Go.Proofs.Ytldljohholgmoaa
open Go Go.RowKit
attribute [local go_sem] look findAt
attribute [local simp] depsOf isV Region.binds

theorem Sl.up {B : Nat} {w w' : World} {size n c : Nat} {A : Option Addr} {xs : List Value} (h : Sl w size A n c xs) (ho : overA B A n) (hk : KeptUp B w w') : Sl w' size A n c xs := by
  refine ⟨h.1, h.2.1, h.2.2.1, fun hn => ?_⟩
  obtain ⟨b, off, e, hb, hc⟩ := h.2.2.2 hn
  refine ⟨b, off, e, by have := hk.1; omega, fun j hj => ?_⟩
  rw [← hc j hj]
  unfold World.cell?
  simp only
  rw [hk.2 b (ho hn b off e) hb]
theorem CmRaw.mk' {w : World} {c : Cmd} {ra : Option Addr} {nr rc : Nat} {wa : Option Addr} {nw wc : Nat} {aa : Option Addr} {na ac : Nat} {ca : Option Addr} {nc cc : Nat} (l1 : c.reads.length = nr) (l2 : c.writes.length = nw) (l3 : c.args.length = na) (l4 : c.code.length = nc)
    (h1 : Sl w 1 ra nr rc (c.reads.map (.int .i64))) (h2 : Sl w 1 wa nw wc (c.writes.map (.int .i64))) (h3 : Sl w 1 aa na ac (c.args.map (.int .i64))) (h4 : Sl w 3 ca nc cc (inssW c.code)) : CmRaw w c ra nr rc wa nw wc aa na ac ca nc cc := by
  refine ⟨l1, l2, l3, l4, ?_, ?_, ?_, ?_⟩
  · unfold Ints; rw [l1]; exact h1
  · unfold Ints; rw [l2]; exact h2
  · unfold Ints; rw [l3]; exact h3
  · unfold Inss; rw [l4]; exact h4
theorem CmRaw.sls {w : World} {c : Cmd} {ra : Option Addr} {nr rc : Nat} {wa : Option Addr} {nw wc : Nat} {aa : Option Addr} {na ac : Nat} {ca : Option Addr} {nc cc : Nat} (h : CmRaw w c ra nr rc wa nw wc aa na ac ca nc cc) :
    Sl w 1 ra nr rc (c.reads.map (.int .i64)) ∧ Sl w 1 wa nw wc (c.writes.map (.int .i64)) ∧ Sl w 1 aa na ac (c.args.map (.int .i64)) ∧ Sl w 3 ca nc cc (inssW c.code) := by
  have h1 := h.reads
  have h2 := h.writes
  have h3 := h.args
  have h4 := h.code
  unfold Ints at h1 h2 h3
  unfold Inss at h4
  rw [h.lr] at h1
  rw [h.lw] at h2
  rw [h.la] at h3
  rw [h.lc] at h4
  exact ⟨h1, h2, h3, h4⟩
theorem CmL.In.up {B : Nat} {x : CmL} {w w' : World} (h : x.In w) (ho : x.Over B) (hk : KeptUp B w w') : x.In w' := by
  obtain ⟨h1, h2, h3, h4⟩ := CmRaw.sls h
  exact CmRaw.mk' h.lr h.lw h.la h.lc (h1.up ho.r hk) (h2.up ho.w hk) (h3.up ho.a hk) (h4.up ho.c hk)
theorem TkL.In.up {B : Nat} {t : TkL} {w w' : World} (h : t.In w) (ho : t.Over B) (hk : KeptUp B w w') : t.In w' :=
  ⟨h.cmd.up ho.x hk, ⟨h.mac.st.up ho.s hk, h.mac.ou.up ho.o hk, h.mac.bk.up ho.b hk⟩, h.four, h.own, h.eight⟩

theorem infoCm5 : (Try.prog.info? 33).map (·.size) = some 5 := by kernel_rfl
abbrev cmZ : Array Value := #[.slice none 0 0, .slice none 0 0, .slice none 0 0, .int .i64 0, .slice none 0 0]
theorem int_one {w : World} {A : Option Addr} {n c : Nat} {l : List Int} (_ : Sl w 1 A n c (l.map (.int .i64))) : ∀ u ∈ l.map (Value.int .i64), u.oneCell' = true := fun u hu => by
  obtain ⟨x, _, rfl⟩ := List.mem_map.1 hu
  rfl
theorem ins_one (l : List Ins) : ∀ u ∈ inssW l, u.oneCell' = true := fun u hu => by
  obtain ⟨x, _, hx⟩ := List.mem_flatMap.1 hu
  simp only [insW, List.mem_cons, List.not_mem_nil, or_false] at hx
  rcases hx with rfl | rfl | rfl <;> rfl
theorem clone_intsV {B : Nat} {A : Option Addr} {n c : Nat} {l : List Int} {X : World} (h : Sl X 1 A n c (l.map (.int .i64))) (hn : n ≤ 1000) (hB : B ≤ X.heap.size) :
    Calls Try.prog 52 #[.slice A n c] X fun e X' => ∃ v, e = .returned v ∧ Below X.heap.size X X' ∧ ownV B 3 1 n (l.map (.int .i64)) v X' :=
  (clone_ints A n c _ X h hn (int_one h)).mono fun _ _ ⟨A', c', he, ho, hb⟩ => ⟨_, he, hb, A', c', rfl, own_lower ho hB⟩
theorem clone_inssV {B : Nat} {A : Option Addr} {n c : Nat} {l : List Ins} {X : World} (h : Sl X 3 A n c (inssW l)) (hn : n ≤ 1000) (hB : B ≤ X.heap.size) :
    Calls Try.prog 61 #[.slice A n c] X fun e X' => ∃ v, e = .returned v ∧ Below X.heap.size X X' ∧ ownV B 57 3 n (inssW l) v X' :=
  (clone_inss A n c _ X h hn (ins_one l)).mono fun _ _ ⟨A', c', he, ho, hb⟩ => ⟨_, he, hb, A', c', rfl, own_lower ho hB⟩

section
variable {ops : Array Oper} {rest : List Oper} {o : Oper} {a : Act} {w : World} {Q : Exit → Act → World → Prop}
/-- a command is stored whole into a box. -/
theorem st_cmd (g : Nat) {cs : Array Value} (hk : Bk w g 33 cs) (hs : cs.size = 5) (A1 : Option Addr) (n1 c1 : Nat) (A2 : Option Addr) (n2 c2 : Nat) (A3 : Option Addr) (n3 c3 : Nat) (f : Int) (A4 : Option Addr) (n4 c4 : Nat) (x y : Operand) (hgd : o.guard = none) (ho : o.op = .store 33 x y) (hx : a.eval x = .pointer (some ⟨g, 0, none⟩)) (hy : a.eval y = .agg #[.slice A1 n1 c1, .slice A2 n2 c2, .slice A3 n3 c3, .int .i64 f, .slice A4 n4 c4])
    (h : wpList Try.prog ops Q rest (a.put o.dst undef) (w.setRow g #[.slice A1 n1 c1, .slice A2 n2 c2, .slice A3 n3 c3, .int .i64 f, .slice A4 n4 c4])) : wpList Try.prog ops Q (o :: rest) a w :=
  wpList_store_row hgd _ x y ho g _ hx hy _ _ hk infoCm5 hs (by simp [Value.oneCell']) h
theorem st_tsk (g : Nat) {cs : Array Value} (hk : Bk w g 41 cs) (hs : cs.size = 18) (t : TkL) (x y : Operand) (hgd : o.guard = none) (ho : o.op = .store 41 x y) (hx : a.eval x = .pointer (some ⟨g, 0, none⟩)) (hy : a.eval y = .agg (tkA t))
    (h : wpList Try.prog ops Q rest (a.put o.dst undef) (w.setRow g (tkA t))) : wpList Try.prog ops Q (o :: rest) a w :=
  wpList_store_row hgd _ x y ho g _ hx hy _ _ hk infoTk hs (tkA_all t) h
end

set_option maxHeartbeats 8000000 in
theorem owncmd_any (x : CmL) (w : World) (h : x.In w) (hf : x.nr ≤ 1000 ∧ x.nw ≤ 1000 ∧ x.na ≤ 1000 ∧ x.nc ≤ 1000) :
    Calls Try.prog 51 #[.agg (cmlC x).toArray] w fun e w' => ∃ y : CmL, e = .returned (.agg (cmlC y).toArray) ∧ y.c = x.c ∧ y.In w' ∧ y.Over w.heap.size ∧ Below w.heap.size w w' := by
  obtain ⟨xc, ra, nr, rc, wa, nw, wc, aa, na, ac, ca, nc, cc⟩ := x
  have h : CmRaw w xc ra nr rc wa nw wc aa na ac ca nc cc := h
  simp only at hf
  obtain ⟨f1, f2, f3, f4⟩ := hf
  show Calls Try.prog 51 #[cmV ra nr rc wa nw wc aa na ac xc.fuel ca nc cc] w _
  have BA := below_alloc1 w (CmObj ra nr rc wa nw wc aa na ac xc.fuel ca nc cc)
  have BB := below_alloc1 (w.alloc (CmObj ra nr rc wa nw wc aa na ac xc.fuel ca nc cc)) (.cells cmZ 33)
  have b0 := bnext BA BB
  have k0 := (Bk.new w 33 #[.slice ra nr rc, .slice wa nw wc, .slice aa na ac, .int .i64 xc.fuel, .slice ca nc cc]).below BB
  have z0 := Bk.new (w.alloc (CmObj ra nr rc wa nw wc aa na ac xc.fuel ca nc cc)) 33 cmZ
  rw [World.size_alloc] at z0
  obtain ⟨W0, hW0⟩ : ∃ W0, W0 = (w.alloc (CmObj ra nr rc wa nw wc aa na ac xc.fuel ca nc cc)).alloc (.cells cmZ 33) := ⟨_, rfl⟩
  rw [← hW0] at b0 k0 z0
  have hw0 : W0.heap.size = w.heap.size + 2 := by rw [hW0, World.size_alloc, World.size_alloc]
  have HW := Lib.hid hW0
  have B0 := Lib.hid b0
  have K0 := Lib.hid k0
  have Z0 := Lib.hid z0
  have LN := Lib.hid (And.intro h.lr (And.intro h.lw (And.intro h.la h.lc)))
  obtain ⟨s1, s2, s3, s4⟩ := CmRaw.sls h
  have c1 : Hid (∀ X, Below W0.heap.size W0 X → Calls Try.prog 52 #[.slice ra nr rc] X fun e X' => ∃ v, e = .returned v ∧ Below X.heap.size X X' ∧ ownV (w.heap.size + 2) 3 1 nr (xc.reads.map (.int .i64)) v X') := Lib.hid (fun X hX => clone_intsV ((s1.below b0).below hX) f1 (by have := hX.size; omega))
  have c2 : Hid (∀ X, Below W0.heap.size W0 X → Calls Try.prog 52 #[.slice wa nw wc] X fun e X' => ∃ v, e = .returned v ∧ Below X.heap.size X X' ∧ ownV (w.heap.size + 2) 3 1 nw (xc.writes.map (.int .i64)) v X') := Lib.hid (fun X hX => clone_intsV ((s2.below b0).below hX) f2 (by have := hX.size; omega))
  have c3 : Hid (∀ X, Below w.heap.size w X → w.heap.size + 2 ≤ X.heap.size → Calls Try.prog 52 #[.slice aa na ac] X fun e X' => ∃ v, e = .returned v ∧ Below X.heap.size X X' ∧ ownV (w.heap.size + 2) 3 1 na (xc.args.map (.int .i64)) v X') := Lib.hid (fun X hX hB => clone_intsV (s3.below hX) f3 hB)
  have c4 : Hid (∀ X, Below w.heap.size w X → w.heap.size + 2 ≤ X.heap.size → Calls Try.prog 61 #[.slice ca nc cc] X fun e X' => ∃ v, e = .returned v ∧ Below X.heap.size X X' ∧ ownV (w.heap.size + 2) 57 3 nc (inssW xc.code) v X') := Lib.hid (fun X hX hB => clone_inssV (s4.below hX) f4 hB)
  have CC : Hid (∀ X, Below W0.heap.size W0 X → X.cell? ⟨w.heap.size, 0, none⟩ = some (.slice ra nr rc) ∧ X.cell? ⟨w.heap.size, 1, none⟩ = some (.slice wa nw wc) ∧ w.heap.size < X.heap.size) := Lib.hid (fun X hX => by
    have hk := k0.below hX
    exact ⟨hk.cell 0, hk.cell 1, hk.lt⟩)
  clear h s1 s2 s3 s4 BA BB b0 k0 z0 hW0
  go_enter Try.func51, Try.ntmps51
  go_wp2
  rw [← HW.out]
  try simp only [List.append_eq, List.cons_append, List.nil_append]
  refine wp_region_saysK 7 (fun x y => Below x.heap.size x y) (fun _ _ _ h k => bnext h k) W0 (below_drew1 W0) (by kernel_rfl) (by kernel_rfl) (by kernel_rfl) (by kernel_rfl) (by rfl) ?_
  simp only [List.take_succ_cons, List.take_zero, List.drop_succ_cons, List.drop_zero]
  refine walkK_is ?_ (by first | exact gs0 rfl | exact gs1 rfl rfl rfl) (fun _ => Below.refl _ _) (fun u X hX hd => ?_) ?_
  rotate_left
  · obtain ⟨q0, q1, ql⟩ := CC.out X hX
    try simp at hd
    go_simp
    try rfl
  apply walkK_norm
  · first | (simp only [List.nil_append]; rfl) | simp only [List.nil_append]
  refine walkK_is ?_ (by first | exact gs0 rfl | exact gs1 rfl rfl rfl) (fun _ => Below.refl _ _) (fun u X hX hd => ?_) ?_
  rotate_left
  · obtain ⟨q0, q1, ql⟩ := CC.out X hX
    try simp at hd
    go_simp
    try rfl
  apply walkK_norm
  · first | (simp only [List.nil_append, List.cons_append]; rfl) | simp only [List.nil_append, List.cons_append]
  refine walkK_call (ownV (w.heap.size + 2) 3 1 nr (xc.reads.map (.int .i64))) 52 ?_ (by first | exact gs0 rfl | exact gs1 rfl rfl rfl) (fun v x y hb h => ownV_keep v x y hb h) (fun u X hX hd => ?_) (fun X hX => ?_) ?_
  rotate_left
  · obtain ⟨q0, q1, ql⟩ := CC.out X hX
    try simp at hd
    go_simp
    try rfl
  · exact c1.out X hX
  apply walkK_norm
  · first | (simp only [List.nil_append, List.cons_append]; rfl) | simp only [List.nil_append, List.cons_append]
  refine walkK_is ?_ (by first | exact gs0 rfl | exact gs1 rfl rfl rfl) (fun _ => Below.refl _ _) (fun u X hX hd => ?_) ?_
  rotate_left
  · obtain ⟨q0, q1, ql⟩ := CC.out X hX
    try simp at hd
    go_simp
    try rfl
  apply walkK_norm
  · first | (simp only [List.nil_append, List.cons_append]; rfl) | simp only [List.nil_append, List.cons_append]
  refine walkK_is ?_ (by first | exact gs0 rfl | exact gs1 rfl rfl rfl) (fun _ => Below.refl _ _) (fun u X hX hd => ?_) ?_
  rotate_left
  · obtain ⟨q0, q1, ql⟩ := CC.out X hX
    try simp at hd
    go_simp
    try rfl
  apply walkK_norm
  · first | (simp only [List.nil_append, List.cons_append]; rfl) | simp only [List.nil_append, List.cons_append]
  refine walkK_call (ownV (w.heap.size + 2) 3 1 nw (xc.writes.map (.int .i64))) 52 ?_ (by first | exact gs0 rfl | exact gs1 rfl rfl rfl) (fun v x y hb h => ownV_keep v x y hb h) (fun u X hX hd => ?_) (fun X hX => ?_) ?_
  rotate_left
  · obtain ⟨q0, q1, ql⟩ := CC.out X hX
    try simp at hd
    go_simp
    try rfl
  · exact c2.out X hX
  apply walkK_norm
  · first | (simp only [List.nil_append, List.cons_append]; rfl) | simp only [List.nil_append, List.cons_append]
  refine walkK_is ?_ (by first | exact gs0 rfl | exact gs1 rfl rfl rfl) (fun _ => Below.refl _ _) (fun u X hX hd => ?_) ?_
  rotate_left
  · obtain ⟨q0, q1, ql⟩ := CC.out X hX
    try simp at hd
    go_simp
    try rfl
  apply walkK_norm
  · first | (simp only [List.nil_append, List.cons_append]; rfl) | simp only [List.nil_append, List.cons_append]
  intro u X hX hsay
  simp only [sayAll, isV] at hsay
  obtain ⟨-, -, v2, -, -, v5, v6, -⟩ := hsay
  obtain ⟨A1, k1, v2, o1⟩ := v2
  obtain ⟨A2, k2, v5, o2⟩ := v5
  simp only [putAll, Act.put, v2, v5, v6, List.setIfInBounds_toArray, List.set_cons_succ, List.set_cons_zero, Nat.zero_add, Nat.reduceAdd]
  have kx := K0.out.below hX
  obtain ⟨p0, p1, p2, p3, p4, pf⟩ := kx.cmd
  have pl := kx.lt
  have KX := Lib.hid kx
  have ZX := Lib.hid (Z0.out.below hX)
  have BX := Lib.hid (bnext B0.out hX)
  have hx2 : w.heap.size + 2 ≤ X.heap.size := by have := hX.size; omega
  have O1 := Lib.hid o1
  have O2 := Lib.hid o2
  clear v2 v5 v6 o1 o2 kx hX
  go_wp2
  obtain ⟨W1, hW1⟩ : ∃ W1, W1 = (X.setCell ⟨w.heap.size, 0, none⟩ (.slice A1 nr k1)).setCell ⟨w.heap.size, 1, none⟩ (.slice A2 nw k2) := ⟨_, rfl⟩
  rw [← hW1]
  have k1' := (KX.out.set 0 (.slice A1 nr k1)).set 1 (.slice A2 nw k2)
  rw [← hW1] at k1'
  simp only [List.setIfInBounds_toArray, List.set_cons_zero, List.set_cons_succ] at k1'
  have KW := Lib.hid k1'
  have ZW : Hid (Bk W1 (w.heap.size + 1) 33 cmZ) := Lib.hid (by rw [hW1]; exact (ZX.out.far (p := ⟨w.heap.size, 0, none⟩) (by show w.heap.size + 1 ≠ w.heap.size; omega) _).far (p := ⟨w.heap.size, 1, none⟩) (by show w.heap.size + 1 ≠ w.heap.size; omega) _)
  have BW : Hid (Below w.heap.size w W1) := Lib.hid (by rw [hW1]; exact (BX.out.setCell (p := ⟨w.heap.size, 0, none⟩) (Nat.le_refl _) _).setCell (p := ⟨w.heap.size, 1, none⟩) (Nat.le_refl _) _)
  have hs1 : W1.heap.size = X.heap.size := by rw [hW1]; simp [World.setCell]
  have UW : Hid (KeptUp (w.heap.size + 2) X W1) := Lib.hid (by rw [hW1]; exact ((KeptUp.refl _ X).setCell (by omega) 0 _).setCell (by omega) 1 _)
  have OA := Lib.hid (own_up UW.out O1.out (Nat.le_refl _))
  have OB := Lib.hid (own_up UW.out O2.out (Nat.le_refl _))
  have CD : Hid (∀ Y, Below W1.heap.size W1 Y → Y.cell? ⟨w.heap.size, 2, none⟩ = some (.slice aa na ac) ∧ Y.cell? ⟨w.heap.size, 4, none⟩ = some (.slice ca nc cc) ∧ w.heap.size < Y.heap.size) := Lib.hid (fun Y hY => by
    have hk := k1'.below hY
    exact ⟨hk.cell 2, hk.cell 4, hk.lt⟩)
  have d3 : Hid (∀ Y, Below W1.heap.size W1 Y → Calls Try.prog 52 #[.slice aa na ac] Y fun e X' => ∃ v, e = .returned v ∧ Below Y.heap.size Y X' ∧ ownV (w.heap.size + 2) 3 1 na (xc.args.map (.int .i64)) v X') := Lib.hid (fun Y hY => c3.out Y (bnext BW.out (hY)) (by have := hY.size; omega))
  have d4 : Hid (∀ Y, Below W1.heap.size W1 Y → Calls Try.prog 61 #[.slice ca nc cc] Y fun e X' => ∃ v, e = .returned v ∧ Below Y.heap.size Y X' ∧ ownV (w.heap.size + 2) 57 3 nc (inssW xc.code) v X') := Lib.hid (fun Y hY => c4.out Y (bnext BW.out (hY)) (by have := hY.size; omega))
  clear hW1 k1' p0 p1 p2 p3 p4 pf pl O1 O2 KX ZX
  try simp only [List.append_eq, List.cons_append, List.nil_append]
  refine wp_region_saysK 7 (fun x y => Below x.heap.size x y) (fun _ _ _ h k => bnext h k) W1 (below_drew1 W1) (by kernel_rfl) (by kernel_rfl) (by kernel_rfl) (by kernel_rfl) (by rfl) ?_
  simp only [List.take_succ_cons, List.take_zero, List.drop_succ_cons, List.drop_zero]
  refine walkK_is ?_ (by first | exact gs0 rfl | exact gs1 rfl rfl rfl) (fun _ => Below.refl _ _) (fun u Y hX hd => ?_) ?_
  rotate_left
  · obtain ⟨q0, q1, ql⟩ := CD.out Y hX
    try simp at hd
    go_simp
    try rfl
  apply walkK_norm
  · first | (simp only [List.nil_append]; rfl) | simp only [List.nil_append]
  refine walkK_is ?_ (by first | exact gs0 rfl | exact gs1 rfl rfl rfl) (fun _ => Below.refl _ _) (fun u Y hX hd => ?_) ?_
  rotate_left
  · obtain ⟨q0, q1, ql⟩ := CD.out Y hX
    try simp at hd
    go_simp
    try rfl
  apply walkK_norm
  · first | (simp only [List.nil_append, List.cons_append]; rfl) | simp only [List.nil_append, List.cons_append]
  refine walkK_call (ownV (w.heap.size + 2) 3 1 na (xc.args.map (.int .i64))) 52 ?_ (by first | exact gs0 rfl | exact gs1 rfl rfl rfl) (fun v x y hb h => ownV_keep v x y hb h) (fun u Y hX hd => ?_) (fun Y hX => ?_) ?_
  rotate_left
  · obtain ⟨q0, q1, ql⟩ := CD.out Y hX
    try simp at hd
    go_simp
    try rfl
  · exact d3.out Y hX
  apply walkK_norm
  · first | (simp only [List.nil_append, List.cons_append]; rfl) | simp only [List.nil_append, List.cons_append]
  refine walkK_is ?_ (by first | exact gs0 rfl | exact gs1 rfl rfl rfl) (fun _ => Below.refl _ _) (fun u Y hX hd => ?_) ?_
  rotate_left
  · obtain ⟨q0, q1, ql⟩ := CD.out Y hX
    try simp at hd
    go_simp
    try rfl
  apply walkK_norm
  · first | (simp only [List.nil_append, List.cons_append]; rfl) | simp only [List.nil_append, List.cons_append]
  refine walkK_is ?_ (by first | exact gs0 rfl | exact gs1 rfl rfl rfl) (fun _ => Below.refl _ _) (fun u Y hX hd => ?_) ?_
  rotate_left
  · obtain ⟨q0, q1, ql⟩ := CD.out Y hX
    try simp at hd
    go_simp
    try rfl
  apply walkK_norm
  · first | (simp only [List.nil_append, List.cons_append]; rfl) | simp only [List.nil_append, List.cons_append]
  refine walkK_call (ownV (w.heap.size + 2) 57 3 nc (inssW xc.code)) 61 ?_ (by first | exact gs0 rfl | exact gs1 rfl rfl rfl) (fun v x y hb h => ownV_keep v x y hb h) (fun u Y hX hd => ?_) (fun Y hX => ?_) ?_
  rotate_left
  · obtain ⟨q0, q1, ql⟩ := CD.out Y hX
    try simp at hd
    go_simp
    try rfl
  · exact d4.out Y hX
  apply walkK_norm
  · first | (simp only [List.nil_append, List.cons_append]; rfl) | simp only [List.nil_append, List.cons_append]
  refine walkK_is ?_ (by first | exact gs0 rfl | exact gs1 rfl rfl rfl) (fun _ => Below.refl _ _) (fun u Y hX hd => ?_) ?_
  rotate_left
  · obtain ⟨q0, q1, ql⟩ := CD.out Y hX
    try simp at hd
    go_simp
    try rfl
  apply walkK_norm
  · first | (simp only [List.nil_append, List.cons_append]; rfl) | simp only [List.nil_append, List.cons_append]
  intro u Y hX hsay
  simp only [sayAll, isV] at hsay
  obtain ⟨-, -, v2, -, -, v5, v6, -⟩ := hsay
  obtain ⟨A3, k3, v2, o3⟩ := v2
  obtain ⟨A4, k4, v5, o4⟩ := v5
  simp only [putAll, Act.put, v2, v5, v6, List.setIfInBounds_toArray, List.set_cons_succ, List.set_cons_zero, Nat.zero_add, Nat.reduceAdd]
  have ky := KW.out.below hX
  obtain ⟨p0, p1, p2, p3, p4, pf⟩ := ky.cmd
  have pl := ky.lt
  have kz := (ky.set 2 (.slice A3 na k3)).set 4 (.slice A4 nc k4)
  simp only [List.setIfInBounds_toArray, List.set_cons_zero, List.set_cons_succ] at kz
  have hz := (((ZW.out.below hX).far (p := ⟨w.heap.size, 2, none⟩) (by show w.heap.size + 1 ≠ w.heap.size; omega) (.slice A3 na k3)).far (p := ⟨w.heap.size, 4, none⟩) (by show w.heap.size + 1 ≠ w.heap.size; omega) (.slice A4 nc k4))
  have by' := ((bnext BW.out hX).setCell (p := ⟨w.heap.size, 2, none⟩) (Nat.le_refl _) (.slice A3 na k3)).setCell (p := ⟨w.heap.size, 4, none⟩) (Nat.le_refl _) (.slice A4 nc k4)
  have uy := ((KeptUp.refl (w.heap.size + 2) Y).setCell (show w.heap.size < w.heap.size + 2 by omega) 2 (.slice A3 na k3)).setCell (show w.heap.size < w.heap.size + 2 by omega) 4 (.slice A4 nc k4)
  obtain ⟨W2, hW2⟩ : ∃ W2, W2 = (Y.setCell ⟨w.heap.size, 2, none⟩ (.slice A3 na k3)).setCell ⟨w.heap.size, 4, none⟩ (.slice A4 nc k4) := ⟨_, rfl⟩
  rw [← hW2] at kz hz by' uy
  have PA := Lib.hid (own_up ((KeptUp.of (B := w.heap.size + 2) hX).trans uy) OA.out (Nat.le_refl _))
  have PB := Lib.hid (own_up ((KeptUp.of (B := w.heap.size + 2) hX).trans uy) OB.out (Nat.le_refl _))
  have PC := Lib.hid (own_up uy o3 (Nat.le_refl _))
  have PD := Lib.hid (own_up uy o4 (Nat.le_refl _))
  have KF := Lib.hid kz
  have ZF := Lib.hid hz
  have BF := Lib.hid by'
  have HW2 := Lib.hid hW2
  clear v2 v5 v6 o3 o4 ky hX kz hz by' uy hW2
  go_wp2_with (first
    | (rw [← HW2.out]; refine wpList_load_row rfl 33 _ rfl w.heap.size rfl 33 _ (0, 0) _ KF.out Try.underlying33 rfl infoCm5 ?_)
    | (refine st_cmd (w.heap.size + 1) ZF.out rfl A1 nr k1 A2 nw k2 A3 na k3 xc.fuel A4 nc k4 _ _ rfl rfl rfl rfl ?_))
  have UF := (KeptUp.refl (w.heap.size + 2) W2).setRow (show w.heap.size + 1 < w.heap.size + 2 by omega) #[.slice A1 nr k1, .slice A2 nw k2, .slice A3 na k3, .int .i64 xc.fuel, .slice A4 nc k4]
  have hin := CmRaw.mk' LN.out.1 LN.out.2.1 LN.out.2.2.1 LN.out.2.2.2 (Sl.own' (own_up UF PA.out (Nat.le_refl _))) (Sl.own' (own_up UF PB.out (Nat.le_refl _))) (Sl.own' (own_up UF PC.out (Nat.le_refl _))) (Sl.own' (own_up UF PD.out (Nat.le_refl _)))
  have hov : CmL.Over w.heap.size ⟨xc, A1, nr, k1, A2, nw, k2, A3, na, k3, A4, nc, k4⟩ := ⟨(own_over PA.out).lower (by omega), (own_over PB.out).lower (by omega), (own_over PC.out).lower (by omega), (own_over PD.out).lower (by omega)⟩
  exact bodyPost_ret (v := .agg #[.slice A1 nr k1, .slice A2 nw k2, .slice A3 na k3, .int .i64 xc.fuel, .slice A4 nc k4]) (results_cell_row rfl _ _ (w.heap.size + 1) _ _ (0, 0) _ rfl (Bk.setRow ZF.out _) Try.underlying33 rfl infoCm5) rfl ⟨⟨xc, A1, nr, k1, A2, nw, k2, A3, na, k3, A4, nc, k4⟩, rfl, rfl, hin, hov, below_row BF.out (by omega) _⟩

end Go.Proofs.Ytldljohholgmoaa
