/-
  TableApplies, walked: true of any blocks, any command and any number, in whatever memory.
-/
import Derived.Test.YtibmfhmeoohdeaaZTabW
import Derived.Test.YtibmfhmeoohdeaaQTabE
import Derived.Test.YtibmfhmeoohdeaaQTabA
namespace Go.Proofs.Ytibmfhmeoohdeaa
open Go.RowKit
attribute [local go_sem] look findAt
attribute [local simp] depsOf isV Region.binds

theorem load_rs {w : World} {g : Nat} {seq told : Int} {S : Value} (hk : Bk w g 31 (rC seq told S)) : (loadVar 31 ⟨g, 0, none⟩).run Try.prog w = .ok (.agg (rC seq told S)) w :=
  run_loadVar_row w g _ _ _ (0, 0) _ hk Try.underlying31 rfl infoRs

theorem new_any (n : Nat) (hn : n ≤ 1000) (w : World) : Calls Try.prog 18 #[.int .i64 (n : Int)] w (NewPost n w) := by
  rcases Nat.eq_zero_or_pos n with rfl | h
  · exact new_no 0 (by decide) w
  · exact new_yes n ⟨h, hn⟩ w

section
variable (c : Cmd) (ra : Option Addr) (nr rc : Nat) (wa : Option Addr) (nw wc : Nat) (aa : Option Addr) (na ac : Nat) (ca : Option Addr) (nc cc : Nat)
variable (l : List Ent) (lA : Option Addr) (ln lc : Nat) (seq : Int)

set_option maxHeartbeats 16000000 in
set_option maxRecDepth 100000 in
theorem tableApplies_no (w : World) (h : CmRaw w c ra nr rc wa nw wc aa na ac ca nc cc) (hno : ¬ (ln ≤ 64 ∧ MayBe c ∧ fitsT c ln)) :
    Calls Try.prog 3 #[.slice lA ln lc, cmV ra nr rc wa nw wc aa na ac c.fuel ca nc cc, .int .i64 seq] w fun e w' => e = .returned (.bool true) ∧ Below w.heap.size w w' := by
  have hrt := Lib.hid (fun W (hW : Below w.heap.size w W) => right_any c ra nr rc wa nw wc aa na ac ca nc cc lA ln lc W (h.below hW) false ⟨(fun q => by cases q), fun q => absurd q hno⟩)
  have B0 := Lib.hid (below_alloc1 w (CmObj ra nr rc wa nw wc aa na ac c.fuel ca nc cc))
  have aw := Lib.hid (fun W => awake12 W)
  clear h hno
  generalize c.fuel = fuel at *
  go_enter Try.func3, Try.ntmps3
  go_wp2_with (first
    | (go_at_call 7; go_must ((with_reducible refine (hrt.out _ B0.out).mono ?_); rintro e w1 ⟨rfl, hb1⟩; have B1 := Lib.hid (bnext B0.out hb1); clear hb1))
    | (go_at_call 8; go_must ((with_reducible refine (aw.out _).mono ?_); rintro e w2 ⟨rfl, hb2⟩; have B2 := Lib.hid (bnext B1.out hb2))))
  go_ret
  exact ⟨rfl, B2.out⟩

set_option maxHeartbeats 32000000 in
set_option maxRecDepth 100000 in
theorem tableApplies_yes (hm : MayBe c) (h8 : Eight l) (hf : fitsT c l.length) (hln : l.length = ln) (hlz : ln ≤ 64) (m : Nat) (hmm : nr + nw = m) (w : World) (h : CmRaw w c ra nr rc wa nw wc aa na ac ca nc cc) (hL : Ents w lA lc l) :
    Calls Try.prog 3 #[.slice lA ln lc, cmV ra nr rc wa nw wc aa na ac c.fuel ca nc cc, .int .i64 seq] w fun e w' => e = .returned (.bool true) ∧ Below w.heap.size w w' := by
  have hC := h.maybe hm
  have hs := hm.sets
  have hlr := hC.lr
  have hlw := hC.lw
  have hbr := hC.br
  have hbw := hC.bw
  have hrt := Lib.hid (fun W (hW : Below w.heap.size w W) => right_any c ra nr rc wa nw wc aa na ac ca nc cc lA ln lc W (h.below hW) true ⟨fun _ => ⟨hlz, hm, by rw [← hln]; exact hf⟩, fun _ => rfl⟩)
  have h8o : ∀ b ∈ loadT l c, b.length = 8 := load_eight h8
  have hol : (loadT l c).length = m := by rw [load_length]; omega
  obtain ⟨n, pc, f, st, regs, ou, to, bl, hE, hR, n1, n2, n3, -, -⟩ := run_ends hm (own := loadT l c) load_length (load_eight h8)
  obtain ⟨l', hl'⟩ : ∃ l', l' = apL l c bl seq (to : Int) := ⟨_, rfl⟩
  have hap1 : Hid (∀ W, Below w.heap.size w W → Calls Try.prog 9 #[.slice lA ln lc, cmV ra nr rc wa nw wc aa na ac c.fuel ca nc cc, .int .i64 seq] W (ApPost l' ln seq to ou W)) := Lib.hid (fun W hW => by
    rw [hl']
    exact apply_any ra nr rc wa nw wc aa na ac ca nc cc c l lA ln lc seq hm h8 hf hln (by omega) hE n2 hR W (hC.below hW) (hL.below hW))
  have hap2 : Hid (∀ W, Below w.heap.size w W → Calls Try.prog 10 #[.slice lA ln lc, cmV ra nr rc wa nw wc aa na ac c.fuel ca nc cc, .int .i64 seq] W (ApPost l' ln seq to ou W)) := Lib.hid (fun W hW => by
    rw [hl']
    exact rapply_any ra nr rc wa nw wc aa na ac ca nc cc c l lA ln lc seq hm h8 hf hln (by omega) hE n2 hR W (hC.below hW) (hL.below hW))
  have hle : c.reads.length + c.writes.length ≤ bl.length := by rw [hR.many, load_length]; omega
  have h8l' : Hid (Eight l') := Lib.hid (by rw [hl']; exact apL_eight h8 hR.cells hle)
  have hlnl : Hid (l'.length = ln) := Lib.hid (by rw [hl', apL_length, hln])
  have hld : Hid (∀ W, Below w.heap.size w W → Calls Try.prog 11 #[.slice lA ln lc, cmV ra nr rc wa nw wc aa na ac c.fuel ca nc cc] W (LoadPost l c m W)) := Lib.hid (fun W hW => by
    rw [← hmm]
    exact load_any ra nr rc wa nw wc aa na ac ca nc cc c l lA ln lc W (hC.below hW) (hL.below hW) h8 hs hf hln)
  have hrl : Hid (∀ W, Below w.heap.size w W → Calls Try.prog 15 #[.slice lA ln lc, cmV ra nr rc wa nw wc aa na ac c.fuel ca nc cc] W (LoadPost l c m W)) := Lib.hid (fun W hW => by
    rw [← hmm]
    exact rload_any ra nr rc wa nw wc aa na ac ca nc cc c l lA ln lc W (hC.below hW) (hL.below hW) h8 hs hf hln)
  obtain ⟨lS, hlS⟩ : ∃ lS, lS = storeT l c (loadT l c) seq := ⟨_, rfl⟩
  have hst : Hid (∀ W A k, Below w.heap.size w W → Sl W 8 A m k (blksW (loadT l c)) → Calls Try.prog 16 #[.slice lA ln lc, cmV ra nr rc wa nw wc aa na ac c.fuel ca nc cc, .slice A m k, .int .i64 seq] W (StorePost lS ln W)) := Lib.hid (fun W A k hW hO => by
    rw [hlS]
    exact store_any ra nr rc wa nw wc aa na ac ca nc cc c l lA ln lc (loadT l c) A m k seq W (hC.below hW) (hL.below hW) h8 hs hf hln hO hol h8o (by omega) (by omega) (by omega))
  have hrs : Hid (∀ W A k, Below w.heap.size w W → Sl W 8 A m k (blksW (loadT l c)) → Calls Try.prog 17 #[.slice lA ln lc, cmV ra nr rc wa nw wc aa na ac c.fuel ca nc cc, .slice A m k, .int .i64 seq] W (StorePost lS ln W)) := Lib.hid (fun W A k hW hO => by
    rw [hlS]
    exact rstore_any ra nr rc wa nw wc aa na ac ca nc cc c l lA ln lc (loadT l c) A m k seq W (hC.below hW) (hL.below hW) h8 hs hf hln hO hol h8o (by omega) (by omega) (by omega))
  have h8S : Hid (Eight lS) := Lib.hid (by rw [hlS]; exact store_eight h8 h8o (by omega))
  have hlnS : Hid (lS.length = ln) := Lib.hid (by rw [hlS, store_length, hln])
  obtain ⟨lN, hlN⟩ : ∃ lN, lN = List.replicate ln entZ := ⟨_, rfl⟩
  have h8N : Hid (Eight lN) := Lib.hid (by rw [hlN]; intro e he; rw [List.eq_of_mem_replicate he]; rfl)
  have hlnN : Hid (lN.length = ln) := Lib.hid (by rw [hlN, List.length_replicate])
  have hn1 : Hid (∀ W, Calls Try.prog 18 #[.int .i64 (ln : Int)] W fun e W' => ∃ A k, e = .returned (.slice A ln k) ∧ W'.ownsRow W.heap.size 45 9 (.slice A ln k) ln (entsW lN) ∧ Below W.heap.size W W') := Lib.hid (fun W => by rw [hlN]; exact new_any ln (by omega) W)
  have hn2 : Hid (∀ W, Calls Try.prog 19 #[.int .i64 (ln : Int)] W fun e W' => ∃ A k, e = .returned (.slice A ln k) ∧ W'.ownsRow W.heap.size 45 9 (.slice A ln k) ln (entsW lN) ∧ Below W.heap.size W W') := Lib.hid (fun W => by rw [hlN]; exact rnew_any ln (by omega) W)
  have ents : ∀ {x : List Ent} {W : World} {A : Option Addr} {k : Nat}, x.length = ln → Sl W 9 A ln k (entsW x) → Ents W A k x := fun hx hS => by unfold Ents; rw [hx]; exact hS
  have same4 : Hid (∀ X A k A' k', Sl X 9 A ln k (entsW lS) → Sl X 9 A' ln k' (entsW lS) → Calls Try.prog 12 #[.slice A ln k, .slice A' ln k'] X fun e w' => e = .returned (.bool true) ∧ Below X.heap.size X w') := Lib.hid (fun X A k A' k' h1 h2 => rsameE_yes lS h8S.out A A' ln k k' X (ents hlnS.out h1) (ents hlnS.out h2) hlnS.out (by omega))
  have same5 : Hid (∀ X A k A' k', Sl X 9 A ln k (entsW lN) → Sl X 9 A' ln k' (entsW lN) → Calls Try.prog 12 #[.slice A ln k, .slice A' ln k'] X fun e w' => e = .returned (.bool true) ∧ Below X.heap.size X w') := Lib.hid (fun X A k A' k' h1 h2 => rsameE_yes lN h8N.out A A' ln k k' X (ents hlnN.out h1) (ents hlnN.out h2) hlnN.out (by omega))
  have sameL : Hid (∀ X A k A' k', Sl X 9 A ln k (entsW l') → Sl X 9 A' ln k' (entsW l') → Calls Try.prog 12 #[.slice A ln k, .slice A' ln k'] X fun e w' => e = .returned (.bool true) ∧ Below X.heap.size X w') := Lib.hid (fun X A k A' k' h1 h2 => rsameE_yes l' h8l'.out A A' ln k k' X (ents hlnl.out h1) (ents hlnl.out h2) hlnl.out (by omega))
  have sameB : Hid (∀ X A k A' k', Sl X 8 A m k (blksW (loadT l c)) → Sl X 8 A' m k' (blksW (loadT l c)) → Calls Try.prog 14 #[.slice A m k, .slice A' m k'] X fun e w' => e = .returned (.bool true) ∧ Below X.heap.size X w') := Lib.hid (fun X A k A' k' h1 h2 => rsameB_yes (loadT l c) h8o A A' m k k' X (by unfold Blocks; rw [hol]; exact h1) (by unfold Blocks; rw [hol]; exact h2) hol (by omega))
  have HOU := hR.out
  have B_0 := Lib.hid (below_alloc1 w (CmObj ra nr rc wa nw wc aa na ac c.fuel ca nc cc))
  have C_0 : Hid (Bk (w.alloc (CmObj ra nr rc wa nw wc aa na ac c.fuel ca nc cc)) w.heap.size 26 #[.slice ra nr rc, .slice wa nw wc, .slice aa na ac, .int .i64 c.fuel, .slice ca nc cc]) := Lib.hid (Bk.new w _ _)
  have aw := Lib.hid (fun W => awake12 W)
  clear h hC hs hm h8 hf hln hL hE hR hl' n1 n3 hle hlw hlr h8o hol hlS hlN hmm h8l' hlnl h8S hlnS h8N hlnN ents
  generalize c.fuel = F at *
  generalize (to : Int) = e0 at *
  go_enter Try.func3, Try.ntmps3
  go_wp2_with (first
    | (go_at_call 7; go_must ((with_reducible refine (hrt.out _ B_0.out).mono ?_); rintro e w2 ⟨rfl, hb⟩; have B_2 := Lib.hid (bnext B_0.out hb); have C_2 := Lib.hid (C_0.out.below hb); obtain ⟨z0, z1, z2, z3, z4, zf⟩ := C_2.out.cmd; have zl := C_2.out.lt; clear hb))
    | (go_at_call 9; go_must ((with_reducible refine (hap1.out _ B_2.out).mono ?_); rintro e w3 ⟨A, kA, oA, on, oc, rfl, hm2, ho, hb0⟩; obtain rfl : on = ou.length := (by have := ho.1; simp at this; omega); have hb := bnext hb0 (varR_below w3 (rC seq e0 (.slice oA ou.length oc))); have B_3 := Lib.hid (bnext B_2.out hb); have C_3 := Lib.hid (C_2.out.below hb); have N3 := Lib.hid (Bk.new w3 31 rsZ); have R_3 := Lib.hid (varR_bk w3 (rC seq e0 (.slice oA ou.length oc))); have A_3 := Lib.hid (hm2.below (varR_below w3 (rC seq e0 (.slice oA ou.length oc)))); have U_3 := Lib.hid (ho.below (varR_below w3 (rC seq e0 (.slice oA ou.length oc)))); clear z0 z1 z2 z3 z4 zf zl; obtain ⟨z0, z1, z2, z3, z4, zf⟩ := C_3.out.cmd; have zl := C_3.out.lt; clear hb hb0 ho hm2))
    | (with_reducible refine st_rs w3.heap.size N3.out rfl _ _ rfl rfl rfl rfl ?_)
    | (go_at_call 10; go_must ((with_reducible refine (hap2.out _ B_3.out).mono ?_); rintro e w4 ⟨A', kB, oB, on, od, rfl, hm2, ho, hb0⟩; obtain rfl : on = ou.length := (by have := ho.1; simp at this; omega); have hb := bnext hb0 (varR_below w4 (rC seq e0 (.slice oB ou.length od))); have B_4 := Lib.hid (bnext B_3.out hb); have C_4 := Lib.hid (C_3.out.below hb); have N4 := Lib.hid (Bk.new w4 31 rsZ); have R_4' := Lib.hid (varR_bk w4 (rC seq e0 (.slice oB ou.length od))); have A_4' := Lib.hid (hm2.below (varR_below w4 (rC seq e0 (.slice oB ou.length od)))); have U_4' := Lib.hid (ho.below (varR_below w4 (rC seq e0 (.slice oB ou.length od)))); have R_4 := Lib.hid (R_3.out.below hb); have A_4 := Lib.hid (A_3.out.below hb); have U_4 := Lib.hid (U_3.out.below hb); clear z0 z1 z2 z3 z4 zf zl; obtain ⟨z0, z1, z2, z3, z4, zf⟩ := C_4.out.cmd; have zl := C_4.out.lt; clear hb hb0 ho hm2))
    | (with_reducible refine st_rs w4.heap.size N4.out rfl _ _ rfl rfl rfl rfl ?_)
    | (go_at_call 11; go_must ((with_reducible refine (hld.out _ B_4.out).mono ?_); rintro e w5 ⟨A2, k2, rfl, ho, hb⟩; have B_5 := Lib.hid (bnext B_4.out hb); have C_5 := Lib.hid (C_4.out.below hb); have O_5 := Lib.hid (Sl.own' ho); have R_5 := Lib.hid (R_4.out.below hb); have R_5' := Lib.hid (R_4'.out.below hb); have A_5 := Lib.hid (A_4.out.below hb); have A_5' := Lib.hid (A_4'.out.below hb); have U_5 := Lib.hid (U_4.out.below hb); have U_5' := Lib.hid (U_4'.out.below hb); clear z0 z1 z2 z3 z4 zf zl; clear hb ho)))
  have la : Hid (∀ X, Below w5.heap.size w5 X → X.cell? ⟨w.heap.size, 0, none⟩ = some (.slice ra nr rc) ∧ X.cell? ⟨w.heap.size, 1, none⟩ = some (.slice wa nw wc) ∧ X.cell? ⟨w.heap.size, 2, none⟩ = some (.slice aa na ac) ∧ X.cell? ⟨w.heap.size, 3, none⟩ = some (.int .i64 F) ∧ X.cell? ⟨w.heap.size, 4, none⟩ = some (.slice ca nc cc)) := Lib.hid (fun X hX => by
    obtain ⟨q0, q1, q2, q3, q4, -⟩ := (C_5.out.below hX).cmd
    exact ⟨q0, q1, q2, q3, q4⟩)
  have same1 := Lib.hid (fun (X : World) (hX : Below w5.heap.size w5 X) => sameL.out X A kA A' kB (A_5.out.below hX) (A_5'.out.below hX))
  have same2 := Lib.hid (fun (X : World) (hX : Below w5.heap.size w5 X) => rsameR_yes seq e0 ou oA oB ou.length oc od X (U_5.out.below hX) (U_5'.out.below hX) (by omega))
  have same3 := Lib.hid (fun (X : World) (hX : Below w5.heap.size w5 X) (A' : Option Addr) (k' : Nat) (h2 : Sl X 8 A' m k' (blksW (loadT l c))) => sameB.out X A2 k2 A' k' (O_5.out.below hX) h2)
  clear sameL sameB hrt hap1 hap2 hld B_0 B_2 B_3 B_4 C_0 C_2 C_3 C_4 N3 N4 R_3 R_4 R_4' A_3 A_4 A_4' U_3 U_4 U_4' A_5 A_5' U_5 U_5'
  try simp only [List.append_eq, List.cons_append, List.nil_append]
  refine wp_region_saysK 40 (fun x y => Below x.heap.size x y) (fun _ _ _ h k => bnext h k) w5 (below_drew1 w5) (by kernel_rfl) (by kernel_rfl) (by kernel_rfl) (by kernel_rfl) (by rfl) ?_
  simp only [List.take_succ_cons, List.take_zero, List.drop_succ_cons, List.drop_zero]
  refine walkK_call (isV (.bool true)) 8 ?_ (by first | exact gs0 rfl | exact gs1 rfl rfl rfl) (fun _ _ _ _ h => h) (fun u X hX hd => ?_) (fun X hX => ?_) ?_
  rotate_left
  · skip
    try simp at hd
    go_simp
    try rfl
  · exact (aw.out X).mono fun e X' ⟨he, hb⟩ => ⟨_, he, hb, rfl⟩
  apply walkK_norm
  · first | (simp only [List.nil_append]; rfl) | simp only [List.nil_append]
  refine walkK_is (.bool true) (by first | exact gs0 rfl | exact gs1 rfl rfl rfl) (fun _ => Below.refl _ _) (fun u X hX hd => ?_) ?_
  · skip
    try simp at hd
    go_simp
    try rfl
  apply walkK_norm
  · first | (simp only [List.nil_append, List.cons_append]; rfl) | simp only [List.nil_append, List.cons_append]
  refine walkK_is ?_ (by first | exact gs0 rfl | exact gs1 rfl rfl rfl) (fun _ => Below.refl _ _) (fun u X hX hd => ?_) ?_
  rotate_left
  · skip
    try simp at hd
    go_simp
    try rfl
  apply walkK_norm
  · first | (simp only [List.nil_append, List.cons_append]; rfl) | simp only [List.nil_append, List.cons_append]
  refine walkK_is ?_ (by first | exact gs0 rfl | exact gs1 rfl rfl rfl) (fun _ => Below.refl _ _) (fun u X hX hd => ?_) ?_
  rotate_left
  · skip
    try simp at hd
    go_simp
    try rfl
  apply walkK_norm
  · first | (simp only [List.nil_append, List.cons_append]; rfl) | simp only [List.nil_append, List.cons_append]
  refine walkK_call (isV (.bool true)) 12 ?_ (by first | exact gs0 rfl | exact gs1 rfl rfl rfl) (fun _ _ _ _ h => h) (fun u X hX hd => ?_) (fun X hX => ?_) ?_
  rotate_left
  · skip
    try simp at hd
    go_simp
    try rfl
  · exact (same1.out X hX).mono fun e X' ⟨he, hb⟩ => ⟨_, he, hb, rfl⟩
  apply walkK_norm
  · first | (simp only [List.nil_append, List.cons_append]; rfl) | simp only [List.nil_append, List.cons_append]
  refine walkK_is (.bool true) (by first | exact gs0 rfl | exact gs1 rfl rfl rfl) (fun _ => Below.refl _ _) (fun u X hX hd => ?_) ?_
  · skip
    try simp at hd
    go_simp
    try rfl
  apply walkK_norm
  · first | (simp only [List.nil_append, List.cons_append]; rfl) | simp only [List.nil_append, List.cons_append]
  refine walkK_is (.bool true) (by first | exact gs0 rfl | exact gs1 rfl rfl rfl) (fun _ => Below.refl _ _) (fun u X hX hd => ?_) ?_
  · skip
    try simp at hd
    go_simp
    try rfl
  apply walkK_norm
  · first | (simp only [List.nil_append, List.cons_append]; rfl) | simp only [List.nil_append, List.cons_append]
  refine walkK_is (.agg (rC seq e0 (.slice oA ou.length oc))) (by first | exact gs0 rfl | exact gs1 rfl rfl rfl) (fun _ => Below.refl _ _) (fun u X hX hd => ?_) ?_
  · exact op_load_at _ w3.heap.size 0 (load_rs (R_5.out.below hX)) _ rfl rfl
  apply walkK_norm
  · first | (simp only [List.nil_append, List.cons_append]; rfl) | simp only [List.nil_append, List.cons_append]
  refine walkK_is (.agg (rC seq e0 (.slice oB ou.length od))) (by first | exact gs0 rfl | exact gs1 rfl rfl rfl) (fun _ => Below.refl _ _) (fun u X hX hd => ?_) ?_
  · exact op_load_at _ w4.heap.size 0 (load_rs (R_5'.out.below hX)) _ rfl rfl
  apply walkK_norm
  · first | (simp only [List.nil_append, List.cons_append]; rfl) | simp only [List.nil_append, List.cons_append]
  refine walkK_call (isV (.bool true)) 13 ?_ (by first | exact gs0 rfl | exact gs1 rfl rfl rfl) (fun _ _ _ _ h => h) (fun u X hX hd => ?_) (fun X hX => ?_) ?_
  rotate_left
  · skip
    try simp at hd
    go_simp
    try rfl
  · exact (same2.out X hX).mono fun e X' ⟨he, hb⟩ => ⟨_, he, hb, rfl⟩
  apply walkK_norm
  · first | (simp only [List.nil_append, List.cons_append]; rfl) | simp only [List.nil_append, List.cons_append]
  refine walkK_is (.bool true) (by first | exact gs0 rfl | exact gs1 rfl rfl rfl) (fun _ => Below.refl _ _) (fun u X hX hd => ?_) ?_
  · skip
    try simp at hd
    go_simp
    try rfl
  apply walkK_norm
  · first | (simp only [List.nil_append, List.cons_append]; rfl) | simp only [List.nil_append, List.cons_append]
  refine walkK_is (.bool true) (by first | exact gs0 rfl | exact gs1 rfl rfl rfl) (fun _ => Below.refl _ _) (fun u X hX hd => ?_) ?_
  · skip
    try simp at hd
    go_simp
    try rfl
  apply walkK_norm
  · first | (simp only [List.nil_append, List.cons_append]; rfl) | simp only [List.nil_append, List.cons_append]
  refine walkK_is ?_ (by first | exact gs0 rfl | exact gs1 rfl rfl rfl) (fun _ => Below.refl _ _) (fun u X hX hd => ?_) ?_
  rotate_left
  · skip
    try simp at hd
    go_simp
    try rfl
  apply walkK_norm
  · first | (simp only [List.nil_append, List.cons_append]; rfl) | simp only [List.nil_append, List.cons_append]
  refine walkK_is ?_ (by first | exact gs0 rfl | exact gs1 rfl rfl rfl) (fun _ => Below.refl _ _) (fun u X hX hd => ?_) ?_
  rotate_left
  · skip
    try simp at hd
    go_simp
    try rfl
  apply walkK_norm
  · first | (simp only [List.nil_append, List.cons_append]; rfl) | simp only [List.nil_append, List.cons_append]
  refine walkK_is ((cmV ra nr rc wa nw wc aa na ac F ca nc cc)) (by first | exact gs0 rfl | exact gs1 rfl rfl rfl) (fun _ => Below.refl _ _) (fun u X hX hd => ?_) ?_
  · obtain ⟨q0, q1, q2, q3, q4⟩ := la.out X hX
    try simp at hd
    go_simp
    try rfl
  apply walkK_norm
  · first | (simp only [List.nil_append, List.cons_append]; rfl) | simp only [List.nil_append, List.cons_append]
  refine walkK_call (rowV w5.heap.size 43 8 m (blksW (loadT l c))) 15 ?_ (by first | exact gs0 rfl | exact gs1 rfl rfl rfl) (fun v x y hb h => rowV_keep v x y hb h) (fun u X hX hd => ?_) (fun X hX => ?_) ?_
  rotate_left
  · skip
    try simp at hd
    go_simp
    try rfl
  · exact (rowV_call (B := w5.heap.size) hX.size (hrl.out X (bnext B_5.out hX))).mono fun e X' ⟨v, he, hb, ho, _⟩ => ⟨v, he, hb, ho⟩
  apply walkK_norm
  · first | (simp only [List.nil_append, List.cons_append]; rfl) | simp only [List.nil_append, List.cons_append]
  refine walkK_callU (isV (.bool true)) 14 (by first | exact gs0 rfl | exact gs1 rfl rfl rfl) (fun _ _ _ _ h => h) (fun u X hX hd => ?_) ?_
  · simp at hd
    obtain ⟨h12, ⟨A', c', hv, hs⟩, -⟩ := hd
    refine ⟨#[.slice A2 m k2, .slice A' m c'], ?_, (same3.out X hX A' c' (Sl.own' hs)).mono fun e X' ⟨he, hb⟩ => ⟨_, he, hb, rfl⟩⟩
    go_simp
  apply walkK_norm
  · first | (simp only [List.nil_append, List.cons_append]; rfl) | simp only [List.nil_append, List.cons_append]
  refine walkK_is (.bool true) (by first | exact gs0 rfl | exact gs1 rfl rfl rfl) (fun _ => Below.refl _ _) (fun u X hX hd => ?_) ?_
  · skip
    try simp at hd
    go_simp
    try rfl
  apply walkK_norm
  · first | (simp only [List.nil_append, List.cons_append]; rfl) | simp only [List.nil_append, List.cons_append]
  refine walkK_is (.bool true) (by first | exact gs0 rfl | exact gs1 rfl rfl rfl) (fun _ => Below.refl _ _) (fun u X hX hd => ?_) ?_
  · skip
    try simp at hd
    go_simp
    try rfl
  apply walkK_norm
  · first | (simp only [List.nil_append, List.cons_append]; rfl) | simp only [List.nil_append, List.cons_append]
  refine walkK_is ?_ (by first | exact gs0 rfl | exact gs1 rfl rfl rfl) (fun _ => Below.refl _ _) (fun u X hX hd => ?_) ?_
  rotate_left
  · skip
    try simp at hd
    go_simp
    try rfl
  apply walkK_norm
  · first | (simp only [List.nil_append, List.cons_append]; rfl) | simp only [List.nil_append, List.cons_append]
  refine walkK_is ((cmV ra nr rc wa nw wc aa na ac F ca nc cc)) (by first | exact gs0 rfl | exact gs1 rfl rfl rfl) (fun _ => Below.refl _ _) (fun u X hX hd => ?_) ?_
  · obtain ⟨q0, q1, q2, q3, q4⟩ := la.out X hX
    try simp at hd
    go_simp
    try rfl
  apply walkK_norm
  · first | (simp only [List.nil_append, List.cons_append]; rfl) | simp only [List.nil_append, List.cons_append]
  refine walkK_is ?_ (by first | exact gs0 rfl | exact gs1 rfl rfl rfl) (fun _ => Below.refl _ _) (fun u X hX hd => ?_) ?_
  rotate_left
  · skip
    try simp at hd
    go_simp
    try rfl
  apply walkK_norm
  · first | (simp only [List.nil_append, List.cons_append]; rfl) | simp only [List.nil_append, List.cons_append]
  refine walkK_is ?_ (by first | exact gs0 rfl | exact gs1 rfl rfl rfl) (fun _ => Below.refl _ _) (fun u X hX hd => ?_) ?_
  rotate_left
  · skip
    try simp at hd
    go_simp
    try rfl
  apply walkK_norm
  · first | (simp only [List.nil_append, List.cons_append]; rfl) | simp only [List.nil_append, List.cons_append]
  refine walkK_call (rowV w5.heap.size 45 9 ln (entsW lS)) 16 ?_ (by first | exact gs0 rfl | exact gs1 rfl rfl rfl) (fun v x y hb h => rowV_keep v x y hb h) (fun u X hX hd => ?_) (fun X hX => ?_) ?_
  rotate_left
  · skip
    try simp at hd
    go_simp
    try rfl
  · exact (rowV_call (B := w5.heap.size) hX.size (hst.out X A2 k2 (bnext B_5.out hX) (O_5.out.below hX))).mono fun e X' ⟨v, he, hb, ho, _⟩ => ⟨v, he, hb, ho⟩
  apply walkK_norm
  · first | (simp only [List.nil_append, List.cons_append]; rfl) | simp only [List.nil_append, List.cons_append]
  refine walkK_is ?_ (by first | exact gs0 rfl | exact gs1 rfl rfl rfl) (fun _ => Below.refl _ _) (fun u X hX hd => ?_) ?_
  rotate_left
  · skip
    try simp at hd
    go_simp
    try rfl
  apply walkK_norm
  · first | (simp only [List.nil_append, List.cons_append]; rfl) | simp only [List.nil_append, List.cons_append]
  refine walkK_is ((cmV ra nr rc wa nw wc aa na ac F ca nc cc)) (by first | exact gs0 rfl | exact gs1 rfl rfl rfl) (fun _ => Below.refl _ _) (fun u X hX hd => ?_) ?_
  · obtain ⟨q0, q1, q2, q3, q4⟩ := la.out X hX
    try simp at hd
    go_simp
    try rfl
  apply walkK_norm
  · first | (simp only [List.nil_append, List.cons_append]; rfl) | simp only [List.nil_append, List.cons_append]
  refine walkK_is ?_ (by first | exact gs0 rfl | exact gs1 rfl rfl rfl) (fun _ => Below.refl _ _) (fun u X hX hd => ?_) ?_
  rotate_left
  · skip
    try simp at hd
    go_simp
    try rfl
  apply walkK_norm
  · first | (simp only [List.nil_append, List.cons_append]; rfl) | simp only [List.nil_append, List.cons_append]
  refine walkK_is ?_ (by first | exact gs0 rfl | exact gs1 rfl rfl rfl) (fun _ => Below.refl _ _) (fun u X hX hd => ?_) ?_
  rotate_left
  · skip
    try simp at hd
    go_simp
    try rfl
  apply walkK_norm
  · first | (simp only [List.nil_append, List.cons_append]; rfl) | simp only [List.nil_append, List.cons_append]
  refine walkK_call (rowV w5.heap.size 45 9 ln (entsW lS)) 17 ?_ (by first | exact gs0 rfl | exact gs1 rfl rfl rfl) (fun v x y hb h => rowV_keep v x y hb h) (fun u X hX hd => ?_) (fun X hX => ?_) ?_
  rotate_left
  · skip
    try simp at hd
    go_simp
    try rfl
  · exact (rowV_call (B := w5.heap.size) hX.size (hrs.out X A2 k2 (bnext B_5.out hX) (O_5.out.below hX))).mono fun e X' ⟨v, he, hb, ho, _⟩ => ⟨v, he, hb, ho⟩
  apply walkK_norm
  · first | (simp only [List.nil_append, List.cons_append]; rfl) | simp only [List.nil_append, List.cons_append]
  refine walkK_callU (isV (.bool true)) 12 (by first | exact gs0 rfl | exact gs1 rfl rfl rfl) (fun _ _ _ _ h => h) (fun u X hX hd => ?_) ?_
  · simp at hd
    obtain ⟨⟨A', c', hv, hs⟩, ⟨A'', c'', hv2, hs2⟩, -⟩ := hd
    refine ⟨#[.slice A' ln c', .slice A'' ln c''], ?_, (same4.out X A' c' A'' c'' (Sl.own' hs) (Sl.own' hs2)).mono fun e X' ⟨he, hb⟩ => ⟨_, he, hb, rfl⟩⟩
    go_simp
  apply walkK_norm
  · first | (simp only [List.nil_append, List.cons_append]; rfl) | simp only [List.nil_append, List.cons_append]
  refine walkK_is (.bool true) (by first | exact gs0 rfl | exact gs1 rfl rfl rfl) (fun _ => Below.refl _ _) (fun u X hX hd => ?_) ?_
  · skip
    try simp at hd
    go_simp
    try rfl
  apply walkK_norm
  · first | (simp only [List.nil_append, List.cons_append]; rfl) | simp only [List.nil_append, List.cons_append]
  refine walkK_is (.bool true) (by first | exact gs0 rfl | exact gs1 rfl rfl rfl) (fun _ => Below.refl _ _) (fun u X hX hd => ?_) ?_
  · skip
    try simp at hd
    go_simp
    try rfl
  apply walkK_norm
  · first | (simp only [List.nil_append, List.cons_append]; rfl) | simp only [List.nil_append, List.cons_append]
  refine walkK_is ?_ (by first | exact gs0 rfl | exact gs1 rfl rfl rfl) (fun _ => Below.refl _ _) (fun u X hX hd => ?_) ?_
  rotate_left
  · skip
    try simp at hd
    go_simp
    try rfl
  apply walkK_norm
  · first | (simp only [List.nil_append, List.cons_append]; rfl) | simp only [List.nil_append, List.cons_append]
  refine walkK_is (.int .i64 (ln : Int)) (by first | exact gs0 rfl | exact gs1 rfl rfl rfl) (fun _ => Below.refl _ _) (fun u X hX hd => ?_) ?_
  · skip
    try simp at hd
    go_simp
    try rfl
  apply walkK_norm
  · first | (simp only [List.nil_append, List.cons_append]; rfl) | simp only [List.nil_append, List.cons_append]
  refine walkK_call (rowV w5.heap.size 45 9 ln (entsW lN)) 18 ?_ (by first | exact gs0 rfl | exact gs1 rfl rfl rfl) (fun v x y hb h => rowV_keep v x y hb h) (fun u X hX hd => ?_) (fun X hX => ?_) ?_
  rotate_left
  · skip
    try simp at hd
    go_simp
    try rfl
  · exact (rowV_call (B := w5.heap.size) hX.size (hn1.out X)).mono fun e X' ⟨v, he, hb, ho, _⟩ => ⟨v, he, hb, ho⟩
  apply walkK_norm
  · first | (simp only [List.nil_append, List.cons_append]; rfl) | simp only [List.nil_append, List.cons_append]
  refine walkK_is ?_ (by first | exact gs0 rfl | exact gs1 rfl rfl rfl) (fun _ => Below.refl _ _) (fun u X hX hd => ?_) ?_
  rotate_left
  · skip
    try simp at hd
    go_simp
    try rfl
  apply walkK_norm
  · first | (simp only [List.nil_append, List.cons_append]; rfl) | simp only [List.nil_append, List.cons_append]
  refine walkK_is (.int .i64 (ln : Int)) (by first | exact gs0 rfl | exact gs1 rfl rfl rfl) (fun _ => Below.refl _ _) (fun u X hX hd => ?_) ?_
  · skip
    try simp at hd
    go_simp
    try rfl
  apply walkK_norm
  · first | (simp only [List.nil_append, List.cons_append]; rfl) | simp only [List.nil_append, List.cons_append]
  refine walkK_call (rowV w5.heap.size 45 9 ln (entsW lN)) 19 ?_ (by first | exact gs0 rfl | exact gs1 rfl rfl rfl) (fun v x y hb h => rowV_keep v x y hb h) (fun u X hX hd => ?_) (fun X hX => ?_) ?_
  rotate_left
  · skip
    try simp at hd
    go_simp
    try rfl
  · exact (rowV_call (B := w5.heap.size) hX.size (hn2.out X)).mono fun e X' ⟨v, he, hb, ho, _⟩ => ⟨v, he, hb, ho⟩
  apply walkK_norm
  · first | (simp only [List.nil_append, List.cons_append]; rfl) | simp only [List.nil_append, List.cons_append]
  refine walkK_callU (isV (.bool true)) 12 (by first | exact gs0 rfl | exact gs1 rfl rfl rfl) (fun _ _ _ _ h => h) (fun u X hX hd => ?_) ?_
  · simp at hd
    obtain ⟨⟨A', c', hv, hs⟩, ⟨A'', c'', hv2, hs2⟩, -⟩ := hd
    refine ⟨#[.slice A' ln c', .slice A'' ln c''], ?_, (same5.out X A' c' A'' c'' (Sl.own' hs) (Sl.own' hs2)).mono fun e X' ⟨he, hb⟩ => ⟨_, he, hb, rfl⟩⟩
    go_simp
  apply walkK_norm
  · first | (simp only [List.nil_append, List.cons_append]; rfl) | simp only [List.nil_append, List.cons_append]
  refine walkK_is (.bool true) (by first | exact gs0 rfl | exact gs1 rfl rfl rfl) (fun _ => Below.refl _ _) (fun u X hX hd => ?_) ?_
  · skip
    try simp at hd
    go_simp
    try rfl
  apply walkK_norm
  · first | (simp only [List.nil_append, List.cons_append]; rfl) | simp only [List.nil_append, List.cons_append]
  intro u X hX hsay
  simp only [sayAll, isV] at hsay
  obtain ⟨-, -, -, -, -, -, -, -, -, -, -, -, -, -, -, -, -, -, -, -, -, -, -, -, -, -, -, -, -, -, -, -, -, -, -, -, -, -, -, v39, -⟩ := hsay
  have BF := Lib.hid (bnext B_5.out hX)
  simp only [putAll, Act.put]
  go_wp2
  go_ret
  exact ⟨rfl, BF.out⟩

theorem tableApplies_walk (h8 : Eight l) (w : World) (h : CmRaw w c ra nr rc wa nw wc aa na ac ca nc cc) (hL : Ents w lA lc l) (hln : l.length = ln) :
    Calls Try.prog 3 #[.slice lA ln lc, cmV ra nr rc wa nw wc aa na ac c.fuel ca nc cc, .int .i64 seq] w fun e w' => e = .returned (.bool true) ∧ Below w.heap.size w w' := by
  by_cases hy : ln ≤ 64 ∧ MayBe c ∧ fitsT c ln
  · exact tableApplies_yes c ra nr rc wa nw wc aa na ac ca nc cc l lA ln lc seq hy.2.1 h8 (by rw [hln]; exact hy.2.2) hln hy.1 (nr + nw) rfl w h hL
  · exact tableApplies_no c ra nr rc wa nw wc aa na ac ca nc cc lA ln lc seq w h hy

end
end Go.Proofs.Ytibmfhmeoohdeaa
