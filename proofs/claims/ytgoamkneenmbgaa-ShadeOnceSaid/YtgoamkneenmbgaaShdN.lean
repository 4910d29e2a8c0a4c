/-
  ShadeOnce, walked: true of any two lists of blocks and any byte, in whatever memory.
-/
import Derived.Test.YtgoamkneenmbgaaShdO
namespace Go.Proofs.Ytgoamkneenmbgaa
open Go.RowKit
attribute [local go_sem] look findAt
attribute [local simp] depsOf isV Region.binds

section
variable (l : List Ent) (lA : Option Addr) (ln lc : Nat) (n : List Ent) (nA : Option Addr) (nn nc : Nat) (m : Nat)

set_option maxHeartbeats 4000000 in
theorem shadeOnce_no (hno : ln = 0 ∨ 70 < ln ∨ nn ≠ ln) (w : World) :
    Calls Try.prog 6 #[.slice lA ln lc, .slice nA nn nc, .int .u8 (m : Int)] w fun e w' => e = .returned (.bool true) ∧ Below w.heap.size w w' := by
  have aw := Lib.hid (fun W => awake13 W)
  by_cases h0 : ln = 0
  · subst h0
    clear hno
    go_enter Try.func6, Try.ntmps6
    go_wp2_with (go_at_call 7; go_must ((with_reducible refine (aw.out _).mono ?_); rintro e w2 ⟨rfl, hb2⟩; have B2 := Lib.hid hb2))
    go_ret
    exact ⟨rfl, B2.out⟩
  · have d0 : ((ln : Int) == 0) = false := by simp; omega
    by_cases h1 : 70 < ln
    · have d1 : decide ((70 : Int) < (ln : Int)) = true := decide_eq_true (by omega)
      have d2 : decide (70 < ln) = true := decide_eq_true h1
      clear hno
      go_enter Try.func6, Try.ntmps6
      go_wp2_with (go_at_call 7; go_must ((with_reducible refine (aw.out _).mono ?_); rintro e w2 ⟨rfl, hb2⟩; have B2 := Lib.hid hb2))
      go_ret
      exact ⟨rfl, B2.out⟩
    · have d1 : decide ((70 : Int) < (ln : Int)) = false := decide_eq_false (by omega)
      have d2 : decide (70 < ln) = false := decide_eq_false h1
      have h2 : nn ≠ ln := by omega
      have d3 : ((nn : Int) == (ln : Int)) = false := by simp; omega
      have d4 : ((nn : Int) != (ln : Int)) = true := by simp; omega
      have d5 : (nn == ln) = false := by simpa using h2
      clear hno
      go_enter Try.func6, Try.ntmps6
      go_wp2_with (go_at_call 7; go_must ((with_reducible refine (aw.out _).mono ?_); rintro e w2 ⟨rfl, hb2⟩; have B2 := Lib.hid hb2))
      go_ret
      exact ⟨rfl, B2.out⟩

theorem see_twice {l n : List Ent} {k : Nat} (hk : k < l.length) (hn : n.length = l.length) {j : Nat} (hj : j < l.length) :
    seeS ⟨true, (List.replicate l.length entZ).set k (l[k]?.getD entZ), (List.replicate l.length false).set k true⟩ n (j : Int) = if j = k then l[j]?.getD entZ else n[j]?.getD entZ := by
  unfold seeS
  rw [if_pos ⟨by omega, by omega⟩]
  simp only [Int.toNat_natCast]
  by_cases h : j = k
  · subst h
    rw [if_pos rfl, if_pos ⟨(by trivial), by rw [List.getElem?_set_self (by simpa using hj)]⟩, List.getElem?_set_self (by simpa using hj)]
    rfl
  · rw [if_neg h, if_neg]
    rintro ⟨-, q⟩
    rw [List.getElem?_set_ne (Ne.symm h), List.getElem?_replicate, if_pos hj] at q
    cases q

set_option maxHeartbeats 16000000 in
set_option maxRecDepth 100000 in
theorem shadeOnce_main (h0 : 0 < ln) (hl : ln ≤ 70) (hm : m ≤ 255) (w : World) (hL : Ents w lA lc l) (h8 : Eight l) (hln : l.length = ln) (hN : Ents w nA nc n) (h8n : Eight n) (hnn : n.length = ln) :
    Calls Try.prog 6 #[.slice lA ln lc, .slice nA ln nc, .int .u8 (m : Int)] w fun e w' => e = .returned (.bool true) ∧ Below w.heap.size w w' := by
  have aw := Lib.hid (fun W => awake13 W)
  have d0 : ((ln : Int) == 0) = false := by simp; omega
  have d1 : decide ((70 : Int) < (ln : Int)) = false := decide_eq_false (by omega)
  have d2 : decide (70 < ln) = false := decide_eq_false (by omega)
  have hlc : ln ≤ lc := by have := hL.2.1; omega
  have hnc : ln ≤ nc := by have := hN.2.1; omega
  obtain ⟨k, hkk⟩ : ∃ k : Nat, k = m % ln := ⟨_, rfl⟩
  have hk : k < ln := by rw [hkk]; exact Nat.mod_lt _ h0
  have r1 : (m : Int).tmod (ln : Int) = (k : Int) := by rw [hkk]; rfl
  have r2 : (m : Int) % (ln : Int) = (k : Int) := by rw [hkk]; rfl
  have r3 : ((m % ln : Nat) : Int) = (k : Int) := by rw [hkk]
  have be : Hid (∀ W : World, Calls Try.prog 8 #[.agg (mkC false 0 0 0 0 0 0 (.slice none 0 0) (.slice none 0 0)), .int .i64 (ln : Int)] W (MkPost true 0 0 0 0 0 0 ln (beginS (ln : Int)) W)) := Lib.hid (fun W => begin_any false 0 0 0 0 0 0 _ _ ln (by omega) W)
  obtain ⟨o1, ho1⟩ : ∃ o, o = (keepS (beginS (l.length : Int)) l (k : Int)).old := ⟨_, rfl⟩
  obtain ⟨b1, hb1⟩ : ∃ b, b = (keepS (beginS (l.length : Int)) l (k : Int)).kept := ⟨_, rfl⟩
  obtain ⟨o2, ho2⟩ : ∃ o, o = (List.replicate l.length entZ).set k (l[k]?.getD entZ) := ⟨_, rfl⟩
  obtain ⟨b2, hb2⟩ : ∃ b, b = (List.replicate l.length false).set k true := ⟨_, rfl⟩
  have kp1 : Hid (∀ (W : World) (oA : Option Addr) (oc : Nat) (kA : Option Addr) (kc : Nat), Below w.heap.size w W → MkIn W (beginS (ln : Int)).old (beginS (ln : Int)).kept oA ln oc kA ln kc → Calls Try.prog 10 #[.agg (mkC true 0 0 0 0 0 0 (.slice oA ln oc) (.slice kA ln kc)), .slice lA ln lc, .int .i64 (k : Int)] W (MkPost true 0 0 0 0 0 0 ln ⟨true, o1, b1⟩ W)) := Lib.hid (fun W oA oc kA kc hW hM => by
    have h := keep_any true 0 0 0 0 0 0 oA ln oc kA kc _ _ l lA ln lc (k : Int) W hM (hL.below hW) h8 hln (by omega)
    have e : keepS ⟨true, (beginS (ln : Int)).old, (beginS (ln : Int)).kept⟩ l (k : Int) = ⟨true, o1, b1⟩ := by
      rw [ho1, hb1, hln]
      have q := keepS_on (beginS (ln : Int)) l (k : Int)
      rw [show (beginS (ln : Int)).on = true from rfl] at q
      show keepS (beginS (ln : Int)) l (k : Int) = _
      rw [← q]
    rwa [e] at h)
  have kp2 : Hid (∀ (W : World) (oA : Option Addr) (oc : Nat) (kA : Option Addr) (kc : Nat), Below w.heap.size w W → MkIn W o1 b1 oA ln oc kA ln kc → Calls Try.prog 10 #[.agg (mkC true 0 0 0 0 0 0 (.slice oA ln oc) (.slice kA ln kc)), .slice nA ln nc, .int .i64 (k : Int)] W (MkPost true 0 0 0 0 0 0 ln ⟨true, o2, b2⟩ W)) := Lib.hid (fun W oA oc kA kc hW hM => by
    have h := keep_any true 0 0 0 0 0 0 oA ln oc kA kc _ _ n nA ln nc (k : Int) W hM (hN.below hW) h8n hnn (by omega)
    have e : keepS ⟨true, o1, b1⟩ n (k : Int) = ⟨true, o2, b2⟩ := by
      have q := keepS_on (beginS (l.length : Int)) l (k : Int)
      rw [show (beginS (l.length : Int)).on = true from rfl] at q
      have t := keep_twice l n (k := k) (by omega) (by omega)
      rw [show keepS (beginS (l.length : Int)) l (k : Int) = ⟨true, o1, b1⟩ by rw [ho1, hb1, ← q]] at t
      rw [t, ho2, hb2]
    rwa [e] at h)
  have se : Hid (∀ (W : World) (oA : Option Addr) (oc : Nat) (kA : Option Addr) (kc : Nat) (j : Nat), Below w.heap.size w W → MkIn W o2 b2 oA ln oc kA ln kc → j < ln → Calls Try.prog 13 #[.agg (mkC true 0 0 0 0 0 0 (.slice oA ln oc) (.slice kA ln kc)), .slice nA ln nc, .int .i64 (j : Int)] W fun e w' => e = .returned (.agg (bkC (entI (if j = k then l[j]?.getD entZ else n[j]?.getD entZ)))) ∧ Below W.heap.size W w') := Lib.hid (fun W oA oc kA kc j hW hM hj => by
    have h := see_any true 0 0 0 0 0 0 oA ln oc kA kc o2 b2 n nA ln nc (j : Int) W hM (hN.below hW) h8n hnn
    rwa [ho2, hb2, see_twice (by omega) (by omega) (by omega)] at h)
  have hb2v : Hid (∀ j, j < ln → b2[j]?.getD false = decide (j = k)) := Lib.hid (fun j hj => by
    rw [hb2]
    by_cases q : j = k
    · subst q
      rw [List.getElem?_set_self (by simp; omega), decide_eq_true rfl]
      rfl
    · rw [List.getElem?_set_ne (Ne.symm q), List.getElem?_replicate, if_pos (by omega), decide_eq_false q]
      rfl)
  have HL := Lib.hid hL
  have H8 := Lib.hid h8
  have HLN := Lib.hid hln
  have HN := Lib.hid hN
  have H8N := Lib.hid h8n
  have HNN := Lib.hid hnn
  clear hL h8 hN h8n ho1 hb1 ho2 hb2 hln hnn hkk
  have nA1 : True := trivial
  have B0 := Lib.hid (Below.refl w.heap.size w)
  go_enter Try.func6, Try.ntmps6
  go_wp2_with (first
    | (go_at_call 8; go_must ((with_reducible refine (be.out _).mono ?_); rintro e w1 ⟨oA, oc, kA, kc, rfl, hM, hb⟩; have B1 := Lib.hid (bnext B0.out hb); have M1 := Lib.hid hM; clear hM hb))
    | (go_at_call 10; clear nA1; go_must ((with_reducible refine (kp1.out _ _ _ _ _ B1.out M1.out.inn).mono ?_); rintro e w2 ⟨oA2, oc2, kA2, kc2, rfl, hM, hb⟩; have B2 := Lib.hid (bnext B1.out hb); have M2 := Lib.hid hM; clear hM hb))
    | (go_at_call 10; go_must ((with_reducible refine (kp2.out _ _ _ _ _ B2.out M2.out.inn).mono ?_); rintro e w3 ⟨oA3, oc3, kA3, kc3, rfl, hM, hb⟩; obtain ⟨gk, cur, rfl, -⟩ := own_pos hM.ok h0; have B3 := Lib.hid (bnext (bnext B2.out hb) (varK_below w3 (mkC true 0 0 0 0 0 0 (.slice oA3 ln oc3) (.slice (some ⟨gk, 0, none⟩) ln kc3)))); have M3 := Lib.hid (hM.below (varK_below w3 (mkC true 0 0 0 0 0 0 (.slice oA3 ln oc3) (.slice (some ⟨gk, 0, none⟩) ln kc3)))); have V3 := Lib.hid (varK_bk w3 (mkC true 0 0 0 0 0 0 (.slice oA3 ln oc3) (.slice (some ⟨gk, 0, none⟩) ln kc3))); have N3 := Lib.hid (Bk.new w3 25 mkZ); clear hM hb))
    | (with_reducible refine st_mk w3.heap.size N3.out rfl rfl rfl _ _ rfl rfl rfl rfl ?_))
  obtain ⟨wz, hW⟩ : ∃ W, W = (w3.alloc (.cells mkZ 25)).setRow w3.heap.size (mkC true 0 0 0 0 0 0 (.slice oA3 ln oc3) (.slice (some ⟨gk, 0, none⟩) ln kc3)) := ⟨_, rfl⟩
  try rw [← hW]
  rw [← hW] at B3 M3 V3
  have hkc3 : ln ≤ kc3 := M3.out.inn.sk.2.1
  clear hW B1 B2 M1 M2 N3 be kp1 kp2 B0
  go_loopw [9] (fun cc wr => ∃ j : Nat, j ≤ ln ∧ cc = .int .i64 j ∧ Hid (Below wz.heap.size wz wr)) (fun cc _ => ln - (intOf cc).toNat)
  case atStart => exact ⟨0, Nat.zero_le _, rfl, Lib.hid (Below.refl _ _)⟩
  case round =>
    obtain ⟨j, hj, rfl, HB⟩ := hrel
    have BB := Lib.hid (bnext B3.out HB.out)
    by_cases hlt : j < ln
    · have VB := Lib.hid (V3.out.below HB.out)
      have MB := Lib.hid (M3.out.inn.below HB.out)
      have sj := Lib.hid (fun (W : World) (hW : Below wr.heap.size wr W) => se.out W oA3 oc3 (some ⟨gk, 0, none⟩) kc3 j (bnext BB.out hW) (MB.out.below hW) hlt)
      have t1 : (j : Int) < (ln : Int) := by omega
      have t2 : (j : Int) < (lc : Int) := by omega
      have t3 : (j : Int) < (nc : Int) := by omega
      have t4 : (j : Int) < (kc3 : Int) := by omega
      obtain ⟨b, off, hbo, hbl, hv⟩ := MB.out.sk.bool (j := j) hlt
      obtain ⟨rfl, rfl⟩ : gk = b ∧ 0 = off := by injection hbo with h; injection h with h1 h2; exact ⟨h1, h2⟩
      rw [Nat.zero_add, hb2v.out j hlt] at hv
      have hQ : Hid (∀ X, Below wr.heap.size wr X → X.cell? ⟨w3.heap.size, 8, none⟩ = some (.slice (some ⟨gk, 0, none⟩) ln kc3) ∧ X.cell? ⟨gk, j, none⟩ = some (.bool (decide (j = k)))) := Lib.hid (fun X hX => ⟨(VB.out.below hX).cell 8, (hX.cell (p := ⟨gk, j, none⟩) hbl).trans hv⟩)
      have hMk : Hid (∀ X, Below wr.heap.size wr X → (loadVar 25 ⟨w3.heap.size, 0, none⟩).run Try.prog X = .ok (.agg (mkC true 0 0 0 0 0 0 (.slice oA3 ln oc3) (.slice (some ⟨gk, 0, none⟩) ln kc3))) X) := Lib.hid (fun X hX => load_mk (VB.out.below hX))
      clear hbo hv VB MB
      by_cases hjk : j = k
      · subst hjk
        have hxe : (if j = j then l[j]?.getD entZ else n[j]?.getD entZ) = l[j]?.getD entZ := if_pos rfl
        have sj' : Hid (∀ (W : World), Below wr.heap.size wr W → Calls Try.prog 13 #[.agg (mkC true 0 0 0 0 0 0 (.slice oA3 ln oc3) (.slice (some ⟨gk, 0, none⟩) ln kc3)), .slice nA ln nc, .int .i64 (j : Int)] W fun e w' => e = .returned (.agg (bkC (entI (l[j]?.getD entZ)))) ∧ Below W.heap.size W w') := Lib.hid (fun W hW => by have := sj.out W hW; rwa [hxe] at this)
        have hQ' : Hid (∀ X, Below wr.heap.size wr X → X.cell? ⟨w3.heap.size, 8, none⟩ = some (.slice (some ⟨gk, 0, none⟩) ln kc3) ∧ X.cell? ⟨gk, j, none⟩ = some (.bool true)) := Lib.hid (fun X hX => by have := hQ.out X hX; rwa [decide_eq_true (rfl : j = j)] at this)
        clear sj hQ hxe
        obtain ⟨g, og, rfl, hg, hl0⟩ := HL.out.load H8.out (i := j) (by rw [HLN.out]; exact hlt)
        have hx8 := H8.out.at j
        generalize l[j]?.getD entZ = x at *
        have EQ : Hid (∀ W : World, (binOp .neq 34 (.agg (bkC (entI x))) (.agg (bkC (entI x)))).run Try.prog W = .ok (.bool false) W) := Lib.hid (fun W => by rw [neq_ent W hx8 hx8, decide_eq_true rfl]; rfl)
        have hLE : Hid (∀ X, Below wr.heap.size wr X → (loadVar 34 ⟨g, og + j * 9, none⟩).run Try.prog X = .ok (.agg (bkC (entI x))) X) := Lib.hid (fun X hX => (hl0 X (bnext BB.out hX)).1)
        clear hl0 hx8
        generalize bkC (entI x) = E at *
        go_wp2
        try simp only [List.append_eq, List.cons_append, List.nil_append]
        refine wp_region_saysK 48 (fun x y => Below x.heap.size x y) (fun _ _ _ h k => bnext h k) wr (below_drew1 wr) (by kernel_rfl) (by kernel_rfl) (by kernel_rfl) (by kernel_rfl) (by rfl) ?_
        simp only [List.take_succ_cons, List.take_zero, List.drop_succ_cons, List.drop_zero]
        refine walkK_is ?_ (by first | exact gs0 rfl | exact gs1 rfl rfl rfl) (fun _ => Below.refl _ _) (fun u X hX hd => ?_) ?_
        rotate_left
        · obtain ⟨q8, qk⟩ := hQ'.out X hX
          try simp at hd
          go_simp
          try rfl
        apply walkK_norm
        · first | (simp only [List.nil_append]; rfl) | simp only [List.nil_append]
        refine walkK_is ?_ (by first | exact gs0 rfl | exact gs1 rfl rfl rfl) (fun _ => Below.refl _ _) (fun u X hX hd => ?_) ?_
        rotate_left
        · obtain ⟨q8, qk⟩ := hQ'.out X hX
          try simp at hd
          go_simp
          try rfl
        apply walkK_norm
        · first | (simp only [List.nil_append, List.cons_append]; rfl) | simp only [List.nil_append, List.cons_append]
        refine walkK_is ?_ (by first | exact gs0 rfl | exact gs1 rfl rfl rfl) (fun _ => Below.refl _ _) (fun u X hX hd => ?_) ?_
        rotate_left
        · obtain ⟨q8, qk⟩ := hQ'.out X hX
          try simp at hd
          go_simp
          try rfl
        apply walkK_norm
        · first | (simp only [List.nil_append, List.cons_append]; rfl) | simp only [List.nil_append, List.cons_append]
        refine walkK_is ?_ (by first | exact gs0 rfl | exact gs1 rfl rfl rfl) (fun _ => Below.refl _ _) (fun u X hX hd => ?_) ?_
        rotate_left
        · obtain ⟨q8, qk⟩ := hQ'.out X hX
          try simp at hd
          go_simp
          try rfl
        apply walkK_norm
        · first | (simp only [List.nil_append, List.cons_append]; rfl) | simp only [List.nil_append, List.cons_append]
        refine walkK_is ?_ (by first | exact gs0 rfl | exact gs1 rfl rfl rfl) (fun _ => Below.refl _ _) (fun u X hX hd => ?_) ?_
        rotate_left
        · obtain ⟨q8, qk⟩ := hQ'.out X hX
          try simp at hd
          go_simp
          try rfl
        apply walkK_norm
        · first | (simp only [List.nil_append, List.cons_append]; rfl) | simp only [List.nil_append, List.cons_append]
        refine walkK_is (.bool false) (by first | exact gs0 rfl | exact gs1 rfl rfl rfl) (fun _ => Below.refl _ _) (fun u X hX hd => ?_) ?_
        · obtain ⟨q8, qk⟩ := hQ'.out X hX
          try simp at hd
          go_simp
          try rfl
        apply walkK_norm
        · first | (simp only [List.nil_append, List.cons_append]; rfl) | simp only [List.nil_append, List.cons_append]
        refine walkK_is (.bool false) (by first | exact gs0 rfl | exact gs1 rfl rfl rfl) (fun _ => Below.refl _ _) (fun u X hX hd => ?_) ?_
        · obtain ⟨q8, qk⟩ := hQ'.out X hX
          try simp at hd
          go_simp
          try rfl
        apply walkK_norm
        · first | (simp only [List.nil_append, List.cons_append]; rfl) | simp only [List.nil_append, List.cons_append]
        refine walkK_is ?_ (by first | exact gs0 rfl | exact gs1 rfl rfl rfl) (fun _ => Below.refl _ _) (fun u X hX hd => ?_) ?_
        rotate_left
        · obtain ⟨q8, qk⟩ := hQ'.out X hX
          try simp at hd
          go_simp
          try rfl
        apply walkK_norm
        · first | (simp only [List.nil_append, List.cons_append]; rfl) | simp only [List.nil_append, List.cons_append]
        refine walkK_is ?_ (by first | exact gs0 rfl | exact gs1 rfl rfl rfl) (fun _ => Below.refl _ _) (fun u X hX hd => ?_) ?_
        rotate_left
        · obtain ⟨q8, qk⟩ := hQ'.out X hX
          try simp at hd
          go_simp
          try rfl
        apply walkK_norm
        · first | (simp only [List.nil_append, List.cons_append]; rfl) | simp only [List.nil_append, List.cons_append]
        refine walkK_is ?_ (by first | exact gs0 rfl | exact gs1 rfl rfl rfl) (fun _ => Below.refl _ _) (fun u X hX hd => ?_) ?_
        rotate_left
        · obtain ⟨q8, qk⟩ := hQ'.out X hX
          try simp at hd
          go_simp
          try rfl
        apply walkK_norm
        · first | (simp only [List.nil_append, List.cons_append]; rfl) | simp only [List.nil_append, List.cons_append]
        refine walkK_is ?_ (by first | exact gs0 rfl | exact gs1 rfl rfl rfl) (fun _ => Below.refl _ _) (fun u X hX hd => ?_) ?_
        rotate_left
        · obtain ⟨q8, qk⟩ := hQ'.out X hX
          try simp at hd
          go_simp
          try rfl
        apply walkK_norm
        · first | (simp only [List.nil_append, List.cons_append]; rfl) | simp only [List.nil_append, List.cons_append]
        refine walkK_is ?_ (by first | exact gs0 rfl | exact gs1 rfl rfl rfl) (fun _ => Below.refl _ _) (fun u X hX hd => ?_) ?_
        rotate_left
        · obtain ⟨q8, qk⟩ := hQ'.out X hX
          try simp at hd
          go_simp
          try rfl
        apply walkK_norm
        · first | (simp only [List.nil_append, List.cons_append]; rfl) | simp only [List.nil_append, List.cons_append]
        refine walkK_is ?_ (by first | exact gs0 rfl | exact gs1 rfl rfl rfl) (fun _ => Below.refl _ _) (fun u X hX hd => ?_) ?_
        rotate_left
        · obtain ⟨q8, qk⟩ := hQ'.out X hX
          try simp at hd
          go_simp
          try rfl
        apply walkK_norm
        · first | (simp only [List.nil_append, List.cons_append]; rfl) | simp only [List.nil_append, List.cons_append]
        refine walkK_is ?_ (by first | exact gs0 rfl | exact gs1 rfl rfl rfl) (fun _ => Below.refl _ _) (fun u X hX hd => ?_) ?_
        rotate_left
        · obtain ⟨q8, qk⟩ := hQ'.out X hX
          try simp at hd
          go_simp
          try rfl
        apply walkK_norm
        · first | (simp only [List.nil_append, List.cons_append]; rfl) | simp only [List.nil_append, List.cons_append]
        refine walkK_is (.bool true) (by first | exact gs0 rfl | exact gs1 rfl rfl rfl) (fun _ => Below.refl _ _) (fun u X hX hd => ?_) ?_
        · obtain ⟨q8, qk⟩ := hQ'.out X hX
          try simp at hd
          go_simp
          try rfl
        apply walkK_norm
        · first | (simp only [List.nil_append, List.cons_append]; rfl) | simp only [List.nil_append, List.cons_append]
        refine walkK_is (.bool false) (by first | exact gs0 rfl | exact gs1 rfl rfl rfl) (fun _ => Below.refl _ _) (fun u X hX hd => ?_) ?_
        · obtain ⟨q8, qk⟩ := hQ'.out X hX
          try simp at hd
          go_simp
          try rfl
        apply walkK_norm
        · first | (simp only [List.nil_append, List.cons_append]; rfl) | simp only [List.nil_append, List.cons_append]
        refine walkK_is (.bool false) (by first | exact gs0 rfl | exact gs1 rfl rfl rfl) (fun _ => Below.refl _ _) (fun u X hX hd => ?_) ?_
        · obtain ⟨q8, qk⟩ := hQ'.out X hX
          try simp at hd
          go_simp
          try rfl
        apply walkK_norm
        · first | (simp only [List.nil_append, List.cons_append]; rfl) | simp only [List.nil_append, List.cons_append]
        refine walkK_is (.bool false) (by first | exact gs0 rfl | exact gs1 rfl rfl rfl) (fun _ => Below.refl _ _) (fun u X hX hd => ?_) ?_
        · obtain ⟨q8, qk⟩ := hQ'.out X hX
          try simp at hd
          go_simp
          try rfl
        apply walkK_norm
        · first | (simp only [List.nil_append, List.cons_append]; rfl) | simp only [List.nil_append, List.cons_append]
        refine walkK_is ?_ (by first | exact gs0 rfl | exact gs1 rfl rfl rfl) (fun _ => Below.refl _ _) (fun u X hX hd => ?_) ?_
        rotate_left
        · obtain ⟨q8, qk⟩ := hQ'.out X hX
          try simp at hd
          go_simp
          try rfl
        apply walkK_norm
        · first | (simp only [List.nil_append, List.cons_append]; rfl) | simp only [List.nil_append, List.cons_append]
        refine walkK_is ?_ (by first | exact gs0 rfl | exact gs1 rfl rfl rfl) (fun _ => Below.refl _ _) (fun u X hX hd => ?_) ?_
        rotate_left
        · obtain ⟨q8, qk⟩ := hQ'.out X hX
          try simp at hd
          go_simp
          try rfl
        apply walkK_norm
        · first | (simp only [List.nil_append, List.cons_append]; rfl) | simp only [List.nil_append, List.cons_append]
        refine walkK_is (.bool true) (by first | exact gs0 rfl | exact gs1 rfl rfl rfl) (fun _ => Below.refl _ _) (fun u X hX hd => ?_) ?_
        · obtain ⟨q8, qk⟩ := hQ'.out X hX
          try simp at hd
          go_simp
          try rfl
        apply walkK_norm
        · first | (simp only [List.nil_append, List.cons_append]; rfl) | simp only [List.nil_append, List.cons_append]
        refine walkK_is (.bool true) (by first | exact gs0 rfl | exact gs1 rfl rfl rfl) (fun _ => Below.refl _ _) (fun u X hX hd => ?_) ?_
        · obtain ⟨q8, qk⟩ := hQ'.out X hX
          try simp at hd
          go_simp
          try rfl
        apply walkK_norm
        · first | (simp only [List.nil_append, List.cons_append]; rfl) | simp only [List.nil_append, List.cons_append]
        refine walkK_is (.agg (mkC true 0 0 0 0 0 0 (.slice oA3 ln oc3) (.slice (some ⟨gk, 0, none⟩) ln kc3))) (by first | exact gs0 rfl | exact gs1 rfl rfl rfl) (fun _ => Below.refl _ _) (fun u X hX hd => ?_) ?_
        · have hl := hMk.out X hX
          try simp at hd
          refine op_load_at 25 w3.heap.size 0 hl _ rfl ?_
          go_simp
        apply walkK_norm
        · first | (simp only [List.nil_append, List.cons_append]; rfl) | simp only [List.nil_append, List.cons_append]
        refine walkK_is ?_ (by first | exact gs0 rfl | exact gs1 rfl rfl rfl) (fun _ => Below.refl _ _) (fun u X hX hd => ?_) ?_
        rotate_left
        · obtain ⟨q8, qk⟩ := hQ'.out X hX
          try simp at hd
          go_simp
          try rfl
        apply walkK_norm
        · first | (simp only [List.nil_append, List.cons_append]; rfl) | simp only [List.nil_append, List.cons_append]
        refine walkK_is ?_ (by first | exact gs0 rfl | exact gs1 rfl rfl rfl) (fun _ => Below.refl _ _) (fun u X hX hd => ?_) ?_
        rotate_left
        · obtain ⟨q8, qk⟩ := hQ'.out X hX
          try simp at hd
          go_simp
          try rfl
        apply walkK_norm
        · first | (simp only [List.nil_append, List.cons_append]; rfl) | simp only [List.nil_append, List.cons_append]
        refine walkK_call (isV (.agg E)) 13 ?_ (by first | exact gs0 rfl | exact gs1 rfl rfl rfl) (fun _ _ _ _ h => h) (fun u X hX hd => ?_) (fun X hX => ?_) ?_
        rotate_left
        · obtain ⟨q8, qk⟩ := hQ'.out X hX
          try simp at hd
          go_simp
          try rfl
        · exact (sj'.out X hX).mono fun e X' ⟨he, hb⟩ => ⟨_, he, hb, rfl⟩
        apply walkK_norm
        · first | (simp only [List.nil_append, List.cons_append]; rfl) | simp only [List.nil_append, List.cons_append]
        refine walkK_is ?_ (by first | exact gs0 rfl | exact gs1 rfl rfl rfl) (fun _ => Below.refl _ _) (fun u X hX hd => ?_) ?_
        rotate_left
        · obtain ⟨q8, qk⟩ := hQ'.out X hX
          try simp at hd
          go_simp
          try rfl
        apply walkK_norm
        · first | (simp only [List.nil_append, List.cons_append]; rfl) | simp only [List.nil_append, List.cons_append]
        refine walkK_is ?_ (by first | exact gs0 rfl | exact gs1 rfl rfl rfl) (fun _ => Below.refl _ _) (fun u X hX hd => ?_) ?_
        rotate_left
        · obtain ⟨q8, qk⟩ := hQ'.out X hX
          try simp at hd
          go_simp
          try rfl
        apply walkK_norm
        · first | (simp only [List.nil_append, List.cons_append]; rfl) | simp only [List.nil_append, List.cons_append]
        refine walkK_is ?_ (by first | exact gs0 rfl | exact gs1 rfl rfl rfl) (fun _ => Below.refl _ _) (fun u X hX hd => ?_) ?_
        rotate_left
        · obtain ⟨q8, qk⟩ := hQ'.out X hX
          try simp at hd
          go_simp
          try rfl
        apply walkK_norm
        · first | (simp only [List.nil_append, List.cons_append]; rfl) | simp only [List.nil_append, List.cons_append]
        refine walkK_is (.agg (E)) (by first | exact gs0 rfl | exact gs1 rfl rfl rfl) (fun _ => Below.refl _ _) (fun u X hX hd => ?_) ?_
        · have hl := hLE.out X hX
          try simp at hd
          refine op_load_at 34 (g) (og + j * 9) hl _ rfl ?_
          go_simp
        apply walkK_norm
        · first | (simp only [List.nil_append, List.cons_append]; rfl) | simp only [List.nil_append, List.cons_append]
        refine walkK_is (.bool false) (by first | exact gs0 rfl | exact gs1 rfl rfl rfl) (fun _ => Below.refl _ _) (fun u X hX hd => ?_) ?_
        · try simp at hd
          exact op_eqop_at .neq (.inr rfl) 34 false eqGuardEnt (EQ.out X) _ _ _ rfl (by simp [look, findAt, hd]) (by simp [look, findAt, hd])
        apply walkK_norm
        · first | (simp only [List.nil_append, List.cons_append]; rfl) | simp only [List.nil_append, List.cons_append]
        refine walkK_is (.bool false) (by first | exact gs0 rfl | exact gs1 rfl rfl rfl) (fun _ => Below.refl _ _) (fun u X hX hd => ?_) ?_
        · obtain ⟨q8, qk⟩ := hQ'.out X hX
          try simp at hd
          go_simp
          try rfl
        apply walkK_norm
        · first | (simp only [List.nil_append, List.cons_append]; rfl) | simp only [List.nil_append, List.cons_append]
        refine walkK_is (.bool false) (by first | exact gs0 rfl | exact gs1 rfl rfl rfl) (fun _ => Below.refl _ _) (fun u X hX hd => ?_) ?_
        · obtain ⟨q8, qk⟩ := hQ'.out X hX
          try simp at hd
          go_simp
          try rfl
        apply walkK_norm
        · first | (simp only [List.nil_append, List.cons_append]; rfl) | simp only [List.nil_append, List.cons_append]
        refine walkK_is (.bool false) (by first | exact gs0 rfl | exact gs1 rfl rfl rfl) (fun _ => Below.refl _ _) (fun u X hX hd => ?_) ?_
        · obtain ⟨q8, qk⟩ := hQ'.out X hX
          try simp at hd
          go_simp
          try rfl
        apply walkK_norm
        · first | (simp only [List.nil_append, List.cons_append]; rfl) | simp only [List.nil_append, List.cons_append]
        refine walkK_is ?_ (by first | exact gs0 rfl | exact gs1 rfl rfl rfl) (fun _ => Below.refl _ _) (fun u X hX hd => ?_) ?_
        rotate_left
        · obtain ⟨q8, qk⟩ := hQ'.out X hX
          try simp at hd
          go_simp
          try rfl
        apply walkK_norm
        · first | (simp only [List.nil_append, List.cons_append]; rfl) | simp only [List.nil_append, List.cons_append]
        refine walkK_is ?_ (by first | exact gs0 rfl | exact gs1 rfl rfl rfl) (fun _ => Below.refl _ _) (fun u X hX hd => ?_) ?_
        rotate_left
        · obtain ⟨q8, qk⟩ := hQ'.out X hX
          try simp at hd
          go_simp
          try rfl
        apply walkK_norm
        · first | (simp only [List.nil_append, List.cons_append]; rfl) | simp only [List.nil_append, List.cons_append]
        refine walkK_is (.bool false) (by first | exact gs0 rfl | exact gs1 rfl rfl rfl) (fun _ => Below.refl _ _) (fun u X hX hd => ?_) ?_
        · obtain ⟨q8, qk⟩ := hQ'.out X hX
          try simp at hd
          go_simp
          try rfl
        apply walkK_norm
        · first | (simp only [List.nil_append, List.cons_append]; rfl) | simp only [List.nil_append, List.cons_append]
        refine walkK_is (.bool false) (by first | exact gs0 rfl | exact gs1 rfl rfl rfl) (fun _ => Below.refl _ _) (fun u X hX hd => ?_) ?_
        · obtain ⟨q8, qk⟩ := hQ'.out X hX
          try simp at hd
          go_simp
          try rfl
        apply walkK_norm
        · first | (simp only [List.nil_append, List.cons_append]; rfl) | simp only [List.nil_append, List.cons_append]
        refine walkK_skip (st1 rfl rfl (by simp)) ?_
        apply walkK_norm
        · first | (simp only [List.nil_append, List.cons_append]; rfl) | simp only [List.nil_append, List.cons_append]
        refine walkK_skip (st1 rfl rfl (by simp)) ?_
        apply walkK_norm
        · first | (simp only [List.nil_append, List.cons_append]; rfl) | simp only [List.nil_append, List.cons_append]
        refine walkK_skip (st1 rfl rfl (by simp)) ?_
        apply walkK_norm
        · first | (simp only [List.nil_append, List.cons_append]; rfl) | simp only [List.nil_append, List.cons_append]
        refine walkK_skip (st1 rfl rfl (by simp)) ?_
        apply walkK_norm
        · first | (simp only [List.nil_append, List.cons_append]; rfl) | simp only [List.nil_append, List.cons_append]
        refine walkK_skip (st1 rfl rfl (by simp)) ?_
        apply walkK_norm
        · first | (simp only [List.nil_append, List.cons_append]; rfl) | simp only [List.nil_append, List.cons_append]
        refine walkK_skip (st1 rfl rfl (by simp)) ?_
        apply walkK_norm
        · first | (simp only [List.nil_append, List.cons_append]; rfl) | simp only [List.nil_append, List.cons_append]
        refine walkK_skip (st1 rfl rfl (by simp)) ?_
        apply walkK_norm
        · first | (simp only [List.nil_append, List.cons_append]; rfl) | simp only [List.nil_append, List.cons_append]
        refine walkK_skip (st1 rfl rfl (by simp)) ?_
        apply walkK_norm
        · first | (simp only [List.nil_append, List.cons_append]; rfl) | simp only [List.nil_append, List.cons_append]
        refine walkK_skip (st1 rfl rfl (by simp)) ?_
        apply walkK_norm
        · first | (simp only [List.nil_append, List.cons_append]; rfl) | simp only [List.nil_append, List.cons_append]
        refine walkK_is (.bool false) (by first | exact gs0 rfl | exact gs1 rfl rfl rfl) (fun _ => Below.refl _ _) (fun u X hX hd => ?_) ?_
        · obtain ⟨q8, qk⟩ := hQ'.out X hX
          try simp at hd
          go_simp
          try rfl
        apply walkK_norm
        · first | (simp only [List.nil_append, List.cons_append]; rfl) | simp only [List.nil_append, List.cons_append]
        intro u X hX hsay
        simp only [sayAll, isV] at hsay
        obtain ⟨-, -, -, -, -, -, -, -, -, -, -, -, -, -, -, -, -, -, -, -, -, -, -, -, -, -, -, -, -, -, -, -, -, v33, -, -, -, -, -, -, -, -, -, -, -, -, -, v47, -⟩ := hsay
        simp only [putAll, Act.put, v33, v47, List.setIfInBounds_toArray, List.set_cons_succ, List.set_cons_zero]
        go_wp2
        go_roundw
        case rel => exact ⟨j + 1, by omega, by go_num, Lib.hid (bnext HB.out hX)⟩
        case measure => simp [intOf]; omega
      · have hxe : (if j = k then l[j]?.getD entZ else n[j]?.getD entZ) = n[j]?.getD entZ := if_neg hjk
        have sj' : Hid (∀ (W : World), Below wr.heap.size wr W → Calls Try.prog 13 #[.agg (mkC true 0 0 0 0 0 0 (.slice oA3 ln oc3) (.slice (some ⟨gk, 0, none⟩) ln kc3)), .slice nA ln nc, .int .i64 (j : Int)] W fun e w' => e = .returned (.agg (bkC (entI (n[j]?.getD entZ)))) ∧ Below W.heap.size W w') := Lib.hid (fun W hW => by have := sj.out W hW; rwa [hxe] at this)
        have hQ' : Hid (∀ X, Below wr.heap.size wr X → X.cell? ⟨w3.heap.size, 8, none⟩ = some (.slice (some ⟨gk, 0, none⟩) ln kc3) ∧ X.cell? ⟨gk, j, none⟩ = some (.bool false)) := Lib.hid (fun X hX => by have := hQ.out X hX; rwa [decide_eq_false hjk] at this)
        clear sj hQ hxe
        obtain ⟨g, og, rfl, hg, hl0⟩ := HN.out.load H8N.out (i := j) (by rw [HNN.out]; exact hlt)
        have hx8 := H8N.out.at j
        have q1 : ((j : Int) == (k : Int)) = false := by simp; omega
        have q2 : ((j : Int) != (k : Int)) = true := by simp; omega
        have q3 : (j == k) = false := by simpa using hjk
        generalize n[j]?.getD entZ = x at *
        have EQ : Hid (∀ W : World, (binOp .neq 34 (.agg (bkC (entI x))) (.agg (bkC (entI x)))).run Try.prog W = .ok (.bool false) W) := Lib.hid (fun W => by rw [neq_ent W hx8 hx8, decide_eq_true rfl]; rfl)
        have hLE : Hid (∀ X, Below wr.heap.size wr X → (loadVar 34 ⟨g, og + j * 9, none⟩).run Try.prog X = .ok (.agg (bkC (entI x))) X) := Lib.hid (fun X hX => (hl0 X (bnext BB.out hX)).1)
        clear hl0 hx8
        generalize bkC (entI x) = E at *
        go_wp2
        try simp only [List.append_eq, List.cons_append, List.nil_append]
        refine wp_region_saysK 48 (fun x y => Below x.heap.size x y) (fun _ _ _ h k => bnext h k) wr (below_drew1 wr) (by kernel_rfl) (by kernel_rfl) (by kernel_rfl) (by kernel_rfl) (by rfl) ?_
        simp only [List.take_succ_cons, List.take_zero, List.drop_succ_cons, List.drop_zero]
        refine walkK_is ?_ (by first | exact gs0 rfl | exact gs1 rfl rfl rfl) (fun _ => Below.refl _ _) (fun u X hX hd => ?_) ?_
        rotate_left
        · obtain ⟨q8, qk⟩ := hQ'.out X hX
          try simp at hd
          go_simp
          try rfl
        apply walkK_norm
        · first | (simp only [List.nil_append]; rfl) | simp only [List.nil_append]
        refine walkK_is ?_ (by first | exact gs0 rfl | exact gs1 rfl rfl rfl) (fun _ => Below.refl _ _) (fun u X hX hd => ?_) ?_
        rotate_left
        · obtain ⟨q8, qk⟩ := hQ'.out X hX
          try simp at hd
          go_simp
          try rfl
        apply walkK_norm
        · first | (simp only [List.nil_append, List.cons_append]; rfl) | simp only [List.nil_append, List.cons_append]
        refine walkK_is ?_ (by first | exact gs0 rfl | exact gs1 rfl rfl rfl) (fun _ => Below.refl _ _) (fun u X hX hd => ?_) ?_
        rotate_left
        · obtain ⟨q8, qk⟩ := hQ'.out X hX
          try simp at hd
          go_simp
          try rfl
        apply walkK_norm
        · first | (simp only [List.nil_append, List.cons_append]; rfl) | simp only [List.nil_append, List.cons_append]
        refine walkK_is ?_ (by first | exact gs0 rfl | exact gs1 rfl rfl rfl) (fun _ => Below.refl _ _) (fun u X hX hd => ?_) ?_
        rotate_left
        · obtain ⟨q8, qk⟩ := hQ'.out X hX
          try simp at hd
          go_simp
          try rfl
        apply walkK_norm
        · first | (simp only [List.nil_append, List.cons_append]; rfl) | simp only [List.nil_append, List.cons_append]
        refine walkK_is ?_ (by first | exact gs0 rfl | exact gs1 rfl rfl rfl) (fun _ => Below.refl _ _) (fun u X hX hd => ?_) ?_
        rotate_left
        · obtain ⟨q8, qk⟩ := hQ'.out X hX
          try simp at hd
          go_simp
          try rfl
        apply walkK_norm
        · first | (simp only [List.nil_append, List.cons_append]; rfl) | simp only [List.nil_append, List.cons_append]
        refine walkK_is (.bool false) (by first | exact gs0 rfl | exact gs1 rfl rfl rfl) (fun _ => Below.refl _ _) (fun u X hX hd => ?_) ?_
        · obtain ⟨q8, qk⟩ := hQ'.out X hX
          try simp at hd
          go_simp
          try rfl
        apply walkK_norm
        · first | (simp only [List.nil_append, List.cons_append]; rfl) | simp only [List.nil_append, List.cons_append]
        refine walkK_is (.bool false) (by first | exact gs0 rfl | exact gs1 rfl rfl rfl) (fun _ => Below.refl _ _) (fun u X hX hd => ?_) ?_
        · obtain ⟨q8, qk⟩ := hQ'.out X hX
          try simp at hd
          go_simp
          try rfl
        apply walkK_norm
        · first | (simp only [List.nil_append, List.cons_append]; rfl) | simp only [List.nil_append, List.cons_append]
        refine walkK_is ?_ (by first | exact gs0 rfl | exact gs1 rfl rfl rfl) (fun _ => Below.refl _ _) (fun u X hX hd => ?_) ?_
        rotate_left
        · obtain ⟨q8, qk⟩ := hQ'.out X hX
          try simp at hd
          go_simp
          try rfl
        apply walkK_norm
        · first | (simp only [List.nil_append, List.cons_append]; rfl) | simp only [List.nil_append, List.cons_append]
        refine walkK_is ?_ (by first | exact gs0 rfl | exact gs1 rfl rfl rfl) (fun _ => Below.refl _ _) (fun u X hX hd => ?_) ?_
        rotate_left
        · obtain ⟨q8, qk⟩ := hQ'.out X hX
          try simp at hd
          go_simp
          try rfl
        apply walkK_norm
        · first | (simp only [List.nil_append, List.cons_append]; rfl) | simp only [List.nil_append, List.cons_append]
        refine walkK_is ?_ (by first | exact gs0 rfl | exact gs1 rfl rfl rfl) (fun _ => Below.refl _ _) (fun u X hX hd => ?_) ?_
        rotate_left
        · obtain ⟨q8, qk⟩ := hQ'.out X hX
          try simp at hd
          go_simp
          try rfl
        apply walkK_norm
        · first | (simp only [List.nil_append, List.cons_append]; rfl) | simp only [List.nil_append, List.cons_append]
        refine walkK_is ?_ (by first | exact gs0 rfl | exact gs1 rfl rfl rfl) (fun _ => Below.refl _ _) (fun u X hX hd => ?_) ?_
        rotate_left
        · obtain ⟨q8, qk⟩ := hQ'.out X hX
          try simp at hd
          go_simp
          try rfl
        apply walkK_norm
        · first | (simp only [List.nil_append, List.cons_append]; rfl) | simp only [List.nil_append, List.cons_append]
        refine walkK_is ?_ (by first | exact gs0 rfl | exact gs1 rfl rfl rfl) (fun _ => Below.refl _ _) (fun u X hX hd => ?_) ?_
        rotate_left
        · obtain ⟨q8, qk⟩ := hQ'.out X hX
          try simp at hd
          go_simp
          try rfl
        apply walkK_norm
        · first | (simp only [List.nil_append, List.cons_append]; rfl) | simp only [List.nil_append, List.cons_append]
        refine walkK_is ?_ (by first | exact gs0 rfl | exact gs1 rfl rfl rfl) (fun _ => Below.refl _ _) (fun u X hX hd => ?_) ?_
        rotate_left
        · obtain ⟨q8, qk⟩ := hQ'.out X hX
          try simp at hd
          go_simp
          try rfl
        apply walkK_norm
        · first | (simp only [List.nil_append, List.cons_append]; rfl) | simp only [List.nil_append, List.cons_append]
        refine walkK_is ?_ (by first | exact gs0 rfl | exact gs1 rfl rfl rfl) (fun _ => Below.refl _ _) (fun u X hX hd => ?_) ?_
        rotate_left
        · obtain ⟨q8, qk⟩ := hQ'.out X hX
          try simp at hd
          go_simp
          try rfl
        apply walkK_norm
        · first | (simp only [List.nil_append, List.cons_append]; rfl) | simp only [List.nil_append, List.cons_append]
        refine walkK_is (.bool false) (by first | exact gs0 rfl | exact gs1 rfl rfl rfl) (fun _ => Below.refl _ _) (fun u X hX hd => ?_) ?_
        · obtain ⟨q8, qk⟩ := hQ'.out X hX
          try simp at hd
          go_simp
          try rfl
        apply walkK_norm
        · first | (simp only [List.nil_append, List.cons_append]; rfl) | simp only [List.nil_append, List.cons_append]
        refine walkK_is (.bool false) (by first | exact gs0 rfl | exact gs1 rfl rfl rfl) (fun _ => Below.refl _ _) (fun u X hX hd => ?_) ?_
        · obtain ⟨q8, qk⟩ := hQ'.out X hX
          try simp at hd
          go_simp
          try rfl
        apply walkK_norm
        · first | (simp only [List.nil_append, List.cons_append]; rfl) | simp only [List.nil_append, List.cons_append]
        refine walkK_is (.bool false) (by first | exact gs0 rfl | exact gs1 rfl rfl rfl) (fun _ => Below.refl _ _) (fun u X hX hd => ?_) ?_
        · obtain ⟨q8, qk⟩ := hQ'.out X hX
          try simp at hd
          go_simp
          try rfl
        apply walkK_norm
        · first | (simp only [List.nil_append, List.cons_append]; rfl) | simp only [List.nil_append, List.cons_append]
        refine walkK_is (.bool false) (by first | exact gs0 rfl | exact gs1 rfl rfl rfl) (fun _ => Below.refl _ _) (fun u X hX hd => ?_) ?_
        · obtain ⟨q8, qk⟩ := hQ'.out X hX
          try simp at hd
          go_simp
          try rfl
        apply walkK_norm
        · first | (simp only [List.nil_append, List.cons_append]; rfl) | simp only [List.nil_append, List.cons_append]
        refine walkK_is ?_ (by first | exact gs0 rfl | exact gs1 rfl rfl rfl) (fun _ => Below.refl _ _) (fun u X hX hd => ?_) ?_
        rotate_left
        · obtain ⟨q8, qk⟩ := hQ'.out X hX
          try simp at hd
          go_simp
          try rfl
        apply walkK_norm
        · first | (simp only [List.nil_append, List.cons_append]; rfl) | simp only [List.nil_append, List.cons_append]
        refine walkK_is ?_ (by first | exact gs0 rfl | exact gs1 rfl rfl rfl) (fun _ => Below.refl _ _) (fun u X hX hd => ?_) ?_
        rotate_left
        · obtain ⟨q8, qk⟩ := hQ'.out X hX
          try simp at hd
          go_simp
          try rfl
        apply walkK_norm
        · first | (simp only [List.nil_append, List.cons_append]; rfl) | simp only [List.nil_append, List.cons_append]
        refine walkK_is (.bool false) (by first | exact gs0 rfl | exact gs1 rfl rfl rfl) (fun _ => Below.refl _ _) (fun u X hX hd => ?_) ?_
        · obtain ⟨q8, qk⟩ := hQ'.out X hX
          try simp at hd
          go_simp
          try rfl
        apply walkK_norm
        · first | (simp only [List.nil_append, List.cons_append]; rfl) | simp only [List.nil_append, List.cons_append]
        refine walkK_is (.bool false) (by first | exact gs0 rfl | exact gs1 rfl rfl rfl) (fun _ => Below.refl _ _) (fun u X hX hd => ?_) ?_
        · obtain ⟨q8, qk⟩ := hQ'.out X hX
          try simp at hd
          go_simp
          try rfl
        apply walkK_norm
        · first | (simp only [List.nil_append, List.cons_append]; rfl) | simp only [List.nil_append, List.cons_append]
        refine walkK_skip (st1 rfl rfl (by simp)) ?_
        apply walkK_norm
        · first | (simp only [List.nil_append, List.cons_append]; rfl) | simp only [List.nil_append, List.cons_append]
        refine walkK_skip (st1 rfl rfl (by simp)) ?_
        apply walkK_norm
        · first | (simp only [List.nil_append, List.cons_append]; rfl) | simp only [List.nil_append, List.cons_append]
        refine walkK_skip (st1 rfl rfl (by simp)) ?_
        apply walkK_norm
        · first | (simp only [List.nil_append, List.cons_append]; rfl) | simp only [List.nil_append, List.cons_append]
        refine walkK_skip (st1 rfl rfl (by simp)) ?_
        apply walkK_norm
        · first | (simp only [List.nil_append, List.cons_append]; rfl) | simp only [List.nil_append, List.cons_append]
        refine walkK_skip (st1 rfl rfl (by simp)) ?_
        apply walkK_norm
        · first | (simp only [List.nil_append, List.cons_append]; rfl) | simp only [List.nil_append, List.cons_append]
        refine walkK_skip (st1 rfl rfl (by simp)) ?_
        apply walkK_norm
        · first | (simp only [List.nil_append, List.cons_append]; rfl) | simp only [List.nil_append, List.cons_append]
        refine walkK_skip (st1 rfl rfl (by simp)) ?_
        apply walkK_norm
        · first | (simp only [List.nil_append, List.cons_append]; rfl) | simp only [List.nil_append, List.cons_append]
        refine walkK_skip (st1 rfl rfl (by simp)) ?_
        apply walkK_norm
        · first | (simp only [List.nil_append, List.cons_append]; rfl) | simp only [List.nil_append, List.cons_append]
        refine walkK_skip (st1 rfl rfl (by simp)) ?_
        apply walkK_norm
        · first | (simp only [List.nil_append, List.cons_append]; rfl) | simp only [List.nil_append, List.cons_append]
        refine walkK_is (.bool false) (by first | exact gs0 rfl | exact gs1 rfl rfl rfl) (fun _ => Below.refl _ _) (fun u X hX hd => ?_) ?_
        · obtain ⟨q8, qk⟩ := hQ'.out X hX
          try simp at hd
          go_simp
          try rfl
        apply walkK_norm
        · first | (simp only [List.nil_append, List.cons_append]; rfl) | simp only [List.nil_append, List.cons_append]
        refine walkK_is (.bool false) (by first | exact gs0 rfl | exact gs1 rfl rfl rfl) (fun _ => Below.refl _ _) (fun u X hX hd => ?_) ?_
        · obtain ⟨q8, qk⟩ := hQ'.out X hX
          try simp at hd
          go_simp
          try rfl
        apply walkK_norm
        · first | (simp only [List.nil_append, List.cons_append]; rfl) | simp only [List.nil_append, List.cons_append]
        refine walkK_is (.bool false) (by first | exact gs0 rfl | exact gs1 rfl rfl rfl) (fun _ => Below.refl _ _) (fun u X hX hd => ?_) ?_
        · obtain ⟨q8, qk⟩ := hQ'.out X hX
          try simp at hd
          go_simp
          try rfl
        apply walkK_norm
        · first | (simp only [List.nil_append, List.cons_append]; rfl) | simp only [List.nil_append, List.cons_append]
        refine walkK_is ?_ (by first | exact gs0 rfl | exact gs1 rfl rfl rfl) (fun _ => Below.refl _ _) (fun u X hX hd => ?_) ?_
        rotate_left
        · obtain ⟨q8, qk⟩ := hQ'.out X hX
          try simp at hd
          go_simp
          try rfl
        apply walkK_norm
        · first | (simp only [List.nil_append, List.cons_append]; rfl) | simp only [List.nil_append, List.cons_append]
        refine walkK_is ?_ (by first | exact gs0 rfl | exact gs1 rfl rfl rfl) (fun _ => Below.refl _ _) (fun u X hX hd => ?_) ?_
        rotate_left
        · obtain ⟨q8, qk⟩ := hQ'.out X hX
          try simp at hd
          go_simp
          try rfl
        apply walkK_norm
        · first | (simp only [List.nil_append, List.cons_append]; rfl) | simp only [List.nil_append, List.cons_append]
        refine walkK_is (.bool true) (by first | exact gs0 rfl | exact gs1 rfl rfl rfl) (fun _ => Below.refl _ _) (fun u X hX hd => ?_) ?_
        · obtain ⟨q8, qk⟩ := hQ'.out X hX
          try simp at hd
          go_simp
          try rfl
        apply walkK_norm
        · first | (simp only [List.nil_append, List.cons_append]; rfl) | simp only [List.nil_append, List.cons_append]
        refine walkK_is (.bool true) (by first | exact gs0 rfl | exact gs1 rfl rfl rfl) (fun _ => Below.refl _ _) (fun u X hX hd => ?_) ?_
        · obtain ⟨q8, qk⟩ := hQ'.out X hX
          try simp at hd
          go_simp
          try rfl
        apply walkK_norm
        · first | (simp only [List.nil_append, List.cons_append]; rfl) | simp only [List.nil_append, List.cons_append]
        refine walkK_is (.agg (mkC true 0 0 0 0 0 0 (.slice oA3 ln oc3) (.slice (some ⟨gk, 0, none⟩) ln kc3))) (by first | exact gs0 rfl | exact gs1 rfl rfl rfl) (fun _ => Below.refl _ _) (fun u X hX hd => ?_) ?_
        · have hl := hMk.out X hX
          try simp at hd
          refine op_load_at 25 w3.heap.size 0 hl _ rfl ?_
          go_simp
        apply walkK_norm
        · first | (simp only [List.nil_append, List.cons_append]; rfl) | simp only [List.nil_append, List.cons_append]
        refine walkK_is ?_ (by first | exact gs0 rfl | exact gs1 rfl rfl rfl) (fun _ => Below.refl _ _) (fun u X hX hd => ?_) ?_
        rotate_left
        · obtain ⟨q8, qk⟩ := hQ'.out X hX
          try simp at hd
          go_simp
          try rfl
        apply walkK_norm
        · first | (simp only [List.nil_append, List.cons_append]; rfl) | simp only [List.nil_append, List.cons_append]
        refine walkK_is ?_ (by first | exact gs0 rfl | exact gs1 rfl rfl rfl) (fun _ => Below.refl _ _) (fun u X hX hd => ?_) ?_
        rotate_left
        · obtain ⟨q8, qk⟩ := hQ'.out X hX
          try simp at hd
          go_simp
          try rfl
        apply walkK_norm
        · first | (simp only [List.nil_append, List.cons_append]; rfl) | simp only [List.nil_append, List.cons_append]
        refine walkK_call (isV (.agg E)) 13 ?_ (by first | exact gs0 rfl | exact gs1 rfl rfl rfl) (fun _ _ _ _ h => h) (fun u X hX hd => ?_) (fun X hX => ?_) ?_
        rotate_left
        · obtain ⟨q8, qk⟩ := hQ'.out X hX
          try simp at hd
          go_simp
          try rfl
        · exact (sj'.out X hX).mono fun e X' ⟨he, hb⟩ => ⟨_, he, hb, rfl⟩
        apply walkK_norm
        · first | (simp only [List.nil_append, List.cons_append]; rfl) | simp only [List.nil_append, List.cons_append]
        refine walkK_is ?_ (by first | exact gs0 rfl | exact gs1 rfl rfl rfl) (fun _ => Below.refl _ _) (fun u X hX hd => ?_) ?_
        rotate_left
        · obtain ⟨q8, qk⟩ := hQ'.out X hX
          try simp at hd
          go_simp
          try rfl
        apply walkK_norm
        · first | (simp only [List.nil_append, List.cons_append]; rfl) | simp only [List.nil_append, List.cons_append]
        refine walkK_is ?_ (by first | exact gs0 rfl | exact gs1 rfl rfl rfl) (fun _ => Below.refl _ _) (fun u X hX hd => ?_) ?_
        rotate_left
        · obtain ⟨q8, qk⟩ := hQ'.out X hX
          try simp at hd
          go_simp
          try rfl
        apply walkK_norm
        · first | (simp only [List.nil_append, List.cons_append]; rfl) | simp only [List.nil_append, List.cons_append]
        refine walkK_is ?_ (by first | exact gs0 rfl | exact gs1 rfl rfl rfl) (fun _ => Below.refl _ _) (fun u X hX hd => ?_) ?_
        rotate_left
        · obtain ⟨q8, qk⟩ := hQ'.out X hX
          try simp at hd
          go_simp
          try rfl
        apply walkK_norm
        · first | (simp only [List.nil_append, List.cons_append]; rfl) | simp only [List.nil_append, List.cons_append]
        refine walkK_is (.agg (E)) (by first | exact gs0 rfl | exact gs1 rfl rfl rfl) (fun _ => Below.refl _ _) (fun u X hX hd => ?_) ?_
        · have hl := hLE.out X hX
          try simp at hd
          refine op_load_at 34 (g) (og + j * 9) hl _ rfl ?_
          go_simp
        apply walkK_norm
        · first | (simp only [List.nil_append, List.cons_append]; rfl) | simp only [List.nil_append, List.cons_append]
        refine walkK_is (.bool false) (by first | exact gs0 rfl | exact gs1 rfl rfl rfl) (fun _ => Below.refl _ _) (fun u X hX hd => ?_) ?_
        · try simp at hd
          exact op_eqop_at .neq (.inr rfl) 34 false eqGuardEnt (EQ.out X) _ _ _ rfl (by simp [look, findAt, hd]) (by simp [look, findAt, hd])
        apply walkK_norm
        · first | (simp only [List.nil_append, List.cons_append]; rfl) | simp only [List.nil_append, List.cons_append]
        refine walkK_is (.bool false) (by first | exact gs0 rfl | exact gs1 rfl rfl rfl) (fun _ => Below.refl _ _) (fun u X hX hd => ?_) ?_
        · obtain ⟨q8, qk⟩ := hQ'.out X hX
          try simp at hd
          go_simp
          try rfl
        apply walkK_norm
        · first | (simp only [List.nil_append, List.cons_append]; rfl) | simp only [List.nil_append, List.cons_append]
        intro u X hX hsay
        simp only [sayAll, isV] at hsay
        obtain ⟨-, -, -, -, -, -, -, -, -, -, -, -, -, -, -, -, -, -, -, -, -, -, -, -, -, -, -, -, -, -, -, -, -, v33, -, -, -, -, -, -, -, -, -, -, -, -, -, v47, -⟩ := hsay
        simp only [putAll, Act.put, v33, v47, List.setIfInBounds_toArray, List.set_cons_succ, List.set_cons_zero]
        go_wp2
        go_roundw
        case rel => exact ⟨j + 1, by omega, by go_num, Lib.hid (bnext HB.out hX)⟩
        case measure => simp [intOf]; omega
    · obtain rfl : ln = j := by omega
      clear hlt
      go_wp2_with (go_at_call 7; go_must ((with_reducible refine (aw.out _).mono ?_); rintro e w9 ⟨rfl, hb9⟩; have B9 := Lib.hid (bnext BB.out hb9); clear hb9))
      go_ret
      exact ⟨rfl, B9.out⟩

theorem shadeOnce_walk (hm : m ≤ 255) (w : World) (hL : Ents w lA lc l) (h8 : Eight l) (hln : l.length = ln) (hN : Ents w nA nc n) (h8n : Eight n) (hnn : n.length = nn) :
    Calls Try.prog 6 #[.slice lA ln lc, .slice nA nn nc, .int .u8 (m : Int)] w fun e w' => e = .returned (.bool true) ∧ Below w.heap.size w w' := by
  by_cases h : ln = 0 ∨ 70 < ln ∨ nn ≠ ln
  · exact shadeOnce_no lA ln lc nA nn nc m h w
  · obtain rfl : nn = ln := by omega
    exact shadeOnce_main l lA nn lc n nA nc m (by omega) (by omega) hm w hL h8 hln hN h8n hnn

end
end Go.Proofs.Ytgoamkneenmbgaa
