/-
  TableOthers, walked: true of any two lists of blocks and any command, in whatever memory.
-/
import Derived.Test.YtibmfhmeoohdeaaZTabW
import Derived.Test.YtibmfhmeoohdeaaQTabA
namespace Go.Proofs.Ytibmfhmeoohdeaa
open Go.RowKit
attribute [local go_sem] look findAt
attribute [local simp] depsOf isV Region.binds

/-- blocks with so many of those places as the others have them. -/
def copyT (l m : List Ent) (is : List Int) : Nat → List Ent
  | 0 => m
  | k + 1 => (copyT l m is k).set (is[k]?.getD 0).toNat (l[(is[k]?.getD 0).toNat]?.getD entZ)

section
variable {l m : List Ent} {is : List Int}
theorem copy_length : ∀ k, (copyT l m is k).length = m.length
  | 0 => rfl
  | k + 1 => by rw [copyT, List.length_set, copy_length k]
theorem copy_eight (h8 : Eight l) (h8m : Eight m) : ∀ k, Eight (copyT l m is k)
  | 0 => h8m
  | k + 1 => by
    rw [copyT]
    exact (copy_eight h8 h8m k).set _ (h8.at _)
theorem copy_keep (hlen : m.length = l.length) {j : Nat} (hj : m[j]? = l[j]?) : ∀ k, (copyT l m is k)[j]? = l[j]?
  | 0 => hj
  | k + 1 => by
    rw [copyT]
    by_cases e : (is[k]?.getD 0).toNat = j
    · rw [e]
      by_cases hl : j < l.length
      · rw [List.getElem?_set_self (by rw [copy_length, hlen]; exact hl), List.getElem?_eq_getElem hl]
        rfl
      · rw [List.getElem?_eq_none (by rw [List.length_set, copy_length, hlen]; omega), List.getElem?_eq_none (by omega)]
    · rw [List.getElem?_set_ne e]
      exact copy_keep hlen hj k
theorem copy_hit (hlen : m.length = l.length) {q : Nat} (hl : (is[q]?.getD 0).toNat < l.length) : ∀ k, q < k → (copyT l m is k)[(is[q]?.getD 0).toNat]? = l[(is[q]?.getD 0).toNat]?
  | 0, h => by omega
  | k + 1, h => by
    rw [copyT]
    by_cases e : (is[k]?.getD 0).toNat = (is[q]?.getD 0).toNat
    · rw [e, List.getElem?_set_self (by rw [copy_length, hlen]; exact hl), List.getElem?_eq_getElem hl]
      rfl
    · rw [List.getElem?_set_ne e]
      exact copy_hit hlen hl k (by
        rcases Nat.lt_or_ge q k with h1 | h1
        · exact h1
        · obtain rfl : q = k := by omega
          exact absurd rfl e)
theorem copy_step (h8 : Eight l) (h8m : Eight m) {k i : Nat} (hi : is[k]?.getD 0 = (i : Int)) (hl : i < m.length) :
    setL (entsW (copyT l m is k)) (i * 9) ((entI (l[i]?.getD entZ)).map (.int .i64)) = entsW (copyT l m is (k + 1)) := by
  rw [entsW_set (copy_eight h8 h8m k) (by rw [copy_length]; exact hl) (h8.at i), copyT, hi, Int.toNat_natCast]

end

/-- blocks with all of a command's as the others have them. -/
def mixT (l m : List Ent) (c : Cmd) : List Ent := copyT l (copyT l m c.reads c.reads.length) c.writes c.writes.length
theorem mix_same {l m : List Ent} {c : Cmd} (hlen : m.length = l.length) (hs : setsN c) (hf : fitsT c l.length) : ∀ x ∈ blocksN c, l[x.toNat]? = (mixT l m c)[x.toNat]? := fun x hx => by
  obtain ⟨h1, h2⟩ := fits_block hs hf hx
  unfold mixT
  have hlr : (copyT l m c.reads c.reads.length).length = l.length := by rw [copy_length, hlen]
  rcases List.mem_append.1 hx with h | h
  · obtain ⟨q, hq, e⟩ := List.getElem_of_mem h
    have e' : c.reads[q]?.getD 0 = x := by rw [List.getElem?_eq_getElem hq, Option.getD_some, e]
    have := copy_hit (m := m) (is := c.reads) hlen (q := q) (by rw [e']; omega) c.reads.length hq
    rw [e'] at this
    exact (copy_keep hlr this _).symm
  · obtain ⟨q, hq, e⟩ := List.getElem_of_mem h
    have e' : c.writes[q]?.getD 0 = x := by rw [List.getElem?_eq_getElem hq, Option.getD_some, e]
    have := copy_hit (m := copyT l m c.reads c.reads.length) (is := c.writes) hlr (q := q) (by rw [e']; omega) c.writes.length hq
    rw [e'] at this
    exact this.symm

section
variable (c : Cmd) (ra : Option Addr) (nr rc : Nat) (wa : Option Addr) (nw wc : Nat) (aa : Option Addr) (na ac : Nat) (ca : Option Addr) (nc cc : Nat)
variable (l : List Ent) (lA : Option Addr) (ln lc : Nat) (m : List Ent) (mA : Option Addr) (mn mc : Nat)

set_option maxHeartbeats 16000000 in
set_option maxRecDepth 100000 in
theorem tableOthers_no (w : World) (h : CmRaw w c ra nr rc wa nw wc aa na ac ca nc cc) (hno : ¬ (ln ≤ 64 ∧ MayBe c ∧ fitsT c ln)) :
    Calls Try.prog 5 #[.slice lA ln lc, .slice mA mn mc, cmV ra nr rc wa nw wc aa na ac c.fuel ca nc cc] w fun e w' => e = .returned (.bool true) ∧ Below w.heap.size w w' := by
  have hrt := Lib.hid (fun W (hW : Below w.heap.size w W) => right_any c ra nr rc wa nw wc aa na ac ca nc cc lA ln lc W (h.below hW) false ⟨(fun q => by cases q), fun q => absurd q hno⟩)
  have B0 := Lib.hid (below_alloc1 w (CmObj ra nr rc wa nw wc aa na ac c.fuel ca nc cc))
  have aw := Lib.hid (fun W => awake12 W)
  clear h hno
  generalize c.fuel = fuel at *
  go_enter Try.func5, Try.ntmps5
  go_wp2_with (first
    | (go_at_call 7; go_must ((with_reducible refine (hrt.out _ B0.out).mono ?_); rintro e w1 ⟨rfl, hb1⟩; have B1 := Lib.hid (bnext B0.out hb1); clear hb1))
    | (go_at_call 8; go_must ((with_reducible refine (aw.out _).mono ?_); rintro e w2 ⟨rfl, hb2⟩; have B2 := Lib.hid (bnext B1.out hb2))))
  go_ret
  exact ⟨rfl, B2.out⟩

set_option maxHeartbeats 16000000 in
set_option maxRecDepth 100000 in
theorem tableOthers_len (hm : MayBe c) (hf : fitsT c ln) (hlz : ln ≤ 64) (hne : mn ≠ ln) (w : World) (h : CmRaw w c ra nr rc wa nw wc aa na ac ca nc cc) :
    Calls Try.prog 5 #[.slice lA ln lc, .slice mA mn mc, cmV ra nr rc wa nw wc aa na ac c.fuel ca nc cc] w fun e w' => e = .returned (.bool true) ∧ Below w.heap.size w w' := by
  have hrt := Lib.hid (fun W (hW : Below w.heap.size w W) => right_any c ra nr rc wa nw wc aa na ac ca nc cc lA ln lc W (h.below hW) true ⟨fun _ => ⟨hlz, hm, hf⟩, fun _ => rfl⟩)
  have B0 := Lib.hid (below_alloc1 w (CmObj ra nr rc wa nw wc aa na ac c.fuel ca nc cc))
  have aw := Lib.hid (fun W => awake12 W)
  have e1 : ((mn : Int) == (ln : Int)) = false := by simp; omega
  have e2 : (mn == ln) = false := by simpa using hne
  clear h hm hf
  generalize c.fuel = fuel at *
  go_enter Try.func5, Try.ntmps5
  go_wp2_with (first
    | (go_at_call 7; go_must ((with_reducible refine (hrt.out _ B0.out).mono ?_); rintro e w1 ⟨rfl, hb1⟩; have B1 := Lib.hid (bnext B0.out hb1); clear hb1))
    | (go_at_call 8; go_must ((with_reducible refine (aw.out _).mono ?_); rintro e w2 ⟨rfl, hb2⟩; have B2 := Lib.hid (bnext B1.out hb2))))
  go_ret
  exact ⟨rfl, B2.out⟩

set_option maxHeartbeats 32000000 in
set_option maxRecDepth 100000 in
theorem tableOthers_yes (hm : MayBe c) (h8 : Eight l) (h8m : Eight m) (hf : fitsT c l.length) (hln : l.length = ln) (hlm : m.length = ln) (hlz : ln ≤ 64) (w : World) (h : CmRaw w c ra nr rc wa nw wc aa na ac ca nc cc) (hL : Ents w lA lc l) (hM : Ents w mA mc m) :
    Calls Try.prog 5 #[.slice lA ln lc, .slice mA ln mc, cmV ra nr rc wa nw wc aa na ac c.fuel ca nc cc] w fun e w' => e = .returned (.bool true) ∧ Below w.heap.size w w' := by
  have hC := h.maybe hm
  have hs := hm.sets
  have hlr := hC.lr
  have hlw := hC.lw
  have hbr := hC.br
  have hbw := hC.bw
  have hlen : m.length = l.length := by rw [hlm, hln]
  obtain ⟨iE, hie, he0, hes, heb⟩ := infoEntZ
  have hrt := Lib.hid (fun W (hW : Below w.heap.size w W) => right_any c ra nr rc wa nw wc aa na ac ca nc cc lA ln lc W (h.below hW) true ⟨fun _ => ⟨hlz, hm, by rw [← hln]; exact hf⟩, fun _ => rfl⟩)
  have h8x : Eight (mixT l m c) := copy_eight h8 (copy_eight h8 h8m _) _
  have hlx : (mixT l m c).length = ln := by unfold mixT; rw [copy_length, copy_length, hlm]
  have hload : loadT l c = loadT (mixT l m c) c := load_same (mix_same hlen hs hf)
  obtain ⟨n, pc, f, st, regs, ou, to, bl, hE, hR, n1, n2, n3, -, -⟩ := run_ends hm (own := loadT l c) load_length (load_eight h8)
  obtain ⟨l', hl'⟩ : ∃ l', l' = apL l c bl 1 (to : Int) := ⟨_, rfl⟩
  obtain ⟨x', hx'⟩ : ∃ x', x' = apL (mixT l m c) c bl 1 (to : Int) := ⟨_, rfl⟩
  have hfx : fitsT c (mixT l m c).length := by rw [hlx, ← hln]; exact hf
  have hap1 : Hid (∀ W, Below w.heap.size w W → Calls Try.prog 9 #[.slice lA ln lc, cmV ra nr rc wa nw wc aa na ac c.fuel ca nc cc, .int .i64 1] W (ApPost l' ln 1 to ou W)) := Lib.hid (fun W hW => by
    rw [hl']
    exact apply_any ra nr rc wa nw wc aa na ac ca nc cc c l lA ln lc 1 hm h8 hf hln (by omega) hE n2 hR W (hC.below hW) (hL.below hW))
  have hap2 : Hid (∀ W A k, Below w.heap.size w W → Sl W 9 A ln k (entsW (mixT l m c)) → Calls Try.prog 9 #[.slice A ln k, cmV ra nr rc wa nw wc aa na ac c.fuel ca nc cc, .int .i64 1] W (ApPost x' ln 1 to ou W)) := Lib.hid (fun W A k hW hS => by
    rw [hx']
    exact apply_any ra nr rc wa nw wc aa na ac ca nc cc c (mixT l m c) A ln k 1 hm h8x hfx hlx (by omega) (by rw [← hload]; exact hE) n2 (by rw [← hload]; exact hR) W (hC.below hW) (by unfold Ents; rw [hlx]; exact hS))
  have hle : c.reads.length + c.writes.length ≤ bl.length := by rw [hR.many, load_length]; omega
  have h8l' : Hid (Eight l') := Lib.hid (by rw [hl']; exact apL_eight h8 hR.cells hle)
  have h8x' : Hid (Eight x') := Lib.hid (by rw [hx']; exact apL_eight h8x hR.cells hle)
  have hlnl : Hid (l'.length = ln) := Lib.hid (by rw [hl', apL_length, hln])
  have hlnx : Hid (x'.length = ln) := Lib.hid (by rw [hx', apL_length, hlx])
  have hsame : Hid (∀ k, k < nw → ∃ i : Nat, c.writes[k]?.getD 0 = (i : Int) ∧ i < ln ∧ l'[i]?.getD entZ = x'[i]?.getD entZ) := Lib.hid (fun k hk => by
    have hk' : k < c.writes.length := by omega
    refine ⟨wAt c k, by rw [wAt_cast hs hk', List.getElem?_eq_getElem hk']; rfl, by have := wAt_lt hs hf hk'; omega, ?_⟩
    rw [hl', hx']
    by_cases h0 : (to : Int) = 0
    · rw [apL_cells hs hf hk' h0, apL_cells hs hfx hk' h0]
    · rw [apL_other hs (fun q => h0 q.2), apL_other hs (fun q => h0 q.2)]
      have := mix_same hlen hs hf c.writes[k] (List.mem_append_right _ (List.getElem_mem _))
      have e : (c.writes[k]).toNat = wAt c k := by unfold wAt; rw [List.getElem?_eq_getElem hk']; rfl
      rw [e] at this
      rw [this])
  have next1 : Hid (∀ k, k < nr → ∃ i : Nat, c.reads[k]?.getD 0 = (i : Int) ∧ i < ln ∧ setL (entsW (copyT l m c.reads k)) (i * 9) ((entI (l[i]?.getD entZ)).map (.int .i64)) = entsW (copyT l m c.reads (k + 1))) := Lib.hid (fun k hk => by
    have hk' : k < c.reads.length := by omega
    obtain ⟨h1, h2⟩ := fits_block hs hf (x := c.reads[k]) (List.mem_append_left _ (List.getElem_mem _))
    obtain ⟨i, hi⟩ := Int.eq_ofNat_of_zero_le h1
    have e : c.reads[k]?.getD 0 = (i : Int) := by rw [List.getElem?_eq_getElem hk', Option.getD_some, hi]
    exact ⟨i, e, by omega, copy_step h8 h8m e (by omega)⟩)
  have next2 : Hid (∀ k, k < nw → ∃ i : Nat, c.writes[k]?.getD 0 = (i : Int) ∧ i < ln ∧ setL (entsW (copyT l (copyT l m c.reads nr) c.writes k)) (i * 9) ((entI (l[i]?.getD entZ)).map (.int .i64)) = entsW (copyT l (copyT l m c.reads nr) c.writes (k + 1))) := Lib.hid (fun k hk => by
    have hk' : k < c.writes.length := by omega
    obtain ⟨h1, h2⟩ := fits_block hs hf (x := c.writes[k]) (List.mem_append_right _ (List.getElem_mem _))
    obtain ⟨i, hi⟩ := Int.eq_ofNat_of_zero_le h1
    have e : c.writes[k]?.getD 0 = (i : Int) := by rw [List.getElem?_eq_getElem hk', Option.getD_some, hi]
    exact ⟨i, e, by omega, copy_step h8 (copy_eight h8 h8m _) e (by rw [copy_length]; omega)⟩)
  have HFIN : Hid (copyT l (copyT l m c.reads nr) c.writes nw = mixT l m c) := Lib.hid (by unfold mixT; rw [hlr, hlw])
  have HZ1 : Hid (entsW (copyT l m c.reads 0) = entsW m) := Lib.hid rfl
  have HZ2 : Hid (entsW (copyT l (copyT l m c.reads nr) c.writes 0) = entsW (copyT l m c.reads nr)) := Lib.hid rfl
  have HMS : Hid (Sl w 9 mA ln mc (entsW m)) := Lib.hid (by have := hM; unfold Ents at this; rwa [hlm] at this)
  have HME := Lib.hid (entsW_one m)
  have HRS : Hid (Sl w 1 ra nr rc (c.reads.map (.int .i64))) := Lib.hid (by have := hC.reads; unfold Ints at this; rwa [hC.lr] at this)
  have HWS : Hid (Sl w 1 wa nw wc (c.writes.map (.int .i64))) := Lib.hid (by have := hC.writes; unfold Ints at this; rwa [hC.lw] at this)
  have hrc : nr ≤ rc := HRS.out.2.1
  have hwc : nw ≤ wc := HWS.out.2.1
  have HOU := hR.out
  have H8 := Lib.hid h8
  have HLN := Lib.hid hln
  have HL := Lib.hid hL
  have hlc : ln ≤ lc := by have := hL.2.1; rw [hln] at this; exact this
  have B_0 := Lib.hid (below_alloc1 w (CmObj ra nr rc wa nw wc aa na ac c.fuel ca nc cc))
  have C_0 : Hid (Bk (w.alloc (CmObj ra nr rc wa nw wc aa na ac c.fuel ca nc cc)) w.heap.size 26 #[.slice ra nr rc, .slice wa nw wc, .slice aa na ac, .int .i64 c.fuel, .slice ca nc cc]) := Lib.hid (Bk.new w _ _)
  have aw := Lib.hid (fun W => awake12 W)
  clear h hC hs hm h8 h8m hf hln hlm hlen hL hM hE hR hl' hx' n1 n3 hle hlw hlr h8x hlx hload hfx
  generalize c.fuel = F at *
  generalize mixT l m c = mx at *
  generalize c.reads = rs at *
  generalize c.writes = ws at *
  generalize (to : Int) = e0 at *
  have nA : True := trivial
  go_enter Try.func5, Try.ntmps5
  go_wp2_with (first
    | (go_at_call 7; go_must ((with_reducible refine (hrt.out _ B_0.out).mono ?_); rintro e w1 ⟨rfl, hb⟩; have B_1 := Lib.hid (bnext B_0.out hb); have C_1 := Lib.hid (C_0.out.below hb); have EM := Lib.hid (own_empty w1 45 9 w1.heap.size (Nat.le_refl _)); have S_1 := B_1.out.size; have Z_1 := C_1.out.lt; clear hb))
    | (at_builtin; go_must (refine append_sl rfl (.tmp 27) (.tmp 28) _ rfl w1.heap.size 45 iE _ 9 72 Try.underlying22 hie he0 hes heb rfl (by decide) _ 0 [] rfl EM.out mA ln mc _ rfl (HMS.out.below (bnext B_1.out (below_alloc1 _ _))) HME.out (by unfold maxLen; omega) (by omega) (by simp) ?_; intro v' w3 ho3 hg3; have B3 : Hid (Below w1.heap.size w1 w3) := Lib.hid (((Below.refl _ _).alloc (Nat.le_refl _) _).grown hg3 (by simp) (fun q hq => by have := own_ge EM.out hq; omega)); obtain ⟨eA, eC, rfl, -⟩ := Sl.own ho3; simp only [Nat.zero_add, List.nil_append] at ho3; have O3 : Hid (w3.ownsRow w1.heap.size 45 9 (.slice eA ln eC) ln (entsW m)) := Lib.hid ho3; clear ho3 hg3)))
  have B2 := Lib.hid (bnext B_1.out B3.out)
  have C2 := Lib.hid (C_1.out.below B3.out)
  clear B_0 C_0 B_1 C_1 B3 EM hrt
  go_loopw [8] (fun ii wr => ∃ (k : Nat), k ≤ nr ∧ ii = .int .i64 (k : Int) ∧ Hid (Below w.heap.size w wr) ∧ Hid (Bk wr w.heap.size 26 #[.slice ra nr rc, .slice wa nw wc, .slice aa na ac, .int .i64 F, .slice ca nc cc]) ∧ Hid (wr.ownsRow w1.heap.size 45 9 (.slice eA ln eC) ln (entsW (copyT l m rs k)))) (fun ii _ => nr - (intOf ii).toNat)
  case atStart => exact ⟨0, Nat.zero_le _, rfl, B2, C2, O3⟩
  case round =>
    clear B2 O3 C2
    obtain ⟨k, hk, rfl, HB, HC, HO⟩ := hrel
    obtain ⟨f0, f1, f2, f3, f4, ff⟩ := HC.out.cmd
    have fl := HC.out.lt
    by_cases hlt : k < nr
    · have d1 : (k : Int) < (nr : Int) := by omega
      have d2 : (k : Int) < (rc : Int) := by omega
      obtain ⟨i, hie1, hi, hnext⟩ := next1.out k hlt
      obtain ⟨b, off, rfl, hbl, hv⟩ := (HRS.out.below HB.out).int hlt
      rw [hie1] at hv
      obtain ⟨g, cur, rfl, hgB, hgk, hgc, -, hgs, hgt⟩ := own_pos HO.out (by omega)
      obtain ⟨gl, ol, rfl, hgl, hll⟩ := (HL.out.below HB.out).load H8.out (i := i) (by rw [HLN.out]; exact hi)
      have d3 : (i : Int) < (ln : Int) := by omega
      have d4 : (i : Int) < (eC : Int) := by omega
      have d5 : (i : Int) < (lc : Int) := by omega
      have GK := Lib.hid hgk
      have GS := Lib.hid hgs
      have hQ : Hid (∀ X, Below wr.heap.size wr X → X.cell? ⟨w.heap.size, 0, none⟩ = some (.slice (some ⟨b, off, none⟩) nr rc) ∧ X.cell? ⟨b, off + k, none⟩ = some (.int .i64 (i : Int)) ∧ True) := Lib.hid (fun X hX => ⟨(HC.out.below hX).cell 0, (hX.cell (p := ⟨b, off + k, none⟩) hbl).trans hv, trivial⟩)
      obtain ⟨E, hE⟩ : ∃ E : Array Value, E = bkC (entI (l[i]?.getD entZ)) := ⟨_, rfl⟩
      have HLE : Hid (∀ X, Below wr.heap.size wr X → (loadVar 45 ⟨gl, ol + i * 9, none⟩).run Try.prog X = .ok (.agg E) X) := Lib.hid (fun X hX => by rw [hE]; exact (hll X hX).1)
      have HS : Hid (setL (entsW (copyT l m rs k)) (i * 9) E.toList = entsW (copyT l m rs (k + 1))) := Lib.hid (by rw [hE, bkC_list]; exact hnext)
      have E9 : E.size = 9 := by rw [hE, bkC_size, entI_length (H8.out.at i)]
      have EI : (Try.prog.info? 45).map (·.size) = some E.size := by rw [E9]; exact infoEnt9
      have EA : E.all (·.oneCell') = true := by rw [hE]; simp [bkC, Value.oneCell']
      clear hE hll hnext hgk hgs hgt hv
      go_wp2
      try simp only [List.append_eq, List.cons_append, List.nil_append]
      refine wp_region_saysK 15 (fun x y => Below x.heap.size x y) (fun _ _ _ h k => bnext h k) wr (below_drew1 wr) (by kernel_rfl) (by kernel_rfl) (by kernel_rfl) (by kernel_rfl) (by rfl) ?_
      simp only [List.take_succ_cons, List.take_zero, List.drop_succ_cons, List.drop_zero]
      refine walkK_is ?_ (by first | exact gs0 rfl | exact gs1 rfl rfl rfl) (fun _ => Below.refl _ _) (fun u X hX hd => ?_) ?_
      rotate_left
      · obtain ⟨q0, q1, q2⟩ := hQ.out X hX
        try simp at hd
        go_simp
        try rfl
      apply walkK_norm
      · first | (simp only [List.nil_append]; rfl) | simp only [List.nil_append]
      refine walkK_is ?_ (by first | exact gs0 rfl | exact gs1 rfl rfl rfl) (fun _ => Below.refl _ _) (fun u X hX hd => ?_) ?_
      rotate_left
      · obtain ⟨q0, q1, q2⟩ := hQ.out X hX
        try simp at hd
        go_simp
        try rfl
      apply walkK_norm
      · first | (simp only [List.nil_append, List.cons_append]; rfl) | simp only [List.nil_append, List.cons_append]
      refine walkK_is ?_ (by first | exact gs0 rfl | exact gs1 rfl rfl rfl) (fun _ => Below.refl _ _) (fun u X hX hd => ?_) ?_
      rotate_left
      · obtain ⟨q0, q1, q2⟩ := hQ.out X hX
        try simp at hd
        go_simp
        try rfl
      apply walkK_norm
      · first | (simp only [List.nil_append, List.cons_append]; rfl) | simp only [List.nil_append, List.cons_append]
      refine walkK_is ?_ (by first | exact gs0 rfl | exact gs1 rfl rfl rfl) (fun _ => Below.refl _ _) (fun u X hX hd => ?_) ?_
      rotate_left
      · obtain ⟨q0, q1, q2⟩ := hQ.out X hX
        try simp at hd
        go_simp
        try rfl
      apply walkK_norm
      · first | (simp only [List.nil_append, List.cons_append]; rfl) | simp only [List.nil_append, List.cons_append]
      refine walkK_is ?_ (by first | exact gs0 rfl | exact gs1 rfl rfl rfl) (fun _ => Below.refl _ _) (fun u X hX hd => ?_) ?_
      rotate_left
      · obtain ⟨q0, q1, q2⟩ := hQ.out X hX
        try simp at hd
        go_simp
        try rfl
      apply walkK_norm
      · first | (simp only [List.nil_append, List.cons_append]; rfl) | simp only [List.nil_append, List.cons_append]
      refine walkK_is ?_ (by first | exact gs0 rfl | exact gs1 rfl rfl rfl) (fun _ => Below.refl _ _) (fun u X hX hd => ?_) ?_
      rotate_left
      · obtain ⟨q0, q1, q2⟩ := hQ.out X hX
        try simp at hd
        go_simp
        try rfl
      apply walkK_norm
      · first | (simp only [List.nil_append, List.cons_append]; rfl) | simp only [List.nil_append, List.cons_append]
      refine walkK_is ?_ (by first | exact gs0 rfl | exact gs1 rfl rfl rfl) (fun _ => Below.refl _ _) (fun u X hX hd => ?_) ?_
      rotate_left
      · obtain ⟨q0, q1, q2⟩ := hQ.out X hX
        try simp at hd
        go_simp
        try rfl
      apply walkK_norm
      · first | (simp only [List.nil_append, List.cons_append]; rfl) | simp only [List.nil_append, List.cons_append]
      refine walkK_is ?_ (by first | exact gs0 rfl | exact gs1 rfl rfl rfl) (fun _ => Below.refl _ _) (fun u X hX hd => ?_) ?_
      rotate_left
      · obtain ⟨q0, q1, q2⟩ := hQ.out X hX
        try simp at hd
        go_simp
        try rfl
      apply walkK_norm
      · first | (simp only [List.nil_append, List.cons_append]; rfl) | simp only [List.nil_append, List.cons_append]
      refine walkK_is ?_ (by first | exact gs0 rfl | exact gs1 rfl rfl rfl) (fun _ => Below.refl _ _) (fun u X hX hd => ?_) ?_
      rotate_left
      · obtain ⟨q0, q1, q2⟩ := hQ.out X hX
        try simp at hd
        go_simp
        try rfl
      apply walkK_norm
      · first | (simp only [List.nil_append, List.cons_append]; rfl) | simp only [List.nil_append, List.cons_append]
      refine walkK_is ?_ (by first | exact gs0 rfl | exact gs1 rfl rfl rfl) (fun _ => Below.refl _ _) (fun u X hX hd => ?_) ?_
      rotate_left
      · obtain ⟨q0, q1, q2⟩ := hQ.out X hX
        try simp at hd
        go_simp
        try rfl
      apply walkK_norm
      · first | (simp only [List.nil_append, List.cons_append]; rfl) | simp only [List.nil_append, List.cons_append]
      refine walkK_is ?_ (by first | exact gs0 rfl | exact gs1 rfl rfl rfl) (fun _ => Below.refl _ _) (fun u X hX hd => ?_) ?_
      rotate_left
      · obtain ⟨q0, q1, q2⟩ := hQ.out X hX
        try simp at hd
        go_simp
        try rfl
      apply walkK_norm
      · first | (simp only [List.nil_append, List.cons_append]; rfl) | simp only [List.nil_append, List.cons_append]
      refine walkK_is ?_ (by first | exact gs0 rfl | exact gs1 rfl rfl rfl) (fun _ => Below.refl _ _) (fun u X hX hd => ?_) ?_
      rotate_left
      · obtain ⟨q0, q1, q2⟩ := hQ.out X hX
        try simp at hd
        go_simp
        try rfl
      apply walkK_norm
      · first | (simp only [List.nil_append, List.cons_append]; rfl) | simp only [List.nil_append, List.cons_append]
      refine walkK_is ?_ (by first | exact gs0 rfl | exact gs1 rfl rfl rfl) (fun _ => Below.refl _ _) (fun u X hX hd => ?_) ?_
      rotate_left
      · obtain ⟨q0, q1, q2⟩ := hQ.out X hX
        try simp at hd
        go_simp
        try rfl
      apply walkK_norm
      · first | (simp only [List.nil_append, List.cons_append]; rfl) | simp only [List.nil_append, List.cons_append]
      refine walkK_is (.agg E) (by first | exact gs0 rfl | exact gs1 rfl rfl rfl) (fun _ => Below.refl _ _) (fun u X hX hd => ?_) ?_
      · have hl := HLE.out X hX
        try simp at hd
        refine op_load_at 45 gl (ol + i * 9) hl _ rfl ?_
        go_simp
      apply walkK_norm
      · first | (simp only [List.nil_append, List.cons_append]; rfl) | simp only [List.nil_append, List.cons_append]
      refine walkK_is ?_ (by first | exact gs0 rfl | exact gs1 rfl rfl rfl) (fun _ => Below.refl _ _) (fun u X hX hd => ?_) ?_
      rotate_left
      · obtain ⟨q0, q1, q2⟩ := hQ.out X hX
        try simp at hd
        go_simp
        try rfl
      apply walkK_norm
      · first | (simp only [List.nil_append, List.cons_append]; rfl) | simp only [List.nil_append, List.cons_append]
      intro u X hX hsay
      simp only [sayAll, isV] at hsay
      obtain ⟨v0, v1, v2, v3, v4, v5, v6, v7, v8, v9, v10, v11, v12, v13, v14, -⟩ := hsay
      have GT : Hid (∀ m, m = 9 → X.there g (i * 9) m) := Lib.hid (fun m hm => (GK.out.below hX).there (by rw [GS.out, hm]; omega))
      have B5 := Lib.hid (bnext HB.out hX)
      have C5 := Lib.hid (HC.out.below hX)
      have O5 := Lib.hid (own_below HO.out hX)
      simp only [putAll, Act.put, v0, v1, v2, v3, v4, v5, v6, v7, v8, v9, v10, v11, v12, v13, v14, List.setIfInBounds_toArray, List.set_cons_succ, List.set_cons_zero]
      clear v0 v1 v2 v3 v4 v5 v6 v7 v8 v9 v10 v11 v12 v13 v14 f0 f1 f2 f3 f4 ff fl
      go_wp2_with (refine wpList_store_mid rfl 45 _ _ rfl g (i * 9) E rfl rfl (GT.out _ E9) EI EA ?_)
      go_roundw
      case rel =>
        refine ⟨k + 1, by omega, by go_num, Lib.hid (below_setCells B5.out (by omega) _ _), Lib.hid (C5.out.setCells (by omega) _ _), Lib.hid ?_⟩
        rw [← HS.out]
        exact own_setCells _ _ O5.out
      case measure => simp [intOf]; omega
    · obtain rfl : nr = k := by omega
      clear hlt next1 HRS hrc hk
      go_wp2
      go_loopw [9] (fun ii wr => ∃ (k : Nat), k ≤ nw ∧ ii = .int .i64 (k : Int) ∧ Hid (Below w.heap.size w wr) ∧ Hid (Bk wr w.heap.size 26 #[.slice ra nr rc, .slice wa nw wc, .slice aa na ac, .int .i64 F, .slice ca nc cc]) ∧ Hid (wr.ownsRow w1.heap.size 45 9 (.slice eA ln eC) ln (entsW (copyT l (copyT l m rs nr) ws k)))) (fun ii _ => nw - (intOf ii).toNat)
      case atStart => exact ⟨0, Nat.zero_le _, rfl, HB, HC, HO⟩
      case round =>
        clear HB HC HO f0 f1 f2 f3 f4 ff fl
        obtain ⟨k, hk, rfl, HB, HC, HO⟩ := hrel
        obtain ⟨f0, f1, f2, f3, f4, ff⟩ := HC.out.cmd
        have fl := HC.out.lt
        by_cases hlt : k < nw
        · have d1 : (k : Int) < (nw : Int) := by omega
          have d2 : (k : Int) < (wc : Int) := by omega
          obtain ⟨i, hie1, hi, hnext⟩ := next2.out k hlt
          obtain ⟨b, off, rfl, hbl, hv⟩ := (HWS.out.below HB.out).int hlt
          rw [hie1] at hv
          obtain ⟨g, cur, rfl, hgB, hgk, hgc, -, hgs, hgt⟩ := own_pos HO.out (by omega)
          obtain ⟨gl, ol, rfl, hgl, hll⟩ := (HL.out.below HB.out).load H8.out (i := i) (by rw [HLN.out]; exact hi)
          have d3 : (i : Int) < (ln : Int) := by omega
          have d4 : (i : Int) < (eC : Int) := by omega
          have d5 : (i : Int) < (lc : Int) := by omega
          have GK := Lib.hid hgk
          have GS := Lib.hid hgs
          have hQ : Hid (∀ X, Below wr.heap.size wr X → X.cell? ⟨w.heap.size, 1, none⟩ = some (.slice (some ⟨b, off, none⟩) nw wc) ∧ X.cell? ⟨b, off + k, none⟩ = some (.int .i64 (i : Int)) ∧ True) := Lib.hid (fun X hX => ⟨(HC.out.below hX).cell 1, (hX.cell (p := ⟨b, off + k, none⟩) hbl).trans hv, trivial⟩)
          obtain ⟨E, hE⟩ : ∃ E : Array Value, E = bkC (entI (l[i]?.getD entZ)) := ⟨_, rfl⟩
          have HLE : Hid (∀ X, Below wr.heap.size wr X → (loadVar 45 ⟨gl, ol + i * 9, none⟩).run Try.prog X = .ok (.agg E) X) := Lib.hid (fun X hX => by rw [hE]; exact (hll X hX).1)
          have HS : Hid (setL (entsW (copyT l (copyT l m rs nr) ws k)) (i * 9) E.toList = entsW (copyT l (copyT l m rs nr) ws (k + 1))) := Lib.hid (by rw [hE, bkC_list]; exact hnext)
          have E9 : E.size = 9 := by rw [hE, bkC_size, entI_length (H8.out.at i)]
          have EI : (Try.prog.info? 45).map (·.size) = some E.size := by rw [E9]; exact infoEnt9
          have EA : E.all (·.oneCell') = true := by rw [hE]; simp [bkC, Value.oneCell']
          clear hE hll hnext hgk hgs hgt hv
          go_wp2
          try simp only [List.append_eq, List.cons_append, List.nil_append]
          refine wp_region_saysK 15 (fun x y => Below x.heap.size x y) (fun _ _ _ h k => bnext h k) wr (below_drew1 wr) (by kernel_rfl) (by kernel_rfl) (by kernel_rfl) (by kernel_rfl) (by rfl) ?_
          simp only [List.take_succ_cons, List.take_zero, List.drop_succ_cons, List.drop_zero]
          refine walkK_is ?_ (by first | exact gs0 rfl | exact gs1 rfl rfl rfl) (fun _ => Below.refl _ _) (fun u X hX hd => ?_) ?_
          rotate_left
          · obtain ⟨q0, q1, q2⟩ := hQ.out X hX
            try simp at hd
            go_simp
            try rfl
          apply walkK_norm
          · first | (simp only [List.nil_append]; rfl) | simp only [List.nil_append]
          refine walkK_is ?_ (by first | exact gs0 rfl | exact gs1 rfl rfl rfl) (fun _ => Below.refl _ _) (fun u X hX hd => ?_) ?_
          rotate_left
          · obtain ⟨q0, q1, q2⟩ := hQ.out X hX
            try simp at hd
            go_simp
            try rfl
          apply walkK_norm
          · first | (simp only [List.nil_append, List.cons_append]; rfl) | simp only [List.nil_append, List.cons_append]
          refine walkK_is ?_ (by first | exact gs0 rfl | exact gs1 rfl rfl rfl) (fun _ => Below.refl _ _) (fun u X hX hd => ?_) ?_
          rotate_left
          · obtain ⟨q0, q1, q2⟩ := hQ.out X hX
            try simp at hd
            go_simp
            try rfl
          apply walkK_norm
          · first | (simp only [List.nil_append, List.cons_append]; rfl) | simp only [List.nil_append, List.cons_append]
          refine walkK_is ?_ (by first | exact gs0 rfl | exact gs1 rfl rfl rfl) (fun _ => Below.refl _ _) (fun u X hX hd => ?_) ?_
          rotate_left
          · obtain ⟨q0, q1, q2⟩ := hQ.out X hX
            try simp at hd
            go_simp
            try rfl
          apply walkK_norm
          · first | (simp only [List.nil_append, List.cons_append]; rfl) | simp only [List.nil_append, List.cons_append]
          refine walkK_is ?_ (by first | exact gs0 rfl | exact gs1 rfl rfl rfl) (fun _ => Below.refl _ _) (fun u X hX hd => ?_) ?_
          rotate_left
          · obtain ⟨q0, q1, q2⟩ := hQ.out X hX
            try simp at hd
            go_simp
            try rfl
          apply walkK_norm
          · first | (simp only [List.nil_append, List.cons_append]; rfl) | simp only [List.nil_append, List.cons_append]
          refine walkK_is ?_ (by first | exact gs0 rfl | exact gs1 rfl rfl rfl) (fun _ => Below.refl _ _) (fun u X hX hd => ?_) ?_
          rotate_left
          · obtain ⟨q0, q1, q2⟩ := hQ.out X hX
            try simp at hd
            go_simp
            try rfl
          apply walkK_norm
          · first | (simp only [List.nil_append, List.cons_append]; rfl) | simp only [List.nil_append, List.cons_append]
          refine walkK_is ?_ (by first | exact gs0 rfl | exact gs1 rfl rfl rfl) (fun _ => Below.refl _ _) (fun u X hX hd => ?_) ?_
          rotate_left
          · obtain ⟨q0, q1, q2⟩ := hQ.out X hX
            try simp at hd
            go_simp
            try rfl
          apply walkK_norm
          · first | (simp only [List.nil_append, List.cons_append]; rfl) | simp only [List.nil_append, List.cons_append]
          refine walkK_is ?_ (by first | exact gs0 rfl | exact gs1 rfl rfl rfl) (fun _ => Below.refl _ _) (fun u X hX hd => ?_) ?_
          rotate_left
          · obtain ⟨q0, q1, q2⟩ := hQ.out X hX
            try simp at hd
            go_simp
            try rfl
          apply walkK_norm
          · first | (simp only [List.nil_append, List.cons_append]; rfl) | simp only [List.nil_append, List.cons_append]
          refine walkK_is ?_ (by first | exact gs0 rfl | exact gs1 rfl rfl rfl) (fun _ => Below.refl _ _) (fun u X hX hd => ?_) ?_
          rotate_left
          · obtain ⟨q0, q1, q2⟩ := hQ.out X hX
            try simp at hd
            go_simp
            try rfl
          apply walkK_norm
          · first | (simp only [List.nil_append, List.cons_append]; rfl) | simp only [List.nil_append, List.cons_append]
          refine walkK_is ?_ (by first | exact gs0 rfl | exact gs1 rfl rfl rfl) (fun _ => Below.refl _ _) (fun u X hX hd => ?_) ?_
          rotate_left
          · obtain ⟨q0, q1, q2⟩ := hQ.out X hX
            try simp at hd
            go_simp
            try rfl
          apply walkK_norm
          · first | (simp only [List.nil_append, List.cons_append]; rfl) | simp only [List.nil_append, List.cons_append]
          refine walkK_is ?_ (by first | exact gs0 rfl | exact gs1 rfl rfl rfl) (fun _ => Below.refl _ _) (fun u X hX hd => ?_) ?_
          rotate_left
          · obtain ⟨q0, q1, q2⟩ := hQ.out X hX
            try simp at hd
            go_simp
            try rfl
          apply walkK_norm
          · first | (simp only [List.nil_append, List.cons_append]; rfl) | simp only [List.nil_append, List.cons_append]
          refine walkK_is ?_ (by first | exact gs0 rfl | exact gs1 rfl rfl rfl) (fun _ => Below.refl _ _) (fun u X hX hd => ?_) ?_
          rotate_left
          · obtain ⟨q0, q1, q2⟩ := hQ.out X hX
            try simp at hd
            go_simp
            try rfl
          apply walkK_norm
          · first | (simp only [List.nil_append, List.cons_append]; rfl) | simp only [List.nil_append, List.cons_append]
          refine walkK_is ?_ (by first | exact gs0 rfl | exact gs1 rfl rfl rfl) (fun _ => Below.refl _ _) (fun u X hX hd => ?_) ?_
          rotate_left
          · obtain ⟨q0, q1, q2⟩ := hQ.out X hX
            try simp at hd
            go_simp
            try rfl
          apply walkK_norm
          · first | (simp only [List.nil_append, List.cons_append]; rfl) | simp only [List.nil_append, List.cons_append]
          refine walkK_is (.agg E) (by first | exact gs0 rfl | exact gs1 rfl rfl rfl) (fun _ => Below.refl _ _) (fun u X hX hd => ?_) ?_
          · have hl := HLE.out X hX
            try simp at hd
            refine op_load_at 45 gl (ol + i * 9) hl _ rfl ?_
            go_simp
          apply walkK_norm
          · first | (simp only [List.nil_append, List.cons_append]; rfl) | simp only [List.nil_append, List.cons_append]
          refine walkK_is ?_ (by first | exact gs0 rfl | exact gs1 rfl rfl rfl) (fun _ => Below.refl _ _) (fun u X hX hd => ?_) ?_
          rotate_left
          · obtain ⟨q0, q1, q2⟩ := hQ.out X hX
            try simp at hd
            go_simp
            try rfl
          apply walkK_norm
          · first | (simp only [List.nil_append, List.cons_append]; rfl) | simp only [List.nil_append, List.cons_append]
          intro u X hX hsay
          simp only [sayAll, isV] at hsay
          obtain ⟨v0, v1, v2, v3, v4, v5, v6, v7, v8, v9, v10, v11, v12, v13, v14, -⟩ := hsay
          have GT : Hid (∀ m, m = 9 → X.there g (i * 9) m) := Lib.hid (fun m hm => (GK.out.below hX).there (by rw [GS.out, hm]; omega))
          have B5 := Lib.hid (bnext HB.out hX)
          have C5 := Lib.hid (HC.out.below hX)
          have O5 := Lib.hid (own_below HO.out hX)
          simp only [putAll, Act.put, v0, v1, v2, v3, v4, v5, v6, v7, v8, v9, v10, v11, v12, v13, v14, List.setIfInBounds_toArray, List.set_cons_succ, List.set_cons_zero]
          clear v0 v1 v2 v3 v4 v5 v6 v7 v8 v9 v10 v11 v12 v13 v14 f0 f1 f2 f3 f4 ff fl
          go_wp2_with (refine wpList_store_mid rfl 45 _ _ rfl g (i * 9) E rfl rfl (GT.out _ E9) EI EA ?_)
          go_roundw
          case rel =>
            refine ⟨k + 1, by omega, by go_num, Lib.hid (below_setCells B5.out (by omega) _ _), Lib.hid (C5.out.setCells (by omega) _ _), Lib.hid ?_⟩
            rw [← HS.out]
            exact own_setCells _ _ O5.out
          case measure => simp [intOf]; omega
        · obtain rfl : nw = k := by omega
          rw [HFIN.out] at HO
          have SX := Lib.hid (Sl.own' HO.out)
          clear hlt hk HO
          clear next2 H8
          go_wp2_with (first
            | (go_at_call 9; clear nA; go_must ((with_reducible refine (hap1.out _ HB.out).mono ?_); rintro e w4 ⟨A, kA, oA, on, oc, rfl, hm2, ho, hb⟩; have B_4 := Lib.hid (bnext HB.out (bnext hb (varR_below w4 (rC 1 e0 (.slice oA on oc))))); have C_4 := Lib.hid (HC.out.below (bnext hb (varR_below w4 (rC 1 e0 (.slice oA on oc))))); have N4 := Lib.hid (Bk.new w4 31 rsZ); have R_4 := Lib.hid (varR_bk w4 (rC 1 e0 (.slice oA on oc))); have A_4 := Lib.hid (hm2.below (varR_below w4 (rC 1 e0 (.slice oA on oc)))); have U_4 := Lib.hid (ho.below (varR_below w4 (rC 1 e0 (.slice oA on oc)))); have X_4 := Lib.hid (SX.out.below (bnext hb (varR_below w4 (rC 1 e0 (.slice oA on oc))))); clear f0 f1 f2 f3 f4 ff fl; obtain ⟨f0, f1, f2, f3, f4, ff⟩ := C_4.out.cmd; have fl := C_4.out.lt; clear hb ho hm2))
            | (with_reducible refine st_rs w4.heap.size N4.out rfl _ _ rfl rfl rfl rfl ?_)
            | (go_at_call 9; go_must ((with_reducible refine (hap2.out _ _ _ B_4.out X_4.out).mono ?_); rintro e w5 ⟨A', kB, oB, om, od, rfl, hm2, ho, hb⟩; have B_5 := Lib.hid (bnext B_4.out (bnext hb (varR_below w5 (rC 1 e0 (.slice oB om od))))); have C_5 := Lib.hid (C_4.out.below (bnext hb (varR_below w5 (rC 1 e0 (.slice oB om od))))); have N5 := Lib.hid (Bk.new w5 31 rsZ); have R_5 := Lib.hid (varR_bk w5 (rC 1 e0 (.slice oB om od))); have A_5 := Lib.hid (hm2.below (varR_below w5 (rC 1 e0 (.slice oB om od)))); have U_5 := Lib.hid (ho.below (varR_below w5 (rC 1 e0 (.slice oB om od)))); have R_45 := Lib.hid (R_4.out.below (bnext hb (varR_below w5 (rC 1 e0 (.slice oB om od))))); have A_45 := Lib.hid (A_4.out.below (bnext hb (varR_below w5 (rC 1 e0 (.slice oB om od))))); have U_45 := Lib.hid (U_4.out.below (bnext hb (varR_below w5 (rC 1 e0 (.slice oB om od))))); obtain ⟨rfl, rfl⟩ : on = ou.length ∧ om = ou.length := ⟨by have := U_4.out.1; simp at this; omega, by have := U_5.out.1; simp at this; omega⟩; clear f0 f1 f2 f3 f4 ff fl; clear hb ho hm2))
            | (with_reducible refine st_rs w5.heap.size N5.out rfl _ _ rfl rfl rfl rfl ?_)
            | (with_reducible refine ld_rs w4.heap.size R_45.out _ rfl rfl rfl ?_)
            | (with_reducible refine ld_rs w5.heap.size R_5.out _ rfl rfl rfl ?_)
            | (go_at_call 13; go_must ((with_reducible refine (rsameR_yes 1 e0 ou oA oB ou.length oc od _ U_45.out U_5.out (by omega)).mono ?_); rintro e w6 ⟨rfl, hb⟩; have B_6 := Lib.hid (bnext B_5.out hb); have C_6 := Lib.hid (C_5.out.below hb); have A_6 := Lib.hid (A_45.out.below hb); have A_6' := Lib.hid (A_5.out.below hb); clear hb)))
          have dkA : ln ≤ kA := A_6.out.2.1
          have dkB : ln ≤ kB := A_6'.out.2.1
          clear R_4 R_5 R_45 U_4 U_5 U_45 A_4 A_5 A_45 C_4 C_5 B_4 B_5 hap1 hap2 HC SX X_4 HB
          have AB : Hid (Ents w6 A kA l') := Lib.hid (by have := A_6.out; unfold Ents; rw [hlnl.out]; exact this)
          have XB : Hid (Ents w6 A' kB x') := Lib.hid (by have := A_6'.out; unfold Ents; rw [hlnx.out]; exact this)
          go_loopw [14] (fun ii wr => ∃ (k : Nat), k ≤ nw ∧ ii = .int .i64 (k : Int) ∧ Hid (Below w6.heap.size w6 wr)) (fun ii _ => nw - (intOf ii).toNat)
          case atStart => exact ⟨0, Nat.zero_le _, rfl, Lib.hid (Below.refl _ _)⟩
          case round =>
            obtain ⟨k, hk, rfl, HB⟩ := hrel
            have BB := Lib.hid (bnext B_6.out HB.out)
            have CB := Lib.hid (C_6.out.below HB.out)
            obtain ⟨f0, f1, f2, f3, f4, ff⟩ := CB.out.cmd
            have fl := CB.out.lt
            by_cases hlt : k < nw
            · have d1 : (k : Int) < (nw : Int) := by omega
              have d2 : (k : Int) < (wc : Int) := by omega
              obtain ⟨i, hie1, hi, heq⟩ := hsame.out k hlt
              obtain ⟨b, off, rfl, hbl, hv⟩ := (HWS.out.below BB.out).int hlt
              rw [hie1] at hv
              obtain ⟨g, og, rfl, hg, hl⟩ := AB.out.load h8l'.out (i := i) (by rw [hlnl.out]; exact hi)
              obtain ⟨g', og', rfl, hg', hl'⟩ := XB.out.load h8x'.out (i := i) (by rw [hlnx.out]; exact hi)
              have d3 : (i : Int) < (ln : Int) := by omega
              have d4 : (i : Int) < (kA : Int) := by omega
              have d5 : (i : Int) < (kB : Int) := by omega
              have HB8 := h8l'.out.at i
              have NE : Hid (∀ W, (binOp .neq 45 (.agg (bkC (entI (l'[i]?.getD entZ)))) (.agg (bkC (entI (x'[i]?.getD entZ))))).run Try.prog W = .ok (.bool false) W) := Lib.hid (fun W => by
                rw [← heq, neq_ent W HB8 HB8, decide_eq_true rfl]
                rfl)
              have L : Hid (∀ w', (∃ n, w' = wr.drewN n) → (loadVar 45 ⟨g, og + i * 9, none⟩).run Try.prog w' = .ok (.agg (bkC (entI (l'[i]?.getD entZ)))) w') := Lib.hid (by
                rintro _ ⟨q, rfl⟩
                exact (hl _ (bnext HB.out (drewN_below _ _))).1)
              have L' : Hid (∀ w', (∃ n, w' = wr.drewN n) → (loadVar 45 ⟨g', og' + i * 9, none⟩).run Try.prog w' = .ok (.agg (bkC (entI (x'[i]?.getD entZ)))) w') := Lib.hid (by
                rintro _ ⟨q, rfl⟩
                exact (hl' _ (bnext HB.out (drewN_below _ _))).1)
              clear hl hl' heq HB8
              generalize bkC (entI (l'[i]?.getD entZ)) = cs at *
              generalize bkC (entI (x'[i]?.getD entZ)) = cs' at *
              go_wp2
              try simp only [List.append_eq, List.cons_append, List.nil_append]
              refine wp_region_quiet_lit (by kernel_rfl) (by kernel_rfl) ?_
              repeat (first
                | (go_big_quiet_want; (first | refine quiet_load_at _ g (og + i * 9) L.out _ rfl rfl ?_ | refine quiet_load_at _ g' (og' + i * 9) L'.out _ rfl rfl ?_ | refine quiet_neq_at _ false eqGuardEnt NE.out _ _ _ rfl rfl rfl ?_); go_simp; go_big_quiet_on)
                | go_big_quiet_step (fail))
              refine wpQuiet_nil ?_
              rintro _ ⟨nq, rfl⟩
              go_wp2
              go_roundw
              case rel => exact ⟨k + 1, by omega, by go_num, Lib.hid (bnext HB.out (drewN_below _ _))⟩
              case measure => simp [intOf]; omega
            · obtain rfl : nw = k := by omega
              clear hlt
              go_wp2_with (go_at_call 8; go_must ((with_reducible refine (aw.out _).mono ?_); rintro e w9 ⟨rfl, hb9⟩; have B9 := Lib.hid (bnext BB.out hb9); clear hb9))
              go_ret
              exact ⟨rfl, B9.out⟩

theorem tableOthers_walk (h8 : Eight l) (h8m : Eight m) (w : World) (h : CmRaw w c ra nr rc wa nw wc aa na ac ca nc cc) (hL : Ents w lA lc l) (hln : l.length = ln) (hM : Ents w mA mc m) (hlm : m.length = mn) :
    Calls Try.prog 5 #[.slice lA ln lc, .slice mA mn mc, cmV ra nr rc wa nw wc aa na ac c.fuel ca nc cc] w fun e w' => e = .returned (.bool true) ∧ Below w.heap.size w w' := by
  by_cases hy : ln ≤ 64 ∧ MayBe c ∧ fitsT c ln
  · by_cases hb : mn = ln
    · subst hb
      exact tableOthers_yes c ra nr rc wa nw wc aa na ac ca nc cc l lA mn lc m mA mc hy.2.1 h8 h8m (by rw [hln]; exact hy.2.2) hln hlm hy.1 w h hL hM
    · exact tableOthers_len c ra nr rc wa nw wc aa na ac ca nc cc lA ln lc mA mn mc hy.2.1 hy.2.2 hy.1 hb w h
  · exact tableOthers_no c ra nr rc wa nw wc aa na ac ca nc cc lA ln lc mA mn mc w h hy

end
end Go.Proofs.Ytibmfhmeoohdeaa
