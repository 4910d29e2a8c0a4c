/-
  What pool.copied and has answer, in whatever memory: a row of tasks that say the same, with lists of their own. No conditions but those that stand there.
-/
import Derived.Test.YtldljohholgmoaaZPooBt
namespace Go.Proofs.Ytldljohholgmoaa
open Go Go.RowKit

section
variable {ops : Array Oper} {rest : List Oper} {o : Oper} {a : Act} {w : World} {Q : Exit → Act → World → Prop}
/-- a task is loaded whole out of a row. -/
theorem ld_tskm (b i : Nat) {t : TkL} (hc : w.rangeAt b i (tkC t)) (x : Operand) (hgd : o.guard = none) (ho : o.op = .load 41 x) (hx : a.eval x = .pointer (some ⟨b, i, none⟩))
    (h : wpList Try.prog ops Q rest (a.put o.dst (.agg (tkA t))) w) : wpList Try.prog ops Q (o :: rest) a w :=
  wpList_load_mid hgd _ x ho b i hx (tkC t) _ hc Try.underlying41 rfl infoTk h
/-- and stored into one. -/
theorem st_tskm (b i : Nat) (t : TkL) (x y : Operand) (hgd : o.guard = none) (ho : o.op = .store 41 x y) (hx : a.eval x = .pointer (some ⟨b, i, none⟩)) (hy : a.eval y = .agg (tkA t)) (ht : w.there b i 18)
    (h : wpList Try.prog ops Q rest (a.put o.dst undef) (w.setCells b i (tkC t))) : wpList Try.prog ops Q (o :: rest) a w :=
  wpList_store_mid hgd _ x y ho b i (tkA t) hx hy ht infoTk (tkA_all t) h
end

/-- half a copy: the first i are new. -/
structure CpI (l : List TkL) (B : Nat) (A : Option Addr) (i : Nat) (m : List TkL) : Prop where
  says : saysT m (l.map TkL.tsk)
  few : ∀ t ∈ m, fewT t
  off : TkOff A m
  over : ∀ k t, k < i → m[k]? = some t → t.Over B

theorem CpI.next {l m : List TkL} {B g i : Nat} {t u : TkL} (h : CpI l B (some ⟨g, 0, none⟩) i m) (ht : m[i]? = some t) (hs : u.tsk = t.tsk) (hf : fewT u) (ho : u.Over B) (hg : u.Off g) : CpI l B (some ⟨g, 0, none⟩) (i + 1) (m.set i u) := by
  refine ⟨?_, fun v hv => ?_, fun g' off e v hv => ?_, fun k v hk hv => ?_⟩
  · unfold saysT
    rw [List.map_set, hs, ← h.says]
    apply List.ext_getElem?
    intro j
    by_cases e : j = i
    · subst e
      rw [List.getElem?_set, if_pos rfl, List.getElem?_map, ht]
      simp only [List.length_map]
      rw [if_pos (tk_lt ht)]
      rfl
    · rw [List.getElem?_set_ne (Ne.symm e)]
  · rcases List.mem_or_eq_of_mem_set hv with q | q
    · exact h.few v q
    · rw [q]; exact hf
  · injection e with e
    injection e with e1
    subst e1
    rcases List.mem_or_eq_of_mem_set hv with q | q
    · exact h.off _ _ rfl v q
    · rw [q]; exact hg
  · by_cases e : k = i
    · subst e
      rw [List.getElem?_set_self (tk_lt ht)] at hv
      injection hv with hv
      rw [← hv]; exact ho
    · rw [List.getElem?_set_ne (Ne.symm e)] at hv
      exact h.over k v (by omega) hv

set_option maxHeartbeats 2000000 in
set_option maxRecDepth 100000 in
theorem pcopied_any (l : List TkL) (A : Option Addr) (n c : Nat) (w : World) (h : Tks w A c l) (hN : l.length = n) (hn : n ≤ 1000) (hf : ∀ t ∈ l, fewT t) :
    Calls Try.prog 31 #[.slice A n c] w (TpPost (l.map TkL.tsk) w) := by
  have hcl := Lib.hid (clone_tsks A n c l w h hN hn)
  have H := Lib.hid h
  have HF := Lib.hid hf
  clear h hf hN
  go_enter Try.func31, Try.ntmps31
  go_wp2_with (go_at_call 50; go_must ((with_reducible refine hcl.out.mono ?_); rintro e w1 ⟨A1, c1, rfl, hO, hb1⟩; have O1 := Lib.hid hO; have B1 := Lib.hid hb1; clear hO hb1))
  have hcap := O1.out.cap
  have I0 : Hid (CpI l w.heap.size A1 0 l) := Lib.hid ⟨rfl, HF.out, fun g off e t ht => by
    rcases O1.out.2.1.2 with ⟨q, -⟩ | ⟨g', _, _, q, hb, -⟩
    · injection q with q
      rw [e] at q
      cases q
    · injection q with q
      rw [e] at q
      injection q with q
      injection q with q1
      subst q1
      exact (H.out.2 t ht).off_ge hb, fun k t hk => absurd hk (by omega)⟩
  go_loopw [9] (fun cc wr => ∃ (i : Nat) (m : List TkL), i ≤ n ∧ cc = .int .i64 i ∧ Hid (TkOwn w.heap.size wr A1 n c1 m) ∧ Hid (CpI l w.heap.size A1 i m) ∧ Hid (Below w.heap.size w wr)) (fun cc _ => n - (intOf cc).toNat)
  case atStart => exact ⟨0, l, Nat.zero_le _, rfl, O1, I0, B1⟩
  case round =>
    obtain ⟨i, m, hi, rfl, HO, HI, HB⟩ := hrel
    by_cases hlt : i < n
    · have d1 : (i : Int) < (n : Int) := by omega
      have d2 : (i : Int) < (c1 : Int) := by omega
      obtain ⟨t, ht⟩ := tk_at (l := m) (i := i) (by rw [HO.out.1]; exact hlt)
      obtain ⟨g, cs, rfl, hg, hk, hsz⟩ := HO.out.pos (by omega)
      obtain ⟨g', off, hA, hat, hin⟩ := HO.out.sl.at ht
      injection hA with hA
      injection hA with hA1 hA2
      subst hA1
      subst hA2
      have hgl := hk.lt
      have hr := hat.all
      rw [Nat.zero_add] at hr
      have HR := Lib.hid hr
      have BZ := below_alloc1 wr (.cells tkZ 41)
      have KZ := Lib.hid (Bk.new wr 41 tkZ)
      have KT := Lib.hid (KZ.out.setRow (tkA t))
      have BT := below_row BZ (Nat.le_refl _) (tkA t)
      have hc := Lib.hid (owntask_any t _ (hin.below BT) (HI.out.few t (List.mem_of_getElem? ht)))
      have hZ : wr.heap.size ≤ ((wr.alloc (.cells tkZ 41)).setRow wr.heap.size (tkA t)).heap.size := BT.size
      have HT := Lib.hid ht
      have BT := Lib.hid BT
      have IN := Lib.hid hin
      clear hat hr hin ht hk BZ
      go_wp2_with (first
        | (with_reducible refine ld_tskm g (i * 18) HR.out _ rfl rfl rfl ?_)
        | (with_reducible refine st_tsk wr.heap.size KZ.out rfl t _ _ rfl rfl rfl rfl ?_)
        | (with_reducible refine ld_tsk wr.heap.size KT.out _ rfl rfl rfl ?_)
        | (go_at_call 32; go_must ((with_reducible refine hc.out.mono ?_); rintro e w3 ⟨u, rfl, hus, hui, huo, hb3⟩; have US := Lib.hid hus; have UI := Lib.hid hui; have UO := Lib.hid huo; have B3 := Lib.hid (bnext BT.out hb3); clear hus hui huo hb3; have O3 := Lib.hid (HO.out.below B3.out); have ht3 : Hid (w3.there g (i * 18) 18) := Lib.hid (by
            obtain ⟨g', cs', hA, -, hk', hsz'⟩ := O3.out.pos (by omega)
            injection hA with hA
            injection hA with hA1
            subst hA1
            exact hk'.there (by omega))))
        | (with_reducible refine st_tskm g (i * 18) u _ _ rfl rfl rfl rfl ht3.out ?_))
      have hug : u.Off g := UO.out.off (by omega)
      have hO4 : TkOwn w.heap.size (w3.setCells g (i * 18) (tkC u)) (some ⟨g, 0, none⟩) n c1 (m.set i u) := O3.out.set hlt fun v hv => by
        rcases List.mem_or_eq_of_mem_set hv with q | q
        · exact (O3.out.2.2 v q).setCells (HI.out.off _ _ rfl v q) _ _
        · rw [q]
          exact UI.out.setCells hug _ _
      have hB4 := below_setCells (HB.out.trans (B3.out.mono HB.out.size)) hg (tkC u) (i * 18)
      have hI4 : CpI l w.heap.size (some ⟨g, 0, none⟩) (i + 1) (m.set i u) := HI.out.next HT.out US.out ((HI.out.few t (List.mem_of_getElem? HT.out)).of IN.out UI.out US.out) (UO.out.lower (Nat.le_trans HB.out.size hZ)) hug
      have O4 := Lib.hid hO4
      have B4 := Lib.hid hB4
      have I4 := Lib.hid hI4
      clear hO4 hB4 hI4 hug
      go_roundw
      case rel => exact ⟨i + 1, m.set i u, by omega, by go_num, O4, I4, B4⟩
      case measure => simp [intOf]; omega
    · obtain rfl : i = n := by omega
      clear hlt
      go_wp2
      go_ret
      exact ⟨_, _, _, m, rfl, ⟨HO.out, HI.out.says, HI.out.few, fun t ht => by
        obtain ⟨k, hk⟩ := List.getElem?_of_mem ht
        exact HI.out.over k t (by have := tk_lt hk; rw [HO.out.1] at this; exact this) hk, HI.out.off⟩, HB.out⟩

theorem phas_yes (A : Option Addr) (n c i : Nat) (w : World) (hi : i < n) :
    Calls Try.prog 36 #[.slice A n c, .int .i64 (i : Int)] w fun e w' => e = .returned (.bool true) ∧ w = w' := by
  have d1 : (i : Int) < (n : Int) := by omega
  have d2 : (0 : Int) ≤ (i : Int) := by omega
  go_enter Try.func36, Try.ntmps36
  go_wp2
  go_ret
  exact ⟨rfl, rfl⟩

end Go.Proofs.Ytldljohholgmoaa
