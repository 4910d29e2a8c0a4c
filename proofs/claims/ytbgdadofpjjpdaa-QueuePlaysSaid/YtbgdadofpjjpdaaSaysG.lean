/-
  A statement whose order is open, some of whose operations are guarded, operation by operation: what each is said to leave, where each guard is said to let by. No conditions.
-/
import Derived.Test.YtbgdadofpjjpdaaSays
namespace Go.Proofs.Ytbgdadofpjjpdaa
open Go

theorem findAt_apart : ∀ (l : List Oper) (k : Nat), apartB l = true → ∀ (i : Nat) (o : Oper) (d : Tmp), l[i]? = some o → o.dst = some d → findAt l k d = some (k + i)
  | [], _, _, _, _, _, h, _ => by simp at h
  | o :: rest, k, _, 0, o', d, h, hd => by
    simp at h
    subst h
    simp [findAt, hd]
  | o :: rest, k, ha, i + 1, o', d, h, hd => by
    simp only [apartB, Bool.and_eq_true] at ha
    have hr : rest[i]? = some o' := by simpa using h
    have hne := List.all_eq_true.1 ha.1.2 o' (List.mem_of_getElem? hr)
    simp only [decide_eq_true_eq] at hne
    rw [findAt, if_neg (fun e => hne (by rw [hd, e])), findAt_apart rest (k + 1) ha.2 i o' d hr hd]
    congr 1
    omega

/-- Each guard is waited for. -/
def guardB (md : Region.Mode) (l : List Oper) : Bool := l.all fun o => match o.guard with
  | none => true
  | some (j, _) => o.after.any fun e => decide (e.on = j) && Region.binds md e

/-- What is said of its guard lets the operation by. -/
def guardSays (φs : List Says) (o : Oper) : Prop := match o.guard with
  | none => True
  | some (j, b) => ∃ φ, φs[j]? = some φ ∧ ∀ v w, φ v w → v = .bool b

section
variable {P : Program} {Q : Exit → Act → World → Prop}

def walkG (P : Program) (md : Region.Mode) (R : World → World → Prop) (W : World) (a : Act) (heads : List Oper) (fin : List Says → Prop) : List Oper → List Says → Prop
  | [], φs => fin φs
  | o :: rest, φs => ∃ φ : Says, guardSays φs o ∧ (∀ v w w', R w w' → φ v w → φ v w') ∧
      (∀ u w, R W w → depsOf md φs u w o.after.toList → yieldsTo P o (look a heads u) w fun v w' => R w w' ∧ φ v w') ∧ walkG P md R W a heads fin rest (φs ++ [φ])

theorem walkG_out {md : Region.Mode} {R : World → World → Prop} {W : World} {a : Act} {heads : List Oper} {fin : List Says → Prop} : ∀ (rest : List Oper) (φs : List Says), walkG P md R W a heads fin rest φs →
    ∃ ψs, fin (φs ++ ψs) ∧ ψs.length = rest.length ∧ (∀ φ ∈ ψs, ∀ v w w', R w w' → φ v w → φ v w') ∧
      ∀ i o, rest[i]? = some o → guardSays (φs ++ ψs.take i) o ∧ ∃ φ, ψs[i]? = some φ ∧ ∀ u w, R W w → depsOf md (φs ++ ψs.take i) u w o.after.toList → yieldsTo P o (look a heads u) w fun v w' => R w w' ∧ φ v w'
  | [], φs, h => ⟨[], by rw [List.append_nil]; exact h, rfl, by simp, by simp⟩
  | o :: rest, φs, h => by
    obtain ⟨φ, hgs, hst, hy, hr⟩ := h
    obtain ⟨ψs, hf, hl, hs, hi⟩ := walkG_out rest (φs ++ [φ]) hr
    refine ⟨φ :: ψs, by simpa using hf, by simp [hl], fun φ' hm => ?_, fun i o' ho => ?_⟩
    · rcases List.mem_cons.1 hm with rfl | hm
      · exact hst
      · exact hs φ' hm
    · cases i with
      | zero =>
        simp at ho
        subst ho
        exact ⟨by simpa using hgs, φ, rfl, by simpa using hy⟩
      | succ i =>
        obtain ⟨h0, φ', h1, h2⟩ := hi i o' (by simpa using ho)
        exact ⟨by simpa using h0, φ', by simpa using h1, by simpa using h2⟩

theorem depsOf_at {md : Region.Mode} {φs : List Says} {u : Nat → Value} {w : World} : ∀ {es : List Edge}, depsOf md φs u w es → ∀ e ∈ es, Region.binds md e = true → φs.getD e.on (fun _ _ => True) (u e.on) w
  | [], _, _, he, _ => by cases he
  | e' :: es, h, e, he, hb => by
    rcases List.mem_cons.1 he with rfl | he
    · exact h.1 hb
    · exact depsOf_at h.2 e he hb

theorem wp_region_saysG {id : Nat} {a : Act} {w : World} {l : List Oper} (n : Nat) (R : World → World → Prop) (hRt : ∀ x y z, R x y → R y z → R x z) (W : World) (hW : R W w.drew)
    (hm : P.follows .mixedOrders = true) (hB : relyB .any l.toArray n = true) (hA : apartB (l.take n) = true) (hg : guardB .any (l.take n) = true) (hF : fitsB a.tmps.size (l.take n) = true)
    (h : walkG P .any R W a (l.take n) (fun φs => ∀ u w', R W w' → sayAll w' φs 0 u → wpList P l.toArray Q (l.drop n) (putAll a (l.take n) 0 u) w') (l.take n) []) : (Code.region id l.toArray true).wp P Q a w := by
  obtain ⟨φs, hfin, hlen, hst, hy⟩ := walkG_out _ _ h
  simp only [List.nil_append] at hfin hy
  have hnl : n < l.length := by
    simp only [relyB, Bool.and_eq_true, decide_eq_true_eq] at hB
    simpa using hB.1.1.1.1
  have hln : φs.length = n := by rw [hlen]; simp; omega
  have hback : backB .any l.toArray n = true := by
    simp only [relyB, Bool.and_eq_true, decide_eq_true_eq] at hB
    exact hB.1.2
  refine wp_region_inv n hm hB (fun listed a' w' => R W w' ∧ ∃ u, a' = putAll a (l.take n) 0 u ∧ ∀ j φ, φs[j]? = some φ → listed.getD j false = true → φ (u j) w') ?_ ?_ ?_
  · obtain ⟨u, hu⟩ := putAll_init a (l.take n)
    exact ⟨hW, u, hu.symm, fun j φ _ hl => by rw [getD_replicate_false] at hl; cases hl⟩
  · rintro i listed a' w' hin hr ⟨hRW, u, rfl, hsay⟩
    obtain ⟨hli, o, ho, hall⟩ := mem_ready.1 hr
    have ho' : (l.take n)[i]? = some o := by
      rw [List.getElem?_take, if_pos hin]
      simpa using ho
    obtain ⟨hgs, φ, hφ, hstep⟩ := hy i o ho'
    have hd : depsOf .any (φs.take i) u w' o.after.toList := depsOf_mk _ fun e he hb => by
      have hm' : e ∈ o.after := by simpa using he
      obtain ⟨o2, ho2, hlt⟩ := backB_spec hback hin
      obtain rfl : o = o2 := Option.some.inj (ho.symm.trans ho2)
      have hei := hlt e hm' hb
      have h1 := hall e hm' hb
      cases hq : φs[e.on]? with
      | none => simp [hei, hq]
      | some ψ =>
        have := hsay e.on ψ hq h1
        simpa [List.getElem?_take, hei, hq] using this
    have hys := hstep u w' hRW hd
    unfold wpOp
    simp only [ho]
    have hw : Region.wanted o (yielded l.toArray (putAll a (l.take n) 0 u).tmps) = true := by
      unfold guardSays at hgs
      unfold Region.wanted
      cases hgo : o.guard with
      | none => rfl
      | some g =>
        obtain ⟨j, b⟩ := g
        rw [hgo] at hgs
        obtain ⟨ψ, hψ, hval⟩ := hgs
        have hge : (o.after.any fun e => decide (e.on = j) && Region.binds .any e) = true := by
          have := List.all_eq_true.1 hg o (List.mem_of_getElem? ho')
          rw [hgo] at this
          exact this
        rw [Array.any_eq_true'] at hge
        obtain ⟨e, he, hej⟩ := hge
        simp only [Bool.and_eq_true, decide_eq_true_eq] at hej
        have hd1 := depsOf_at hd e (by simpa using he) hej.2
        rw [hej.1] at hd1
        have hψ' : (φs.take i).getD j (fun _ _ => True) = ψ := by rw [List.getD_eq_getElem?_getD, hψ]; rfl
        rw [hψ'] at hd1
        have huj := hval _ _ hd1
        have hji : j < (φs.take i).length := by
          rcases Nat.lt_or_ge j (φs.take i).length with hx | hx
          · exact hx
          · rw [List.getElem?_eq_none hx] at hψ; cases hψ
        have hjn : j < n := by rw [List.length_take] at hji; omega
        have hjl : j < l.length := by omega
        have hoj : (l.take n)[j]? = some (l[j]'hjl) := by rw [List.getElem?_take, if_pos hjn, List.getElem?_eq_getElem hjl]
        have hds : (l[j]'hjl).dst.isSome = true := by
          have : ∀ (m : List Oper), apartB m = true → ∀ o ∈ m, o.dst.isSome = true := by
            intro m
            induction m with
            | nil => simp
            | cons x m ih =>
              intro hx o ho
              simp only [apartB, Bool.and_eq_true] at hx
              rcases List.mem_cons.1 ho with rfl | ho
              · exact hx.1.1
              · exact ih hx.2 o ho
          exact this _ hA _ (List.mem_of_getElem? hoj)
        obtain ⟨d, hdd⟩ := Option.isSome_iff_exists.1 hds
        have hfd : d < a.tmps.size := by
          have := List.all_eq_true.1 hF _ (List.mem_of_getElem? hoj)
          rw [hdd] at this
          simpa using this
        have hat := putAll_at a u d (l.take n) 0 hF
        rw [findAt_apart (l.take n) 0 hA j _ d hoj hdd] at hat
        simp only [Nat.zero_add] at hat
        have hsz : d < (putAll a (l.take n) 0 u).tmps.size := by rw [putAll_size]; exact hfd
        have hget : (putAll a (l.take n) 0 u).tmps[d]? = some (.bool b) := by
          rw [Array.getElem?_eq_getElem hsz]
          congr 1
          rw [← huj, ← hat]
          simp [hsz]
        simp [yielded, hjl, hdd, hget]
    rw [if_pos hw]
    refine .inl (wp_of_yields (by rw [look_eval a u _ hF]; exact hys) ?_)
    rintro v w'' ⟨hR, hv⟩
    refine ⟨hRt _ _ _ hRW hR, upd u i v, ?_, fun j ψ hj hl => ?_⟩
    · have := putAll_put a u v (l.take n) 0 hA i o ho'
      simpa using this
    · by_cases hji : j = i
      · subst hji
        obtain rfl : ψ = φ := Option.some.inj (hj.symm.trans hφ)
        simpa [upd] using hv
      · rw [getD_set_ne false (Ne.symm hji)] at hl
        simp only [upd, if_neg hji]
        exact hst ψ (List.mem_of_getElem? hj) _ _ _ hR (hsay j ψ hj hl)
  · rintro a' w' ⟨hRW, u, rfl, hsay⟩
    refine hfin u w' hRW (sayAll_mk φs 0 fun i φ hi => ?_)
    have hin : i < n := by
      rcases Nat.lt_or_ge i n with h | h
      · exact h
      · rw [List.getElem?_eq_none (by omega)] at hi; cases hi
    rw [Nat.zero_add]
    refine hsay i φ hi ?_
    have : i < l.length := by omega
    simp [doneN, List.getElem?_append, hin]

theorem isV_guard (c : Value) (b : Bool) (h : c = .bool b) : ∀ v w, isV c v w → v = .bool b := fun _ _ hv => hv.trans h

theorem gs0 {φs : List Says} {o : Oper} (h : o.guard = none) : guardSays φs o := by unfold guardSays; rw [h]; trivial
theorem gs1 {φs : List Says} {o : Oper} {j : Nat} {b : Bool} {c : Value} (h : o.guard = some (j, b)) (hφ : φs[j]? = some (isV c)) (hc : c = .bool b) : guardSays φs o := by
  unfold guardSays
  rw [h]
  exact ⟨_, hφ, isV_guard c b hc⟩

theorem walkG_is {md : Region.Mode} {R : World → World → Prop} {W : World} {a : Act} {heads : List Oper} {fin : List Says → Prop} {o : Oper} {rest : List Oper} {φs : List Says} (c : Value) (hgs : guardSays φs o) (hr : ∀ w, R w w)
    (hy : ∀ u w, R W w → depsOf md φs u w o.after.toList → (execOp (look a heads u) o).run P w = .ok (.value c) w) (h : walkG P md R W a heads fin rest (φs ++ [isV c])) : walkG P md R W a heads fin (o :: rest) φs :=
  ⟨isV c, hgs, fun _ _ _ _ h => h, fun u w hw hd => by unfold yieldsTo; rw [hy u w hw hd]; exact ⟨hr w, rfl⟩, h⟩

/-- An operation that makes memory. -/
theorem walkG_new {md : Region.Mode} {R : World → World → Prop} {W : World} {a : Act} {heads : List Oper} {fin : List Says → Prop} {o : Oper} {rest : List Oper} {φs : List Says} (φ : Says) (hgs : guardSays φs o) (hst : ∀ v w w', R w w' → φ v w → φ v w')
    (hy : ∀ u w, R W w → depsOf md φs u w o.after.toList → ∃ v w', (execOp (look a heads u) o).run P w = .ok (.value v) w' ∧ R w w' ∧ φ v w') (h : walkG P md R W a heads fin rest (φs ++ [φ])) : walkG P md R W a heads fin (o :: rest) φs :=
  ⟨φ, hgs, hst, fun u w hw hd => by
    obtain ⟨v, w', e, h1, h2⟩ := hy u w hw hd
    unfold yieldsTo
    rw [e]
    exact ⟨h1, h2⟩, h⟩

/-- A call that is said to leave this. -/
theorem walkG_call {md : Region.Mode} {R : World → World → Prop} {W : World} {a : Act} {heads : List Oper} {fin : List Says → Prop} {o : Oper} {rest : List Oper} {φs : List Says} (φ : Says) (f : FuncId) (args : Array Value) (hgs : guardSays φs o) (hst : ∀ v w w', R w w' → φ v w → φ v w')
    (hy : ∀ u w, R W w → depsOf md φs u w o.after.toList → (execOp (look a heads u) o).run P w = .ok (.enter f args) w)
    (hc : ∀ w, R W w → Calls P f args w fun e w' => ∃ v, e = .returned v ∧ R w w' ∧ φ v w') (h : walkG P md R W a heads fin rest (φs ++ [φ])) : walkG P md R W a heads fin (o :: rest) φs :=
  ⟨φ, hgs, hst, fun u w hw hd => by unfold yieldsTo; rw [hy u w hw hd]; exact hc w hw, h⟩

end
end Go.Proofs.Ytbgdadofpjjpdaa
