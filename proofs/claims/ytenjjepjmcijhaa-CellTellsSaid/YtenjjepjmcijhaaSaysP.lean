/-
  A statement whose order is open, some of whose operations turn memory once: what each operation is said to leave, and what is said to hold until an operation has come up. No conditions.
-/
import Derived.Test.YtenjjepjmcijhaaSaysK
namespace Go.Proofs.Ytenjjepjmcijhaa
open Go

theorem pre_on {pre : Nat → World → Prop} {listed : Array Bool} {i : Nat} {w w' : World} (hP : ∀ j, listed.getD j true = false → pre j w) (hpp : ∀ j, j ≠ i → pre j w → pre j w') : ∀ j, (listed.setIfInBounds i true).getD j true = false → pre j w' := by
  intro j hj
  by_cases e : j = i
  · subst e
    rw [getD_set_self] at hj
    cases hj
  · rw [getD_set_ne true (Ne.symm e)] at hj
    exact hpp j e (hP j hj)

section
variable {P : Program} {Q : Exit → Act → World → Prop}

/-- 'pre i': what holds until operation i has come up. -/
def walkP (P : Program) (md : Region.Mode) (R : World → World → Prop) (pre : Nat → World → Prop) (W : World) (a : Act) (heads : List Oper) (fin : List Says → Prop) : List Oper → List Says → Prop
  | [], φs => fin φs
  | o :: rest, φs => ∃ φ : Says, (∀ v w w', R w w' → φ v w → φ v w') ∧
      ((guardSays φs o ∧ ∀ u w, R W w → pre φs.length w → depsOf md φs u w o.after.toList → yieldsTo P o (look a heads u) w fun v w' => (R w w' ∧ ∀ j, j ≠ φs.length → pre j w → pre j w') ∧ φ v w') ∨ (guardStops φs o ∧ ∀ w, φ undef w)) ∧ walkP P md R pre W a heads fin rest (φs ++ [φ])

theorem walkP_out {md : Region.Mode} {R : World → World → Prop} {pre : Nat → World → Prop} {W : World} {a : Act} {heads : List Oper} {fin : List Says → Prop} : ∀ (rest : List Oper) (φs : List Says), walkP P md R pre W a heads fin rest φs →
    ∃ ψs, fin (φs ++ ψs) ∧ ψs.length = rest.length ∧ (∀ φ ∈ ψs, ∀ v w w', R w w' → φ v w → φ v w') ∧
      ∀ i o, rest[i]? = some o → ∃ φ, ψs[i]? = some φ ∧ ((guardSays (φs ++ ψs.take i) o ∧ ∀ u w, R W w → pre (φs.length + i) w → depsOf md (φs ++ ψs.take i) u w o.after.toList → yieldsTo P o (look a heads u) w fun v w' => (R w w' ∧ ∀ j, j ≠ φs.length + i → pre j w → pre j w') ∧ φ v w') ∨ (guardStops (φs ++ ψs.take i) o ∧ ∀ w, φ undef w))
  | [], φs, h => ⟨[], by rw [List.append_nil]; exact h, rfl, by simp, by simp⟩
  | o :: rest, φs, h => by
    obtain ⟨φ, hst, hy, hr⟩ := h
    obtain ⟨ψs, hf, hl, hs, hi⟩ := walkP_out rest (φs ++ [φ]) hr
    refine ⟨φ :: ψs, by simpa using hf, by simp [hl], fun φ' hm => ?_, fun i o' ho => ?_⟩
    · rcases List.mem_cons.1 hm with rfl | hm
      · exact hst
      · exact hs φ' hm
    · cases i with
      | zero =>
        simp at ho
        subst ho
        exact ⟨φ, rfl, by simpa using hy⟩
      | succ i =>
        obtain ⟨φ', h1, h2⟩ := hi i o' (by simpa using ho)
        refine ⟨φ', by simpa using h1, ?_⟩
        rw [List.length_append, List.length_singleton, Nat.add_assoc, Nat.add_comm 1 i] at h2
        simpa using h2

theorem wp_region_saysP {id : Nat} {a : Act} {w : World} {l : List Oper} (n : Nat) (R : World → World → Prop) (hRt : ∀ x y z, R x y → R y z → R x z) (pre : Nat → World → Prop) (hpre : ∀ j, pre j w.drew) (W : World) (hW : R W w.drew)
    (hm : P.follows .mixedOrders = true) (hB : relyB .any l.toArray n = true) (hA : apartB (l.take n) = true) (hg : guardB .any (l.take n) = true) (hF : fitsB a.tmps.size (l.take n) = true)
    (h : walkP P .any R pre W a (l.take n) (fun φs => ∀ u w', R W w' → sayAll w' φs 0 u → wpList P l.toArray Q (l.drop n) (putAll a (l.take n) 0 u) w') (l.take n) []) : (Code.region id l.toArray true).wp P Q a w := by
  obtain ⟨φs, hfin, hlen, hst, hy⟩ := walkP_out _ _ h
  simp only [List.nil_append, List.length_nil, Nat.zero_add] at hfin hy
  have hnl : n < l.length := by
    simp only [relyB, Bool.and_eq_true, decide_eq_true_eq] at hB
    simpa using hB.1.1.1.1
  have hln : φs.length = n := by rw [hlen]; simp; omega
  have hback : backB .any l.toArray n = true := by
    simp only [relyB, Bool.and_eq_true, decide_eq_true_eq] at hB
    exact hB.1.2
  refine wp_region_inv n hm hB (fun listed a' w' => R W w' ∧ (∀ j, listed.getD j true = false → pre j w') ∧ ∃ u, a' = putAll a (l.take n) 0 u ∧ ∀ j φ, φs[j]? = some φ → listed.getD j false = true → φ (u j) w') ?_ ?_ ?_
  · obtain ⟨u, hu⟩ := putAll_init a (l.take n)
    exact ⟨hW, fun j _ => hpre j, u, hu.symm, fun j φ _ hl => by rw [getD_replicate_false] at hl; cases hl⟩
  · rintro i listed a' w' hin hr ⟨hRW, hP, u, rfl, hsay⟩
    obtain ⟨hli, o, ho, hall⟩ := mem_ready.1 hr
    have ho' : (l.take n)[i]? = some o := by
      rw [List.getElem?_take, if_pos hin]
      simpa using ho
    obtain ⟨φ, hφ, hor⟩ := hy i o ho'
    have hd : depsOf .any (φs.take i) u w' o.after.toList := depsOf_mk _ fun e he hb => by
      have hm' : e ∈ o.after := by simpa using he
      obtain ⟨o2, ho2, hlt⟩ := backB_spec hback hin
      obtain rfl : o = o2 := Option.some.inj (ho.symm.trans ho2)
      have hei := hlt e hm' hb
      have h1 := hall e hm' hb
      cases hq : φs[e.on]? with
      | none => simp [hei, hq]
      | some ψ =>
        have := hsay e.on ψ hq h1
        simpa [List.getElem?_take, hei, hq] using this
    have hslot : ∀ (j : Nat) (b : Bool) (ψ : Says), o.guard = some (j, b) → (φs.take i).getD j (fun _ _ => True) = ψ → (φs.take i)[j]? = some ψ → ψ (u j) w' ∧ ∃ d, (l[j]?).bind (·.dst) = some d ∧ (putAll a (l.take n) 0 u).tmps[d]? = some (u j) := by
      intro j b ψ hgo hψ' hψ
      have hge : (o.after.any fun e => decide (e.on = j) && Region.binds .any e) = true := by
        have := List.all_eq_true.1 hg o (List.mem_of_getElem? ho')
        rw [hgo] at this
        exact this
      rw [Array.any_eq_true'] at hge
      obtain ⟨e, he, hej⟩ := hge
      simp only [Bool.and_eq_true, decide_eq_true_eq] at hej
      have hd1 := depsOf_at hd e (by simpa using he) hej.2
      rw [hej.1, hψ'] at hd1
      have hji : j < (φs.take i).length := by
        rcases Nat.lt_or_ge j (φs.take i).length with hx | hx
        · exact hx
        · rw [List.getElem?_eq_none hx] at hψ; cases hψ
      have hjn : j < n := by rw [List.length_take] at hji; omega
      have hjl : j < l.length := by omega
      have hoj : (l.take n)[j]? = some (l[j]'hjl) := by rw [List.getElem?_take, if_pos hjn, List.getElem?_eq_getElem hjl]
      have hds : (l[j]'hjl).dst.isSome = true := by
        have : ∀ (m : List Oper), apartB m = true → ∀ o ∈ m, o.dst.isSome = true := by
          intro m
          induction m with
          | nil => simp
          | cons x m ih =>
            intro hx o ho
            simp only [apartB, Bool.and_eq_true] at hx
            rcases List.mem_cons.1 ho with rfl | ho
            · exact hx.1.1
            · exact ih hx.2 o ho
        exact this _ hA _ (List.mem_of_getElem? hoj)
      obtain ⟨d, hdd⟩ := Option.isSome_iff_exists.1 hds
      have hfd : d < a.tmps.size := by
        have := List.all_eq_true.1 hF _ (List.mem_of_getElem? hoj)
        rw [hdd] at this
        simpa using this
      have hat := putAll_at a u d (l.take n) 0 hF
      rw [findAt_apart (l.take n) 0 hA j _ d hoj hdd] at hat
      simp only [Nat.zero_add] at hat
      have hsz : d < (putAll a (l.take n) 0 u).tmps.size := by rw [putAll_size]; exact hfd
      refine ⟨hd1, d, by rw [List.getElem?_eq_getElem hjl]; exact hdd, ?_⟩
      rw [Array.getElem?_eq_getElem hsz]
      congr 1
      rw [← hat]
      simp [hsz]
    unfold wpOp
    simp only [ho]
    rcases hor with ⟨hgs, hstep⟩ | ⟨hgs, hund⟩
    · have hys := hstep u w' hRW (hP i hli) hd
      have hw : Region.wanted o (yielded l.toArray (putAll a (l.take n) 0 u).tmps) = true := by
        unfold guardSays at hgs
        unfold Region.wanted
        cases hgo : o.guard with
        | none => rfl
        | some g =>
          obtain ⟨j, b⟩ := g
          rw [hgo] at hgs
          obtain ⟨ψ, hψ, hval⟩ := hgs
          obtain ⟨hd1, d, hdst, hget⟩ := hslot j b ψ hgo (by rw [List.getD_eq_getElem?_getD, hψ]; rfl) hψ
          have huj := hval _ _ hd1
          rw [huj] at hget
          simp [yielded, hdst, hget]
      rw [if_pos hw]
      refine .inl (wp_of_yields (by rw [look_eval a u _ hF]; exact hys) ?_)
      rintro v w'' ⟨⟨hR, hpp⟩, hv⟩
      refine ⟨hRt _ _ _ hRW hR, pre_on hP hpp, upd u i v, ?_, fun j ψ hj hl => ?_⟩
      · have := putAll_put a u v (l.take n) 0 hA i o ho'
        simpa using this
      · by_cases hji : j = i
        · subst hji
          obtain rfl : ψ = φ := Option.some.inj (hj.symm.trans hφ)
          simpa [upd] using hv
        · rw [getD_set_ne false (Ne.symm hji)] at hl
          simp only [upd, if_neg hji]
          exact hst ψ (List.mem_of_getElem? hj) _ _ _ hR (hsay j ψ hj hl)
    · have hw : Region.wanted o (yielded l.toArray (putAll a (l.take n) 0 u).tmps) = false := by
        obtain ⟨j, b, ψ, hgo, hψ, hval⟩ := hgs
        obtain ⟨hd1, d, hdst, hget⟩ := hslot j b ψ hgo (by rw [List.getD_eq_getElem?_getD, hψ]; rfl) hψ
        have huj := hval _ _ hd1
        unfold Region.wanted
        rw [hgo]
        have hy : yielded l.toArray (putAll a (l.take n) 0 u).tmps j ≠ some b := by
          unfold yielded
          rw [List.getElem?_toArray, hdst]
          simp only [Option.bind_some, hget]
          intro he
          split at he
          · rename_i b' hb'
            injection hb' with hb'
            injection he with he
            exact huj (by rw [hb', he])
          · cases he
        simpa using hy
      rw [if_neg (by rw [hw]; decide)]
      refine ⟨hRW, pre_on hP (fun _ _ h => h), upd u i undef, ?_, fun j ψ hj hl => ?_⟩
      · have := putAll_put a u undef (l.take n) 0 hA i o ho'
        simpa using this
      · by_cases hji : j = i
        · subst hji
          obtain rfl : ψ = φ := Option.some.inj (hj.symm.trans hφ)
          simpa [upd] using hund w'
        · rw [getD_set_ne false (Ne.symm hji)] at hl
          simp only [upd, if_neg hji]
          exact hsay j ψ hj hl
  · rintro a' w' ⟨hRW, -, u, rfl, hsay⟩
    refine hfin u w' hRW (sayAll_mk φs 0 fun i φ hi => ?_)
    have hin : i < n := by
      rcases Nat.lt_or_ge i n with h | h
      · exact h
      · rw [List.getElem?_eq_none (by omega)] at hi; cases hi
    rw [Nat.zero_add]
    refine hsay i φ hi ?_
    have : i < l.length := by omega
    simp [doneN, List.getElem?_append, hin]

/-- What is said so far, in another spelling. -/
theorem walkP_norm {md : Region.Mode} {R : World → World → Prop} {pre : Nat → World → Prop} {W : World} {a : Act} {heads : List Oper} {fin : List Says → Prop} {rest : List Oper} {φs φs' : List Says} (e : φs = φs') (h : walkP P md R pre W a heads fin rest φs') : walkP P md R pre W a heads fin rest φs := by
  rw [e]
  exact h

/-- A value, and what the world is like. -/
def isB (c : Value) (ψ : World → Prop) : Says := fun v w => v = c ∧ ψ w

theorem gsB {φs : List Says} {o : Oper} {j : Nat} {b : Bool} {c : Value} {ψ : World → Prop} (h : o.guard = some (j, b)) (hφ : φs[j]? = some (isB c ψ)) (hc : c = .bool b) : guardSays φs o := by
  unfold guardSays
  rw [h]
  exact ⟨_, hφ, fun v w hv => hv.1.trans hc⟩

section
variable {md : Region.Mode} {R : World → World → Prop} {pre : Nat → World → Prop} {W : World} {a : Act} {heads : List Oper} {fin : List Says → Prop} {o : Oper} {rest : List Oper} {φs : List Says}

/-- An operation that leaves the world as it is. -/
theorem walkP_is (c : Value) (hgs : guardSays φs o) (hr : ∀ w, R w w)
    (hy : ∀ u w, R W w → depsOf md φs u w o.after.toList → (execOp (look a heads u) o).run P w = .ok (.value c) w) (h : walkP P md R pre W a heads fin rest (φs ++ [isV c])) : walkP P md R pre W a heads fin (o :: rest) φs :=
  ⟨isV c, fun _ _ _ _ h => h, .inl ⟨hgs, fun u w hw _ hd => by unfold yieldsTo; rw [hy u w hw hd]; exact ⟨⟨hr w, fun _ _ h => h⟩, rfl⟩⟩, h⟩

/-- .. and of whose world more is said. -/
theorem walkP_isB (c : Value) (ψ : World → Prop) (hψ : ∀ x y, R x y → ψ x → ψ y) (hgs : guardSays φs o) (hr : ∀ w, R w w)
    (hy : ∀ u w, R W w → depsOf md φs u w o.after.toList → (execOp (look a heads u) o).run P w = .ok (.value c) w ∧ ψ w) (h : walkP P md R pre W a heads fin rest (φs ++ [isB c ψ])) : walkP P md R pre W a heads fin (o :: rest) φs :=
  ⟨isB c ψ, fun _ _ _ hR h => ⟨h.1, hψ _ _ hR h.2⟩, .inl ⟨hgs, fun u w hw _ hd => by unfold yieldsTo; rw [(hy u w hw hd).1]; exact ⟨⟨hr w, fun _ _ h => h⟩, rfl, (hy u w hw hd).2⟩⟩, h⟩

/-- A call that turns nothing that lies there. -/
theorem walkP_call (c : Value) (f : FuncId) (args : Array Value) (hgs : guardSays φs o) (hB : ∀ x y, RowKit.Below x.heap.size x y → R x y ∧ ∀ j, pre j x → pre j y)
    (hy : ∀ u w, R W w → depsOf md φs u w o.after.toList → (execOp (look a heads u) o).run P w = .ok (.enter f args) w)
    (hc : ∀ u w, R W w → depsOf md φs u w o.after.toList → Calls P f args w fun e w' => e = .returned c ∧ RowKit.Below w.heap.size w w') (h : walkP P md R pre W a heads fin rest (φs ++ [isV c])) : walkP P md R pre W a heads fin (o :: rest) φs :=
  ⟨isV c, fun _ _ _ _ h => h, .inl ⟨hgs, fun u w hw _ hd => by
    unfold yieldsTo
    rw [hy u w hw hd]
    exact (hc u w hw hd).mono fun e w' ⟨he, hb⟩ => ⟨c, he, ⟨(hB w w' hb).1, fun j _ => (hB w w' hb).2 j⟩, rfl⟩⟩, h⟩

/-- A call that turns something, once. -/
theorem walkP_once (c : Value) (ψ : World → Prop) (hψ : ∀ x y, R x y → ψ x → ψ y) (f : FuncId) (args : Array Value) (hgs : guardSays φs o)
    (hy : ∀ u w, R W w → depsOf md φs u w o.after.toList → (execOp (look a heads u) o).run P w = .ok (.enter f args) w)
    (hc : ∀ w, R W w → pre φs.length w → Calls P f args w fun e w' => e = .returned c ∧ (R w w' ∧ ∀ j, j ≠ φs.length → pre j w → pre j w') ∧ ψ w') (h : walkP P md R pre W a heads fin rest (φs ++ [isB c ψ])) : walkP P md R pre W a heads fin (o :: rest) φs :=
  ⟨isB c ψ, fun _ _ _ hR h => ⟨h.1, hψ _ _ hR h.2⟩, .inl ⟨hgs, fun u w hw hp hd => by
    unfold yieldsTo
    rw [hy u w hw hd]
    exact (hc w hw hp).mono fun e w' ⟨he, hr, hw'⟩ => ⟨c, he, hr, rfl, hw'⟩⟩, h⟩

/-- An operation that its guard stops. -/
theorem walkP_skip (hgs : guardStops φs o) (h : walkP P md R pre W a heads fin rest (φs ++ [isV undef])) : walkP P md R pre W a heads fin (o :: rest) φs :=
  ⟨isV undef, fun _ _ _ _ h => h, .inr ⟨hgs, fun _ => rfl⟩, h⟩
end

end
end Go.Proofs.Ytenjjepjmcijhaa
