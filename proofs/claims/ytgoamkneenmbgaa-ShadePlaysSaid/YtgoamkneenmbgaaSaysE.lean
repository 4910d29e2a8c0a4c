/-
  A statement whose order is open, some of whose operations may store, and the others' values hang on each other: what all of them have left together, by what has come up. No conditions.
-/
import Derived.Test.YtgoamkneenmbgaaSays
namespace Go.Proofs.Ytgoamkneenmbgaa
open Go

/-- Each leaves its value in a slot of its own, or in none. -/
def apartD : List Oper → Bool
  | [] => true
  | o :: rest => (o.dst.isNone || rest.all (fun o' => decide (o'.dst ≠ o.dst))) && apartD rest

theorem putAll_putD (a : Act) (u : Nat → Value) (v : Value) : ∀ l k, apartD l = true → ∀ i o, l[i]? = some o → (putAll a l k u).put o.dst v = putAll a l k (upd u (k + i) v)
  | [], _, _, _, _, h => by simp at h
  | o :: rest, k, ha, 0, o', h => by
    simp at h
    subst h
    show ((putAll a rest (k + 1) u).put o.dst (u k)).put o.dst v = (putAll a rest (k + 1) (upd u k v)).put o.dst (upd u k v k)
    rw [put_put, putAll_lt a u k v rest (k + 1) (by omega)]
    simp [upd]
  | o :: rest, k, ha, i + 1, o', h => by
    simp only [apartD, Bool.and_eq_true] at ha
    have hr : rest[i]? = some o' := by simpa using h
    have hne : ∀ d, o.dst = some d → o'.dst = some d → False := fun d hd hy => by
      rcases Bool.or_eq_true_iff.1 ha.1 with h0 | h0
      · rw [hd] at h0
        cases h0
      · have hne := List.all_eq_true.1 h0 o' (List.mem_of_getElem? hr)
        simp only [decide_eq_true_eq] at hne
        exact hne (by rw [hd, hy])
    rw [putAll, putAll, Act.put_comm _ _ _ (fun d hd hy => hne d (by first | exact hd | exact hy) (by first | exact hy | exact hd)), putAll_putD a u v rest (k + 1) ha.2 i o' hr, show k + 1 + i = k + (i + 1) by omega]
    simp [upd]

theorem putAll_same (a : Act) {u u' : Nat → Value} : ∀ l k, (∀ i, i < l.length → u (k + i) = u' (k + i)) → putAll a l k u = putAll a l k u'
  | [], _, _ => rfl
  | o :: rest, k, h => by
    have h0 := h 0 (by simp)
    rw [Nat.add_zero] at h0
    have hr : putAll a rest (k + 1) u = putAll a rest (k + 1) u' := putAll_same a rest (k + 1) (fun i hi => by have := h (i + 1) (by simpa using hi); rwa [show k + (i + 1) = k + 1 + i by omega] at this)
    rw [putAll, putAll, h0, hr]

def updB (d : Nat → Bool) (i : Nat) : Nat → Bool := fun j => if j = i then true else d j
theorem updB_self (d : Nat → Bool) (i : Nat) : updB d i i = true := by simp [updB]
theorem updB_ne (d : Nat → Bool) {i j : Nat} (h : j ≠ i) : updB d i j = d j := by simp [updB, h]

/-- What an operation waits for has come up, and is what it is said to be. -/
def depsE (d : Nat → Bool) (V u : Nat → Value) : List Edge → Prop
  | [] => True
  | e :: es => (Region.binds .any e = true → d e.on = true ∧ u e.on = V e.on) ∧ depsE d V u es

theorem depsE_mk {d : Nat → Bool} {V u : Nat → Value} : ∀ es : List Edge, (∀ e ∈ es, Region.binds .any e = true → d e.on = true ∧ u e.on = V e.on) → depsE d V u es
  | [], _ => trivial
  | e :: es, h => ⟨h e (by simp), depsE_mk es (fun e' he' => h e' (by simp [he']))⟩

section
variable {P : Program} {Q : Exit → Act → World → Prop} {E : Type}

/-- One look at each operation: 'V x i' is what operation i leaves, if x is what is open; 'H d x w' what holds once those of d have come up. -/
def walkE (P : Program) (V : E → Nat → Value) (H : (Nat → Bool) → E → World → Prop) (a : Act) (heads : List Oper) : List Oper → Nat → Prop
  | [], _ => True
  | o :: rest, i => (∀ d x u w, d i = false → H d x w → depsE d (V x) u o.after.toList →
      yieldsTo P o (look a heads u) w fun v w' => ∃ x', v = V x' i ∧ (∀ j, d j = true → V x' j = V x j) ∧ H (updB d i) x' w') ∧ walkE P V H a heads rest (i + 1)

theorem walkE_at {V : E → Nat → Value} {H : (Nat → Bool) → E → World → Prop} {a : Act} {heads : List Oper} : ∀ (rest : List Oper) (k : Nat), walkE P V H a heads rest k → ∀ i o, rest[i]? = some o → ∀ d x u w, d (k + i) = false → H d x w → depsE d (V x) u o.after.toList →
      yieldsTo P o (look a heads u) w fun v w' => ∃ x', v = V x' (k + i) ∧ (∀ j, d j = true → V x' j = V x j) ∧ H (updB d (k + i)) x' w'
  | [], _, _, _, _, h => by simp at h
  | o :: rest, k, hw, 0, o', h => by
    simp at h
    subst h
    exact hw.1
  | o :: rest, k, hw, i + 1, o', h => by
    rw [show k + (i + 1) = k + 1 + i by omega]
    exact walkE_at rest (k + 1) hw.2 i o' (by simpa using h)

/-- An operation that only reckons, or reads. -/
theorem walkE_is {V : E → Nat → Value} {H : (Nat → Bool) → E → World → Prop} {a : Act} {heads : List Oper} {o : Oper} {rest : List Oper} {i : Nat} (hH : ∀ d x u w, d i = false → H d x w → depsE d (V x) u o.after.toList → H (updB d i) x w)
    (hy : ∀ d x u w, H d x w → depsE d (V x) u o.after.toList → (execOp (look a heads u) o).run P w = .ok (.value (V x i)) w) (h : walkE P V H a heads rest (i + 1)) : walkE P V H a heads (o :: rest) i :=
  ⟨fun d x u w h1 hh hd => by
    unfold yieldsTo
    rw [hy d x u w hh hd]
    exact ⟨x, rfl, fun _ _ => rfl, hH d x u w h1 hh hd⟩, h⟩

/-- A call. -/
theorem walkE_call {V : E → Nat → Value} {H : (Nat → Bool) → E → World → Prop} {a : Act} {heads : List Oper} {o : Oper} {rest : List Oper} {i : Nat} (f : FuncId)
    (hy : ∀ d x u w, d i = false → H d x w → depsE d (V x) u o.after.toList → ∃ args, (execOp (look a heads u) o).run P w = .ok (.enter f args) w ∧
      Calls P f args w fun e w' => ∃ x', e = .returned (V x' i) ∧ (∀ j, d j = true → V x' j = V x j) ∧ H (updB d i) x' w') (h : walkE P V H a heads rest (i + 1)) : walkE P V H a heads (o :: rest) i :=
  ⟨fun d x u w h1 hh hd => by
    obtain ⟨args, e1, e2⟩ := hy d x u w h1 hh hd
    unfold yieldsTo
    rw [e1]
    exact e2.mono fun e w' ⟨x', he, h2, h3⟩ => ⟨_, he, x', rfl, h2, h3⟩, h⟩

/-- An operation that makes memory. -/
theorem walkE_new {V : E → Nat → Value} {H : (Nat → Bool) → E → World → Prop} {a : Act} {heads : List Oper} {o : Oper} {rest : List Oper} {i : Nat}
    (hy : ∀ d x u w, d i = false → H d x w → depsE d (V x) u o.after.toList → ∃ w' x', (execOp (look a heads u) o).run P w = .ok (.value (V x' i)) w' ∧ (∀ j, d j = true → V x' j = V x j) ∧ H (updB d i) x' w') (h : walkE P V H a heads rest (i + 1)) : walkE P V H a heads (o :: rest) i :=
  ⟨fun d x u w h1 hh hd => by
    obtain ⟨w', x', e1, e2, e3⟩ := hy d x u w h1 hh hd
    unfold yieldsTo
    rw [e1]
    exact ⟨x', rfl, e2, e3⟩, h⟩

/-- A store. -/
theorem walkE_store {V : E → Nat → Value} {H : (Nat → Bool) → E → World → Prop} {a : Act} {heads : List Oper} {o : Oper} {rest : List Oper} {i : Nat} (hV : ∀ x, V x i = undef)
    (hy : ∀ d x u w, d i = false → H d x w → depsE d (V x) u o.after.toList → ∃ w', (execOp (look a heads u) o).run P w = .ok .skip w' ∧ H (updB d i) x w') (h : walkE P V H a heads rest (i + 1)) : walkE P V H a heads (o :: rest) i :=
  ⟨fun d x u w h1 hh hd => by
    obtain ⟨w', e1, e2⟩ := hy d x u w h1 hh hd
    unfold yieldsTo
    rw [e1]
    exact ⟨x, (hV x).symm, fun _ _ => rfl, e2⟩, h⟩

theorem wp_region_saysE {id : Nat} {a : Act} {w : World} {l : List Oper} (n : Nat) (V : E → Nat → Value) (H : (Nat → Bool) → E → World → Prop) (x0 : E) (h0 : H (fun _ => false) x0 w.drew)
    (hm : P.follows .mixedOrders = true) (hB : relyB .any l.toArray n = true) (hA : apartD (l.take n) = true) (hg : (l.take n).all (fun o => o.guard.isNone) = true) (hF : fitsB a.tmps.size (l.take n) = true)
    (h : walkE P V H a (l.take n) (l.take n) 0) (hfin : ∀ d x w', (∀ i, i < n → d i = true) → H d x w' → wpList P l.toArray Q (l.drop n) (putAll a (l.take n) 0 (V x)) w') : (Code.region id l.toArray true).wp P Q a w := by
  have hnl : n < l.length := by
    simp only [relyB, Bool.and_eq_true, decide_eq_true_eq] at hB
    simpa using hB.1.1.1.1
  have hback : backB .any l.toArray n = true := by
    simp only [relyB, Bool.and_eq_true, decide_eq_true_eq] at hB
    exact hB.1.2
  refine wp_region_inv n hm hB (fun listed a' w' => ∃ d x u, (∀ j, j < n → d j = listed.getD j false) ∧ (∀ j, d j = true → j < n) ∧ a' = putAll a (l.take n) 0 u ∧ (∀ j, d j = true → u j = V x j) ∧ H d x w') ?_ ?_ ?_
  · obtain ⟨u, hu⟩ := putAll_init a (l.take n)
    exact ⟨fun _ => false, x0, u, fun j _ => by rw [getD_replicate_false], by simp, hu.symm, by simp, h0⟩
  · rintro i listed a' w' hin hr ⟨d, x, u, hdl, hdn, rfl, hu, hh⟩
    obtain ⟨hli, o, ho, hall⟩ := mem_ready.1 hr
    have ho' : (l.take n)[i]? = some o := by
      rw [List.getElem?_take, if_pos hin]
      simpa using ho
    have hgo : o.guard = none := by
      have := List.all_eq_true.1 hg o (List.mem_of_getElem? ho')
      simpa using this
    have hdi : d i = false := by rw [hdl i hin]; exact getD_both hli
    have hd : depsE d (V x) u o.after.toList := depsE_mk _ fun e he hb => by
      have hm' : e ∈ o.after := by simpa using he
      obtain ⟨o2, ho2, hlt⟩ := backB_spec hback hin
      obtain rfl : o = o2 := Option.some.inj (ho.symm.trans ho2)
      have hei := hlt e hm' hb
      have h1 := hall e hm' hb
      have h2 : d e.on = true := by rw [hdl _ (by omega)]; exact h1
      exact ⟨h2, hu _ h2⟩
    have hys := walkE_at (l.take n) 0 h i o ho' d x u w' (by rw [Nat.zero_add]; exact hdi) hh hd
    rw [Nat.zero_add] at hys
    unfold wpOp
    simp only [ho]
    have hw : Region.wanted o (yielded l.toArray (putAll a (l.take n) 0 u).tmps) = true := by simp [Region.wanted, hgo]
    rw [if_pos hw]
    refine .inl (wp_of_yields (by rw [look_eval a u _ hF]; exact hys) ?_)
    rintro v w'' ⟨x', rfl, hsame, hh'⟩
    refine ⟨updB d i, x', upd u i (V x' i), fun j hj => ?_, fun j hj => ?_, ?_, fun j hj => ?_, hh'⟩
    · by_cases hji : j = i
      · subst hji
        rw [updB_self]
        have hsz : j < listed.size := by
          rcases Nat.lt_or_ge j listed.size with hx | hx
          · exact hx
          · have := hli
            simp [Array.getElem?_eq_none hx] at this
        simp [hsz]
      · rw [updB_ne d hji, hdl j hj, getD_set_ne false (Ne.symm hji)]
    · by_cases hji : j = i
      · omega
      · rw [updB_ne d hji] at hj
        exact hdn j hj
    · have := putAll_putD a u (V x' i) (l.take n) 0 hA i o ho'
      simpa using this
    · by_cases hji : j = i
      · subst hji
        simp [upd]
      · rw [updB_ne d hji] at hj
        simp only [upd, if_neg hji]
        rw [hu j hj, hsame j hj]
  · rintro a' w' ⟨d, x, u, hdl, hdn, rfl, hu, hh⟩
    have hall : ∀ i, i < n → d i = true := fun i hi => by
      rw [hdl i hi]
      have : i < l.length := by omega
      simp [doneN, List.getElem?_append, hi]
    rw [putAll_same a (u := u) (u' := V x) (l.take n) 0 (fun i hi => by
      rw [Nat.zero_add]
      exact hu i (hall i (by rw [List.length_take] at hi; omega)))]
    exact hfin d x w' hall hh

end
end Go.Proofs.Ytgoamkneenmbgaa
