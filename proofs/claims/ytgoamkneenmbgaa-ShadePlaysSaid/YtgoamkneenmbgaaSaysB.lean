/-
  A statement whose order is open, some of whose operations make blocks (rows, variables): what each operation is said to leave, and that the blocks lie apart. No conditions.
-/
import Derived.Test.YtgoamkneenmbgaaSaysK
import Derived.Test.YtgoamkneenmbgaaRowX
namespace Go.Proofs.Ytgoamkneenmbgaa
open Go

/-- the block that a slice or a pointer leads to. -/
def blkOf : Value → Option Nat
  | .slice (some a) _ _ => some a.block
  | .pointer (some a) => some a.block
  | _ => none
def newOf (v : Value) (w : World) : Prop := ∀ g, blkOf v = some g → w.heap.size ≤ g
def liesOf (v : Value) (w : World) : Prop := ∀ g, blkOf v = some g → g < w.heap.size
/-- two values that share no block. -/
def twainOf (x y : Value) : Prop := ∀ g, blkOf x = some g → blkOf y ≠ some g
theorem twainOf.symm {x y : Value} (h : twainOf x y) : twainOf y x := fun g hy hx => h g hx hy
theorem twainOf_new {x y : Value} {w : World} (hx : newOf x w) (hy : liesOf y w) : twainOf x y := fun g h1 h2 => by
  have := hx g h1
  have := hy g h2
  omega

section
variable {P : Program} {Q : Exit → Act → World → Prop}

/-- 'F i': operation i makes a row. -/
def walkB (P : Program) (md : Region.Mode) (R : World → World → Prop) (F : Nat → Bool) (W : World) (a : Act) (heads : List Oper) (fin : List Says → Prop) : List Oper → List Says → Prop
  | [], φs => fin φs
  | o :: rest, φs => ∃ φ : Says, (∀ v w w', R w w' → φ v w → φ v w') ∧ (F φs.length = true → ∀ v w, φ v w → liesOf v w) ∧
      (∀ u w, R W w → depsOf md φs u w o.after.toList → yieldsTo P o (look a heads u) w fun v w' => R w w' ∧ φ v w' ∧ (F φs.length = true → newOf v w)) ∧ walkB P md R F W a heads fin rest (φs ++ [φ])

theorem walkB_out {md : Region.Mode} {R : World → World → Prop} {F : Nat → Bool} {W : World} {a : Act} {heads : List Oper} {fin : List Says → Prop} : ∀ (rest : List Oper) (φs : List Says), walkB P md R F W a heads fin rest φs →
    ∃ ψs, fin (φs ++ ψs) ∧ ψs.length = rest.length ∧ (∀ φ ∈ ψs, ∀ v w w', R w w' → φ v w → φ v w') ∧
      ∀ i o, rest[i]? = some o → ∃ φ, ψs[i]? = some φ ∧ (F (φs.length + i) = true → ∀ v w, φ v w → liesOf v w) ∧ ∀ u w, R W w → depsOf md (φs ++ ψs.take i) u w o.after.toList → yieldsTo P o (look a heads u) w fun v w' => R w w' ∧ φ v w' ∧ (F (φs.length + i) = true → newOf v w)
  | [], φs, h => ⟨[], by rw [List.append_nil]; exact h, rfl, by simp, by simp⟩
  | o :: rest, φs, h => by
    obtain ⟨φ, hst, hl0, hy, hr⟩ := h
    obtain ⟨ψs, hf, hl, hs, hi⟩ := walkB_out rest (φs ++ [φ]) hr
    refine ⟨φ :: ψs, by simpa using hf, by simp [hl], fun φ' hm => ?_, fun i o' ho => ?_⟩
    · rcases List.mem_cons.1 hm with rfl | hm
      · exact hst
      · exact hs φ' hm
    · cases i with
      | zero =>
        simp at ho
        subst ho
        exact ⟨φ, rfl, hl0, by simpa using hy⟩
      | succ i =>
        obtain ⟨φ', h1, h2, h3⟩ := hi i o' (by simpa using ho)
        have e : (φs ++ [φ]).length + i = φs.length + (i + 1) := by simp; omega
        rw [e] at h2 h3
        exact ⟨φ', by simpa using h1, h2, by simpa using h3⟩

theorem wp_region_saysB {id : Nat} {a : Act} {w : World} {l : List Oper} (n : Nat) (R : World → World → Prop) (hRt : ∀ x y z, R x y → R y z → R x z) (F : Nat → Bool) (W : World) (hW : R W w.drew)
    (hm : P.follows .mixedOrders = true) (hB : relyB .any l.toArray n = true) (hA : apartB (l.take n) = true) (hg : (l.take n).all (fun o => o.guard.isNone) = true) (hF : fitsB a.tmps.size (l.take n) = true)
    (h : walkB P .any R F W a (l.take n) (fun φs => ∀ u w', R W w' → sayAll w' φs 0 u → (∀ i j, i < n → j < n → i ≠ j → F i = true → F j = true → twainOf (u i) (u j)) → wpList P l.toArray Q (l.drop n) (putAll a (l.take n) 0 u) w') (l.take n) []) : (Code.region id l.toArray true).wp P Q a w := by
  obtain ⟨φs, hfin, hlen, hst, hy⟩ := walkB_out _ _ h
  simp only [List.nil_append, List.length_nil, Nat.zero_add] at hfin hy
  have hnl : n < l.length := by
    simp only [relyB, Bool.and_eq_true, decide_eq_true_eq] at hB
    simpa using hB.1.1.1.1
  have hln : φs.length = n := by rw [hlen]; simp; omega
  have hlies : ∀ j φ, φs[j]? = some φ → F j = true → ∀ v w, φ v w → liesOf v w := by
    intro j φ hj hf
    have hjn : j < n := by
      rcases Nat.lt_or_ge j n with h | h
      · exact h
      · rw [List.getElem?_eq_none (by omega)] at hj; cases hj
    obtain ⟨φ', h1, h2, _⟩ := hy j (l[j]'(by omega)) (by rw [List.getElem?_take, if_pos hjn, List.getElem?_eq_getElem])
    obtain rfl : φ = φ' := Option.some.inj (hj.symm.trans h1)
    exact h2 hf
  have hback : backB .any l.toArray n = true := by
    simp only [relyB, Bool.and_eq_true, decide_eq_true_eq] at hB
    exact hB.1.2
  refine wp_region_inv n hm hB (fun listed a' w' => R W w' ∧ ∃ u, a' = putAll a (l.take n) 0 u ∧ (∀ j φ, φs[j]? = some φ → listed.getD j false = true → φ (u j) w') ∧
    ∀ i j, i < n → j < n → i ≠ j → F i = true → F j = true → listed.getD i false = true → listed.getD j false = true → twainOf (u i) (u j)) ?_ ?_ ?_
  · obtain ⟨u, hu⟩ := putAll_init a (l.take n)
    exact ⟨hW, u, hu.symm, (fun j φ _ hl => by rw [getD_replicate_false] at hl; cases hl), (fun i j _ _ _ _ _ hl => by rw [getD_replicate_false] at hl; cases hl)⟩
  · rintro i listed a' w' hin hr ⟨hRW, u, rfl, hsay, htw⟩
    obtain ⟨hli, o, ho, hall⟩ := mem_ready.1 hr
    have ho' : (l.take n)[i]? = some o := by
      rw [List.getElem?_take, if_pos hin]
      simpa using ho
    obtain ⟨φ, hφ, _, hstep⟩ := hy i o ho'
    have hgo : o.guard = none := by
      have := List.all_eq_true.1 hg o (List.mem_of_getElem? ho')
      simpa using this
    have hd : depsOf .any (φs.take i) u w' o.after.toList := depsOf_mk _ fun e he hb => by
      have hm' : e ∈ o.after := by simpa using he
      obtain ⟨o2, ho2, hlt⟩ := backB_spec hback hin
      obtain rfl : o = o2 := Option.some.inj (ho.symm.trans ho2)
      have hei := hlt e hm' hb
      have h1 := hall e hm' hb
      cases hq : φs[e.on]? with
      | none => simp [hei, hq]
      | some ψ =>
        have := hsay e.on ψ hq h1
        simpa [List.getElem?_take, hei, hq] using this
    have hys := hstep u w' hRW hd
    unfold wpOp
    simp only [ho]
    have hw : Region.wanted o (yielded l.toArray (putAll a (l.take n) 0 u).tmps) = true := by simp [Region.wanted, hgo]
    rw [if_pos hw]
    refine .inl (wp_of_yields (by rw [look_eval a u _ hF]; exact hys) ?_)
    rintro v w'' ⟨hR, hv, hnew⟩
    have key : ∀ j, j < n → j ≠ i → F i = true → F j = true → listed.getD j false = true → twainOf v (u j) := by
      intro j hjn _ hfi hfj hl
      have hj : φs[j]? = some (φs[j]'(by omega)) := List.getElem?_eq_getElem _
      exact twainOf_new (hnew hfi) (hlies j _ hj hfj _ _ (hsay j _ hj hl))
    refine ⟨hRt _ _ _ hRW hR, upd u i v, ?_, fun j ψ hj hl => ?_, fun j k hjn hkn hjk hfj hfk hlj hlk => ?_⟩
    · have := putAll_put a u v (l.take n) 0 hA i o ho'
      simpa using this
    · by_cases hji : j = i
      · subst hji
        obtain rfl : ψ = φ := Option.some.inj (hj.symm.trans hφ)
        simpa [upd] using hv
      · rw [getD_set_ne false (Ne.symm hji)] at hl
        simp only [upd, if_neg hji]
        exact hst ψ (List.mem_of_getElem? hj) _ _ _ hR (hsay j ψ hj hl)
    · by_cases hji : j = i
      · subst hji
        have hkj : k ≠ j := Ne.symm hjk
        rw [getD_set_ne false (Ne.symm hkj)] at hlk
        simp only [upd, if_neg hkj, if_true]
        exact key k hkn hkj hfj hfk hlk
      · rw [getD_set_ne false (Ne.symm hji)] at hlj
        by_cases hki : k = i
        · subst hki
          simp only [upd, if_neg hji, if_true]
          exact (key j hjn hji hfk hfj hlj).symm
        · rw [getD_set_ne false (Ne.symm hki)] at hlk
          simp only [upd, if_neg hji, if_neg hki]
          exact htw j k hjn hkn hjk hfj hfk hlj hlk
  · rintro a' w' ⟨hRW, u, rfl, hsay, htw⟩
    have hdone : ∀ i, i < n → (doneN l.toArray.size n).getD i false = true := fun i hi => by
      have : i < l.length := by omega
      simp [doneN, List.getElem?_append, hi]
    refine hfin u w' hRW (sayAll_mk φs 0 fun i φ hi => ?_) (fun i j hi hj hij hfi hfj => htw i j hi hj hij hfi hfj (hdone i hi) (hdone j hj))
    have hin : i < n := by
      rcases Nat.lt_or_ge i n with h | h
      · exact h
      · rw [List.getElem?_eq_none (by omega)] at hi; cases hi
    rw [Nat.zero_add]
    exact hsay i φ hi (hdone i hin)

/-- What is said so far, in another spelling. -/
theorem walkB_norm {md : Region.Mode} {R : World → World → Prop} {F : Nat → Bool} {W : World} {a : Act} {heads : List Oper} {fin : List Says → Prop} {rest : List Oper} {φs φs' : List Says} (e : φs = φs') (h : walkB P md R F W a heads fin rest φs') : walkB P md R F W a heads fin rest φs := by
  rw [e]
  exact h

theorem walkB_is {md : Region.Mode} {R : World → World → Prop} {F : Nat → Bool} {W : World} {a : Act} {heads : List Oper} {fin : List Says → Prop} {o : Oper} {rest : List Oper} {φs : List Says} (c : Value) (hF : F φs.length = false) (hr : ∀ w, R w w)
    (hy : ∀ u w, R W w → depsOf md φs u w o.after.toList → (execOp (look a heads u) o).run P w = .ok (.value c) w) (h : walkB P md R F W a heads fin rest (φs ++ [isV c])) : walkB P md R F W a heads fin (o :: rest) φs :=
  ⟨isV c, fun _ _ _ _ h => h, (fun h => by rw [hF] at h; cases h), fun u w hw hd => by unfold yieldsTo; rw [hy u w hw hd]; exact ⟨hr w, rfl, fun h => by rw [hF] at h; cases h⟩, h⟩

/-- A call that makes a row. -/
theorem walkB_row {md : Region.Mode} {R : World → World → Prop} {F : Nat → Bool} {W : World} {a : Act} {heads : List Oper} {fin : List Says → Prop} {o : Oper} {rest : List Oper} {φs : List Says} (φ : Says) (f : FuncId) (args : Array Value) (hst : ∀ v w w', R w w' → φ v w → φ v w') (hl : ∀ v w, φ v w → liesOf v w)
    (hy : ∀ u w, R W w → depsOf md φs u w o.after.toList → (execOp (look a heads u) o).run P w = .ok (.enter f args) w)
    (hc : ∀ w, R W w → Calls P f args w fun e w' => ∃ v, e = .returned v ∧ R w w' ∧ φ v w' ∧ newOf v w) (h : walkB P md R F W a heads fin rest (φs ++ [φ])) : walkB P md R F W a heads fin (o :: rest) φs :=
  ⟨φ, hst, fun _ => hl, fun u w hw hd => by unfold yieldsTo; rw [hy u w hw hd]; exact (hc w hw).mono fun e w' ⟨v, he, h1, h2, h3⟩ => ⟨v, he, h1, h2, fun _ => h3⟩, h⟩

/-- An operation that makes a block. -/
theorem walkB_new {md : Region.Mode} {R : World → World → Prop} {F : Nat → Bool} {W : World} {a : Act} {heads : List Oper} {fin : List Says → Prop} {o : Oper} {rest : List Oper} {φs : List Says} (φ : Says) (hst : ∀ v w w', R w w' → φ v w → φ v w') (hl : F φs.length = true → ∀ v w, φ v w → liesOf v w)
    (hy : ∀ u w, R W w → depsOf md φs u w o.after.toList → ∃ v w', (execOp (look a heads u) o).run P w = .ok (.value v) w' ∧ R w w' ∧ φ v w' ∧ (F φs.length = true → newOf v w)) (h : walkB P md R F W a heads fin rest (φs ++ [φ])) : walkB P md R F W a heads fin (o :: rest) φs :=
  ⟨φ, hst, hl, fun u w hw hd => by
    obtain ⟨v, w', e, h1, h2, h3⟩ := hy u w hw hd
    unfold yieldsTo
    rw [e]
    exact ⟨h1, h2, h3⟩, h⟩

/-- A call that answers a value. -/
theorem walkB_call {md : Region.Mode} {R : World → World → Prop} {F : Nat → Bool} {W : World} {a : Act} {heads : List Oper} {fin : List Says → Prop} {o : Oper} {rest : List Oper} {φs : List Says} (c : Value) (f : FuncId) (args : Array Value) (hF : F φs.length = false)
    (hy : ∀ u w, R W w → depsOf md φs u w o.after.toList → (execOp (look a heads u) o).run P w = .ok (.enter f args) w)
    (hc : ∀ w, R W w → Calls P f args w fun e w' => e = .returned c ∧ R w w') (h : walkB P md R F W a heads fin rest (φs ++ [isV c])) : walkB P md R F W a heads fin (o :: rest) φs :=
  ⟨isV c, fun _ _ _ _ h => h, (fun h => by rw [hF] at h; cases h), fun u w hw hd => by unfold yieldsTo; rw [hy u w hw hd]; exact (hc w hw).mono fun e w' ⟨he, h1⟩ => ⟨c, he, h1, rfl, fun h => by rw [hF] at h; cases h⟩, h⟩

end
end Go.Proofs.Ytgoamkneenmbgaa
