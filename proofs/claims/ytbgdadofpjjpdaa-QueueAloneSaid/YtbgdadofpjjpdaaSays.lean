/-
  A statement whose order is open, operation by operation: what each is said to leave. No conditions.
-/
import Derived.Test.YtbgdadofpjjpdaaRely
namespace Go.Proofs.Ytbgdadofpjjpdaa
open Go

/-- What a value is said to be, in a world. -/
abbrev Says := Value → World → Prop

def upd (u : Nat → Value) (i : Nat) (v : Value) : Nat → Value := fun j => if j = i then v else u j

def putAll (a : Act) : List Oper → Nat → (Nat → Value) → Act
  | [], _, _ => a
  | o :: rest, k, u => (putAll a rest (k + 1) u).put o.dst (u k)

/-- Each leaves its value in a slot of its own. -/
def apartB : List Oper → Bool
  | [] => true
  | o :: rest => o.dst.isSome && rest.all (fun o' => decide (o'.dst ≠ o.dst)) && apartB rest

theorem putAll_lt (a : Act) (u : Nat → Value) (i : Nat) (v : Value) : ∀ l k, i < k → putAll a l k (upd u i v) = putAll a l k u
  | [], _, _ => rfl
  | o :: rest, k, h => by
    rw [putAll, putAll, putAll_lt a u i v rest (k + 1) (by omega)]
    simp [upd, show k ≠ i by omega]

theorem put_put (a : Act) (d : Option Tmp) (x v : Value) : (a.put d x).put d v = a.put d v := by
  cases d with
  | none => rfl
  | some d => simp [Act.put]

theorem putAll_put (a : Act) (u : Nat → Value) (v : Value) : ∀ l k, apartB l = true → ∀ i o, l[i]? = some o → (putAll a l k u).put o.dst v = putAll a l k (upd u (k + i) v)
  | [], _, _, _, _, h => by simp at h
  | o :: rest, k, ha, 0, o', h => by
    simp at h
    subst h
    show ((putAll a rest (k + 1) u).put o.dst (u k)).put o.dst v = (putAll a rest (k + 1) (upd u k v)).put o.dst (upd u k v k)
    rw [put_put, putAll_lt a u k v rest (k + 1) (by omega)]
    simp [upd]
  | o :: rest, k, ha, i + 1, o', h => by
    simp only [apartB, Bool.and_eq_true] at ha
    have hr : rest[i]? = some o' := by simpa using h
    have hne := List.all_eq_true.1 ha.1.2 o' (List.mem_of_getElem? hr)
    simp only [decide_eq_true_eq] at hne
    rw [putAll, putAll, Act.put_comm _ _ _ (fun d hd hy => hne (by rw [hd, hy])), putAll_put a u v rest (k + 1) ha.2 i o' hr, show k + 1 + i = k + (i + 1) by omega]
    simp [upd]

def held (a : Act) (d : Option Tmp) : Value := match d with
  | some d => a.tmps.getD d undef
  | none => undef

theorem put_held (a : Act) (d : Option Tmp) : a.put d (held a d) = a := by
  cases d with
  | none => rfl
  | some d =>
    have e : a.tmps.setIfInBounds d (a.tmps.getD d undef) = a.tmps := by
      apply Array.ext
      · simp
      · intro i h1 h2
        by_cases hi : d = i
        · subst hi
          simp [h2]
        · exact Array.getElem_setIfInBounds_ne h2 hi
    show ({ a with tmps := a.tmps.setIfInBounds d (a.tmps.getD d undef) } : Act) = a
    rw [e]

theorem putAll_held (a : Act) (u : Nat → Value) : ∀ l k, (∀ i o, l[i]? = some o → u (k + i) = held a o.dst) → putAll a l k u = a
  | [], _, _ => rfl
  | o :: rest, k, h => by
    rw [putAll, putAll_held a u rest (k + 1) (fun i o' hi => by have := h (i + 1) o' (by simpa using hi); rwa [show k + 1 + i = k + (i + 1) by omega])]
    have := h 0 o rfl
    rw [Nat.add_zero] at this
    rw [this, put_held]

theorem putAll_init (a : Act) (l : List Oper) : ∃ u, putAll a l 0 u = a :=
  ⟨fun j => (l[j]?.map fun o => held a o.dst).getD undef, putAll_held a _ l 0 (fun i o h => by simp [h])⟩

theorem putAll_size (a : Act) (u : Nat → Value) : ∀ l k, (putAll a l k u).tmps.size = a.tmps.size
  | [], _ => rfl
  | o :: rest, k => by
    rw [putAll]
    cases o.dst with
    | none => exact putAll_size a u rest (k + 1)
    | some d => simpa [Act.put] using putAll_size a u rest (k + 1)

def findAt : List Oper → Nat → Tmp → Option Nat
  | [], _, _ => none
  | o :: rest, k, s => if o.dst = some s then some k else findAt rest (k + 1) s

/-- What an operand is, behind some of the operations. -/
def look (a : Act) (heads : List Oper) (u : Nat → Value) : Operand → Value
  | .tmp s => match findAt heads 0 s with
    | some j => u j
    | none => a.tmps.getD s undef
  | .const v => v
  | .global g => .pointer (some ⟨g, 0, none⟩)
  | .func f => .func (.func f) #[] #[]

def fitsB (size : Nat) (l : List Oper) : Bool := l.all fun o => match o.dst with
  | some d => decide (d < size)
  | none => true

theorem putAll_at (a : Act) (u : Nat → Value) (s : Tmp) : ∀ l k, fitsB a.tmps.size l = true → (putAll a l k u).tmps.getD s undef = match findAt l k s with
    | some j => u j
    | none => a.tmps.getD s undef
  | [], _, _ => rfl
  | o :: rest, k, hf => by
    have hf' : (match o.dst with | some d => decide (d < a.tmps.size) | none => true) = true ∧ fitsB a.tmps.size rest = true := by simpa [fitsB] using hf
    have ih := putAll_at a u s rest (k + 1) hf'.2
    rw [putAll, findAt]
    cases ho : o.dst with
    | none => simpa [Act.put] using ih
    | some d =>
      rw [ho] at hf'
      have hd : d < a.tmps.size := by simpa using hf'.1
      by_cases hs : d = s
      · subst hs
        simp [Act.put, putAll_size, hd]
      · have : ¬ (some d = some s) := by simpa using hs
        rw [if_neg this, ← ih]
        simp [Act.put, Array.getElem?_setIfInBounds_ne hs]

theorem look_eval (a : Act) (u : Nat → Value) (heads : List Oper) (hf : fitsB a.tmps.size heads = true) : (putAll a heads 0 u).eval = look a heads u := by
  funext x
  cases x with
  | tmp s => exact putAll_at a u s heads 0 hf
  | const v => rfl
  | global g => rfl
  | func f => rfl

section
variable {P : Program} {Q : Exit → Act → World → Prop}

/-- What is asked of the value that an operation leaves, and of the world behind it. -/
def yieldsUpon (P : Program) (K : Value → World → Prop) : Result Next → Prop
  | .ok (.value v) w' => K v w'
  | .ok .skip w' => K undef w'
  | .ok (.enter f args) w' => Calls P f args w' fun e w'' => ∃ v, e = .returned v ∧ K v w''
  | _ => False

def yieldsTo (P : Program) (o : Oper) (ρ : Operand → Value) (w : World) (K : Value → World → Prop) : Prop := yieldsUpon P K ((execOp ρ o).run P w)

theorem wp_of_yields {o : Oper} {a : Act} {w : World} {K : Value → World → Prop} {K' : Act → World → Prop} (h : yieldsTo P o a.eval w K) (hK : ∀ v w', K v w' → K' (a.put o.dst v) w') : o.wp P a w K' Q := by
  unfold yieldsTo at h
  unfold Oper.wp
  generalize (execOp a.eval o).run P w = r at *
  cases r with
  | ok n w' =>
    cases n <;> simp only [yieldsUpon] at h <;> simp only [Oper.upon]
    case value v => exact hK v w' h
    case skip => exact hK _ w' h
    case enter f args => exact h.mono fun e w'' ⟨v, he, hk⟩ => by subst he; exact hK v w'' hk
  | halt x w' => simp only [yieldsUpon] at h

/-- What is said of the values that an operation waits for. -/
def depsOf (md : Region.Mode) (φs : List Says) (u : Nat → Value) (w : World) : List Edge → Prop
  | [] => True
  | e :: es => (Region.binds md e = true → φs.getD e.on (fun _ _ => True) (u e.on) w) ∧ depsOf md φs u w es

theorem depsOf_mk {md : Region.Mode} {φs : List Says} {u : Nat → Value} {w : World} : ∀ es : List Edge, (∀ e ∈ es, Region.binds md e = true → φs.getD e.on (fun _ _ => True) (u e.on) w) → depsOf md φs u w es
  | [], _ => trivial
  | e :: es, h => ⟨h e (by simp), depsOf_mk es (fun e' he' => h e' (by simp [he']))⟩

/-- One look at each operation, in the order of the text: say what it leaves; that this stays so; that it does leave it. -/
def walkS (P : Program) (md : Region.Mode) (R : World → World → Prop) (W : World) (a : Act) (heads : List Oper) (fin : List Says → Prop) : List Oper → List Says → Prop
  | [], φs => fin φs
  | o :: rest, φs => ∃ φ : Says, (∀ v w w', R w w' → φ v w → φ v w') ∧
      (∀ u w, R W w → depsOf md φs u w o.after.toList → yieldsTo P o (look a heads u) w fun v w' => R w w' ∧ φ v w') ∧ walkS P md R W a heads fin rest (φs ++ [φ])

theorem walkS_out {md : Region.Mode} {R : World → World → Prop} {W : World} {a : Act} {heads : List Oper} {fin : List Says → Prop} : ∀ (rest : List Oper) (φs : List Says), walkS P md R W a heads fin rest φs →
    ∃ ψs, fin (φs ++ ψs) ∧ ψs.length = rest.length ∧ (∀ φ ∈ ψs, ∀ v w w', R w w' → φ v w → φ v w') ∧
      ∀ i o, rest[i]? = some o → ∃ φ, ψs[i]? = some φ ∧ ∀ u w, R W w → depsOf md (φs ++ ψs.take i) u w o.after.toList → yieldsTo P o (look a heads u) w fun v w' => R w w' ∧ φ v w'
  | [], φs, h => ⟨[], by rw [List.append_nil]; exact h, rfl, by simp, by simp⟩
  | o :: rest, φs, h => by
    obtain ⟨φ, hst, hy, hr⟩ := h
    obtain ⟨ψs, hf, hl, hs, hi⟩ := walkS_out rest (φs ++ [φ]) hr
    refine ⟨φ :: ψs, by simpa using hf, by simp [hl], fun φ' hm => ?_, fun i o' ho => ?_⟩
    · rcases List.mem_cons.1 hm with rfl | hm
      · exact hst
      · exact hs φ' hm
    · cases i with
      | zero =>
        simp at ho
        subst ho
        exact ⟨φ, rfl, by simpa using hy⟩
      | succ i =>
        obtain ⟨φ', h1, h2⟩ := hi i o' (by simpa using ho)
        exact ⟨φ', by simpa using h1, by simpa using h2⟩

/-- What is said of all of them. -/
def sayAll (w : World) : List Says → Nat → (Nat → Value) → Prop
  | [], _, _ => True
  | φ :: φs, k, u => φ (u k) w ∧ sayAll w φs (k + 1) u

theorem sayAll_mk {w : World} {u : Nat → Value} : ∀ (φs : List Says) (k : Nat), (∀ (i : Nat) (φ : Says), φs[i]? = some φ → φ (u (k + i)) w) → sayAll w φs k u
  | [], _, _ => trivial
  | φ :: φs, k, h => ⟨h 0 φ rfl, sayAll_mk φs (k + 1) (fun i φ' hi => by have := h (i + 1) φ' (by simpa using hi); rwa [show k + (i + 1) = k + 1 + i by omega] at this)⟩

theorem wp_region_says {id : Nat} {a : Act} {w : World} {l : List Oper} (n : Nat) (R : World → World → Prop) (hRt : ∀ x y z, R x y → R y z → R x z) (W : World) (hW : R W w.drew)
    (hm : P.follows .mixedOrders = true) (hB : relyB .any l.toArray n = true) (hA : apartB (l.take n) = true) (hg : (l.take n).all (fun o => o.guard.isNone) = true) (hF : fitsB a.tmps.size (l.take n) = true)
    (h : walkS P .any R W a (l.take n) (fun φs => ∀ u w', R W w' → sayAll w' φs 0 u → wpList P l.toArray Q (l.drop n) (putAll a (l.take n) 0 u) w') (l.take n) []) : (Code.region id l.toArray true).wp P Q a w := by
  obtain ⟨φs, hfin, hlen, hst, hy⟩ := walkS_out _ _ h
  simp only [List.nil_append] at hfin hy
  have hnl : n < l.length := by
    simp only [relyB, Bool.and_eq_true, decide_eq_true_eq] at hB
    simpa using hB.1.1.1.1
  have hln : φs.length = n := by rw [hlen]; simp; omega
  have hback : backB .any l.toArray n = true := by
    simp only [relyB, Bool.and_eq_true, decide_eq_true_eq] at hB
    exact hB.1.2
  refine wp_region_inv n hm hB (fun listed a' w' => R W w' ∧ ∃ u, a' = putAll a (l.take n) 0 u ∧ ∀ j φ, φs[j]? = some φ → listed.getD j false = true → φ (u j) w') ?_ ?_ ?_
  · obtain ⟨u, hu⟩ := putAll_init a (l.take n)
    exact ⟨hW, u, hu.symm, fun j φ _ hl => by rw [getD_replicate_false] at hl; cases hl⟩
  · rintro i listed a' w' hin hr ⟨hRW, u, rfl, hsay⟩
    obtain ⟨hli, o, ho, hall⟩ := mem_ready.1 hr
    have ho' : (l.take n)[i]? = some o := by
      rw [List.getElem?_take, if_pos hin]
      simpa using ho
    obtain ⟨φ, hφ, hstep⟩ := hy i o ho'
    have hgo : o.guard = none := by
      have := List.all_eq_true.1 hg o (List.mem_of_getElem? ho')
      simpa using this
    have hd : depsOf .any (φs.take i) u w' o.after.toList := depsOf_mk _ fun e he hb => by
      have hm' : e ∈ o.after := by simpa using he
      obtain ⟨o2, ho2, hlt⟩ := backB_spec hback hin
      obtain rfl : o = o2 := Option.some.inj (ho.symm.trans ho2)
      have hei := hlt e hm' hb
      have h1 := hall e hm' hb
      cases hq : φs[e.on]? with
      | none => simp [hei, hq]
      | some ψ =>
        have := hsay e.on ψ hq h1
        simpa [List.getElem?_take, hei, hq] using this
    have hys := hstep u w' hRW hd
    unfold wpOp
    simp only [ho]
    have hw : Region.wanted o (yielded l.toArray (putAll a (l.take n) 0 u).tmps) = true := by simp [Region.wanted, hgo]
    rw [if_pos hw]
    refine .inl (wp_of_yields (by rw [look_eval a u _ hF]; exact hys) ?_)
    rintro v w'' ⟨hR, hv⟩
    refine ⟨hRt _ _ _ hRW hR, upd u i v, ?_, fun j ψ hj hl => ?_⟩
    · have := putAll_put a u v (l.take n) 0 hA i o ho'
      simpa using this
    · by_cases hji : j = i
      · subst hji
        obtain rfl : ψ = φ := Option.some.inj (hj.symm.trans hφ)
        simpa [upd] using hv
      · rw [getD_set_ne false (Ne.symm hji)] at hl
        simp only [upd, if_neg hji]
        exact hst ψ (List.mem_of_getElem? hj) _ _ _ hR (hsay j ψ hj hl)
  · rintro a' w' ⟨hRW, u, rfl, hsay⟩
    refine hfin u w' hRW (sayAll_mk φs 0 fun i φ hi => ?_)
    have hin : i < n := by
      rcases Nat.lt_or_ge i n with h | h
      · exact h
      · rw [List.getElem?_eq_none (by omega)] at hi; cases hi
    rw [Nat.zero_add]
    refine hsay i φ hi ?_
    have : i < l.length := by omega
    simp [doneN, List.getElem?_append, hin]

/-- It is just this value. -/
def isV (c : Value) : Says := fun v _ => v = c

theorem walkS_is {md : Region.Mode} {R : World → World → Prop} {W : World} {a : Act} {heads : List Oper} {fin : List Says → Prop} {o : Oper} {rest : List Oper} {φs : List Says} (c : Value) (hr : ∀ w, R w w)
    (hy : ∀ u w, R W w → depsOf md φs u w o.after.toList → (execOp (look a heads u) o).run P w = .ok (.value c) w) (h : walkS P md R W a heads fin rest (φs ++ [isV c])) : walkS P md R W a heads fin (o :: rest) φs :=
  ⟨isV c, fun _ _ _ _ h => h, fun u w hw hd => by unfold yieldsTo; rw [hy u w hw hd]; exact ⟨hr w, rfl⟩, h⟩

/-- A call that is said to leave this. -/
theorem walkS_call {md : Region.Mode} {R : World → World → Prop} {W : World} {a : Act} {heads : List Oper} {fin : List Says → Prop} {o : Oper} {rest : List Oper} {φs : List Says} (φ : Says) (f : FuncId) (args : Array Value) (hst : ∀ v w w', R w w' → φ v w → φ v w')
    (hy : ∀ u w, R W w → depsOf md φs u w o.after.toList → (execOp (look a heads u) o).run P w = .ok (.enter f args) w)
    (hc : ∀ w, R W w → Calls P f args w fun e w' => ∃ v, e = .returned v ∧ R w w' ∧ φ v w') (h : walkS P md R W a heads fin rest (φs ++ [φ])) : walkS P md R W a heads fin (o :: rest) φs :=
  ⟨φ, hst, fun u w hw hd => by unfold yieldsTo; rw [hy u w hw hd]; exact hc w hw, h⟩

end
end Go.Proofs.Ytbgdadofpjjpdaa
