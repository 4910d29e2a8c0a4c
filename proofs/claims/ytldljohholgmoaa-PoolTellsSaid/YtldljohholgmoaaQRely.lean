/-
  Words and contracts of this claim, 5 texts laid into one, each under its own remark. No conditions but those that stand at each.
-/
import Derived.StillTail
import Derived.WalkKit

/-
  A statement whose order is open, whose operations may make memory, and whose values may hang on it: what each value is said to be must stay so whatever the others do; then one look at each operation serves every order. Behind them come the operations whose order is fixed. No conditions.
-/
namespace Go.Proofs.Ytldljohholgmoaa
open Go

section
variable {P : Program} {ops : Array Oper} {md : Region.Mode} {Q : Exit → Act → World → Prop}

theorem getD_set_self (listed : Array Bool) (i : Nat) : (listed.setIfInBounds i true).getD i true = true := by
  rcases Nat.lt_or_ge i listed.size with h | h
  · simp [h]
  · simp [h]

/-- How many of the first k haven't come up yet. -/
def leftN (listed : Array Bool) : Nat → Nat
  | 0 => 0
  | k + 1 => leftN listed k + (if listed.getD k true = false then 1 else 0)

theorem leftN_far (listed : Array Bool) (i : Nat) : ∀ k, k ≤ i → leftN (listed.setIfInBounds i true) k = leftN listed k
  | 0, _ => rfl
  | k + 1, h => by rw [leftN, leftN, leftN_far listed i k (by omega), getD_set_ne true (by omega)]

theorem leftN_set (listed : Array Bool) (i : Nat) (hl : listed.getD i true = false) : ∀ k, i < k → leftN (listed.setIfInBounds i true) k + 1 = leftN listed k
  | 0, h => absurd h (by omega)
  | k + 1, h => by
    rw [leftN, leftN]
    by_cases hk : i = k
    · subst hk
      rw [leftN_far listed i i (Nat.le_refl _), getD_set_self, if_neg (by simp), if_pos hl]
    · have := leftN_set listed i hl k (by omega)
      rw [getD_set_ne true hk]
      omega

theorem leftN_zero (listed : Array Bool) : ∀ k, leftN listed k = 0 → ∀ i, i < k → listed.getD i true = true
  | 0, _, i, hi => absurd hi (by omega)
  | k + 1, h, i, hi => by
    rw [leftN] at h
    by_cases hk : i = k
    · subst hk
      cases hv : listed.getD i true with
      | true => rfl
      | false => rw [if_pos hv] at h; omega
    · exact leftN_zero listed k (by omega) i (by omega)

theorem leftN_pos (listed : Array Bool) : ∀ k, leftN listed k ≠ 0 → ∃ i, i < k ∧ listed.getD i true = false ∧ ∀ j, j < i → listed.getD j true = true
  | 0, h => absurd rfl h
  | k + 1, h => by
    by_cases h0 : leftN listed k = 0
    · refine ⟨k, by omega, ?_, fun j hj => leftN_zero listed k h0 j hj⟩
      cases hv : listed.getD k true with
      | false => rfl
      | true => rw [leftN, h0, hv] at h; simp at h
    · obtain ⟨i, hi, h1, h2⟩ := leftN_pos listed k h0
      exact ⟨i, by omega, h1, h2⟩

theorem leftN_none (m : Nat) : ∀ k, k ≤ m → leftN (Array.replicate m false) k = k
  | 0, _ => rfl
  | k + 1, h => by
    have hk : k < m := by omega
    rw [leftN, leftN_none m k (by omega)]
    simp [hk]

/-- Each edge of the first n operations leads back. -/
def backB (md : Region.Mode) (ops : Array Oper) (n : Nat) : Bool :=
  (List.range n).all fun i => match ops[i]? with
    | some o => o.after.all fun e => !Region.binds md e || decide (e.on < i)
    | none => false

theorem backB_spec {n i : Nat} (h : backB md ops n = true) (hi : i < n) : ∃ o, ops[i]? = some o ∧ ∀ e ∈ o.after, Region.binds md e = true → e.on < i := by
  have h1 := List.all_eq_true.1 h i (List.mem_range.2 hi)
  split at h1
  · rename_i o ho
    refine ⟨o, ho, fun e he hb => ?_⟩
    have h2 := Array.all_eq_true_iff_forall_mem.1 h1 e he
    simpa [hb] using h2
  · cases h1

theorem first_ready {n i : Nat} {listed : Array Bool} (hb : backB md ops n = true) (inv : HeadInv md ops n listed) (hi : i < n) (hl : listed.getD i true = false) (hj : ∀ j, j < i → listed.getD j true = true) :
    i ∈ Region.ready md ops listed := by
  obtain ⟨o, ho, he⟩ := backB_spec hb hi
  refine mem_ready.2 ⟨hl, o, ho, fun e hm hbi => ?_⟩
  have h1 := hj _ (he e hm hbi)
  have hlt : e.on < listed.size := by
    have := he e hm hbi
    have : i < ops.size := (Array.getElem?_eq_some_iff.1 ho).1
    rw [inv.size]
    omega
  simpa [hlt] using h1

theorem any_of_inv {n g : Nat} (I : Array Bool → Act → World → Prop) (hb : backB md ops n = true)
    (htail : ∀ listed, HeadInv md ops n listed → ∀ i, i < n → listed.getD i true = false → ∀ t ∈ Region.ready md ops listed, t < n)
    (hstep : ∀ i listed a w, i < n → i ∈ Region.ready md ops listed → I listed a w → wpOp P ops Q i (fun a' w' => I (listed.setIfInBounds i true) a' w') a w)
    (hL : ∀ listed a w, HeadInv md ops n listed → leftN listed n = 0 → I listed a w → wpAny P md ops Q g listed a w) :
    ∀ f listed a w, HeadInv md ops n listed → leftN listed n = f → I listed a w → wpAny P md ops Q (f + g) listed a w
  | 0, listed, a, w, inv, hf, hI => by rw [Nat.zero_add]; exact hL listed a w inv hf hI
  | f + 1, listed, a, w, inv, hf, hI => by
    rw [show f + 1 + g = (f + g) + 1 by omega]
    obtain ⟨i0, hi0, hl0, hj0⟩ := leftN_pos listed n (by omega)
    have hr0 := first_ready hb inv hi0 hl0 hj0
    refine ⟨fun h0 => (by rw [h0] at hr0; cases hr0), fun i hi => ?_⟩
    have hin := htail listed inv i0 hi0 hl0 i hi
    have hli := (mem_ready.1 hi).1
    exact wpOp_mono (fun a' w' h' => any_of_inv I hb htail hstep hL f _ a' w' (inv.set hi hin) (by have := leftN_set listed i hli n hin; omega) h') (hstep i listed a w hin hi hI)

/-- The first n have come up, and no other. -/
def doneN (size n : Nat) : Array Bool := (List.replicate n true ++ List.replicate (size - n) false).toArray

def relyB (md : Region.Mode) (ops : Array Oper) (n : Nat) : Bool :=
  decide (n < ops.size) && Region.sinkB md ops n && Region.chainB md ops n && backB md ops n && Region.seqB md ops (ops.size - n) n (doneN ops.size n)

theorem done_eq {n : Nat} {listed : Array Bool} (hn : n ≤ ops.size) (inv : HeadInv md ops n listed) (h : leftN listed n = 0) : listed = doneN ops.size n := by
  have hs : (doneN ops.size n).size = ops.size := by simp [doneN]; omega
  apply Array.ext
  · rw [inv.size, hs]
  · intro i h1 h2
    by_cases hi : i < n
    · have := leftN_zero listed n h i hi
      simp [h1] at this
      rw [this]
      simp [doneN, hi]
    · have := inv.tail i (by omega) (by rw [← inv.size]; exact h1)
      simp [h1] at this
      rw [this]
      simp [doneN, List.getElem_append, hi]

theorem wp_region_inv {id : Nat} {a : Act} {w : World} {l : List Oper} (n : Nat) (hm : P.follows .mixedOrders = true) (hB : relyB .any l.toArray n = true) (I : Array Bool → Act → World → Prop)
    (h0 : I (Array.replicate l.toArray.size false) a w.drew)
    (hstep : ∀ i listed a w, i < n → i ∈ Region.ready .any l.toArray listed → I listed a w → wpOp P l.toArray Q i (fun a' w' => I (listed.setIfInBounds i true) a' w') a w)
    (ht : ∀ a w, I (doneN l.toArray.size n) a w → wpList P l.toArray Q (l.drop n) a w) : (Code.region id l.toArray true).wp P Q a w := by
  simp only [relyB, Bool.and_eq_true, decide_eq_true_eq] at hB
  obtain ⟨⟨⟨⟨hn, hs⟩, hc⟩, hb⟩, hq⟩ := hB
  have hdl : (l.drop n).length = l.toArray.size - n := by simp
  have inv0 : HeadInv .any l.toArray n (Array.replicate l.toArray.size false) :=
    ⟨by simp, fun j oj _ hl => (by rw [getD_replicate_false] at hl; cases hl), fun t _ ht => getD_in (by simpa using ht) (getD_replicate_false _ _)⟩
  refine wp_region_any hm ?_
  have H := any_of_inv (P := P) (Q := Q) (md := .any) (ops := l.toArray) (n := n) (g := l.toArray.size - n) I hb
    (fun listed inv i hi hl t htr => by
      rcases Nat.lt_or_ge t n with h | h
      · exact h
      · exact absurd htr (tail_waits hs hc hn inv _ i rfl hi hl t h))
    hstep
    (fun listed a' w' inv hf hI => by
      have e := done_eq (Nat.le_of_lt hn) inv hf
      subst e
      have := wpAny_of_seq (md := .any) (Q' := Q) (l.drop n) n (doneN l.toArray.size n) a' w' (fun j => by simp [List.getElem?_drop]) (by rw [hdl]; exact hq) (ht a' w' hI)
      rwa [hdl] at this)
    n _ a w.drew inv0 (leftN_none _ n (Nat.le_of_lt hn)) h0
  rw [show n + (l.toArray.size - n) = l.toArray.size by omega] at H
  exact H

end
end Go.Proofs.Ytldljohholgmoaa

/-
  A statement whose order is open, operation by operation: what each is said to leave. No conditions.
-/
namespace Go.Proofs.Ytldljohholgmoaa
open Go

/-- What a value is said to be, in a world. -/
abbrev Says := Value → World → Prop

def upd (u : Nat → Value) (i : Nat) (v : Value) : Nat → Value := fun j => if j = i then v else u j

def putAll (a : Act) : List Oper → Nat → (Nat → Value) → Act
  | [], _, _ => a
  | o :: rest, k, u => (putAll a rest (k + 1) u).put o.dst (u k)

/-- Each leaves its value in a slot of its own. -/
def apartB : List Oper → Bool
  | [] => true
  | o :: rest => o.dst.isSome && rest.all (fun o' => decide (o'.dst ≠ o.dst)) && apartB rest

theorem putAll_lt (a : Act) (u : Nat → Value) (i : Nat) (v : Value) : ∀ l k, i < k → putAll a l k (upd u i v) = putAll a l k u
  | [], _, _ => rfl
  | o :: rest, k, h => by
    rw [putAll, putAll, putAll_lt a u i v rest (k + 1) (by omega)]
    simp [upd, show k ≠ i by omega]

theorem put_put (a : Act) (d : Option Tmp) (x v : Value) : (a.put d x).put d v = a.put d v := by
  cases d with
  | none => rfl
  | some d => simp [Act.put]

theorem putAll_put (a : Act) (u : Nat → Value) (v : Value) : ∀ l k, apartB l = true → ∀ i o, l[i]? = some o → (putAll a l k u).put o.dst v = putAll a l k (upd u (k + i) v)
  | [], _, _, _, _, h => by simp at h
  | o :: rest, k, ha, 0, o', h => by
    simp at h
    subst h
    show ((putAll a rest (k + 1) u).put o.dst (u k)).put o.dst v = (putAll a rest (k + 1) (upd u k v)).put o.dst (upd u k v k)
    rw [put_put, putAll_lt a u k v rest (k + 1) (by omega)]
    simp [upd]
  | o :: rest, k, ha, i + 1, o', h => by
    simp only [apartB, Bool.and_eq_true] at ha
    have hr : rest[i]? = some o' := by simpa using h
    have hne := List.all_eq_true.1 ha.1.2 o' (List.mem_of_getElem? hr)
    simp only [decide_eq_true_eq] at hne
    rw [putAll, putAll, Act.put_comm _ _ _ (fun d hd hy => hne (by rw [hd, hy])), putAll_put a u v rest (k + 1) ha.2 i o' hr, show k + 1 + i = k + (i + 1) by omega]
    simp [upd]

def held (a : Act) (d : Option Tmp) : Value := match d with
  | some d => a.tmps.getD d undef
  | none => undef

theorem put_held (a : Act) (d : Option Tmp) : a.put d (held a d) = a := by
  cases d with
  | none => rfl
  | some d =>
    have e : a.tmps.setIfInBounds d (a.tmps.getD d undef) = a.tmps := by
      apply Array.ext
      · simp
      · intro i h1 h2
        by_cases hi : d = i
        · subst hi
          simp [h2]
        · exact Array.getElem_setIfInBounds_ne h2 hi
    show ({ a with tmps := a.tmps.setIfInBounds d (a.tmps.getD d undef) } : Act) = a
    rw [e]

theorem putAll_held (a : Act) (u : Nat → Value) : ∀ l k, (∀ i o, l[i]? = some o → u (k + i) = held a o.dst) → putAll a l k u = a
  | [], _, _ => rfl
  | o :: rest, k, h => by
    rw [putAll, putAll_held a u rest (k + 1) (fun i o' hi => by have := h (i + 1) o' (by simpa using hi); rwa [show k + 1 + i = k + (i + 1) by omega])]
    have := h 0 o rfl
    rw [Nat.add_zero] at this
    rw [this, put_held]

theorem putAll_init (a : Act) (l : List Oper) : ∃ u, putAll a l 0 u = a :=
  ⟨fun j => (l[j]?.map fun o => held a o.dst).getD undef, putAll_held a _ l 0 (fun i o h => by simp [h])⟩

theorem putAll_size (a : Act) (u : Nat → Value) : ∀ l k, (putAll a l k u).tmps.size = a.tmps.size
  | [], _ => rfl
  | o :: rest, k => by
    rw [putAll]
    cases o.dst with
    | none => exact putAll_size a u rest (k + 1)
    | some d => simpa [Act.put] using putAll_size a u rest (k + 1)

def findAt : List Oper → Nat → Tmp → Option Nat
  | [], _, _ => none
  | o :: rest, k, s => if o.dst = some s then some k else findAt rest (k + 1) s

/-- What an operand is, behind some of the operations. -/
def look (a : Act) (heads : List Oper) (u : Nat → Value) : Operand → Value
  | .tmp s => match findAt heads 0 s with
    | some j => u j
    | none => a.tmps.getD s undef
  | .const v => v
  | .global g => .pointer (some ⟨g, 0, none⟩)
  | .func f => .func (.func f) #[] #[]

def fitsB (size : Nat) (l : List Oper) : Bool := l.all fun o => match o.dst with
  | some d => decide (d < size)
  | none => true

theorem putAll_at (a : Act) (u : Nat → Value) (s : Tmp) : ∀ l k, fitsB a.tmps.size l = true → (putAll a l k u).tmps.getD s undef = match findAt l k s with
    | some j => u j
    | none => a.tmps.getD s undef
  | [], _, _ => rfl
  | o :: rest, k, hf => by
    have hf' : (match o.dst with | some d => decide (d < a.tmps.size) | none => true) = true ∧ fitsB a.tmps.size rest = true := by simpa [fitsB] using hf
    have ih := putAll_at a u s rest (k + 1) hf'.2
    rw [putAll, findAt]
    cases ho : o.dst with
    | none => simpa [Act.put] using ih
    | some d =>
      rw [ho] at hf'
      have hd : d < a.tmps.size := by simpa using hf'.1
      by_cases hs : d = s
      · subst hs
        simp [Act.put, putAll_size, hd]
      · have : ¬ (some d = some s) := by simpa using hs
        rw [if_neg this, ← ih]
        simp [Act.put, Array.getElem?_setIfInBounds_ne hs]

theorem look_eval (a : Act) (u : Nat → Value) (heads : List Oper) (hf : fitsB a.tmps.size heads = true) : (putAll a heads 0 u).eval = look a heads u := by
  funext x
  cases x with
  | tmp s => exact putAll_at a u s heads 0 hf
  | const v => rfl
  | global g => rfl
  | func f => rfl

section
variable {P : Program} {Q : Exit → Act → World → Prop}

/-- What is asked of the value that an operation leaves, and of the world behind it. -/
def yieldsUpon (P : Program) (K : Value → World → Prop) : Result Next → Prop
  | .ok (.value v) w' => K v w'
  | .ok .skip w' => K undef w'
  | .ok (.enter f args) w' => Calls P f args w' fun e w'' => ∃ v, e = .returned v ∧ K v w''
  | _ => False

def yieldsTo (P : Program) (o : Oper) (ρ : Operand → Value) (w : World) (K : Value → World → Prop) : Prop := yieldsUpon P K ((execOp ρ o).run P w)

theorem wp_of_yields {o : Oper} {a : Act} {w : World} {K : Value → World → Prop} {K' : Act → World → Prop} (h : yieldsTo P o a.eval w K) (hK : ∀ v w', K v w' → K' (a.put o.dst v) w') : o.wp P a w K' Q := by
  unfold yieldsTo at h
  unfold Oper.wp
  generalize (execOp a.eval o).run P w = r at *
  cases r with
  | ok n w' =>
    cases n <;> simp only [yieldsUpon] at h <;> simp only [Oper.upon]
    case value v => exact hK v w' h
    case skip => exact hK _ w' h
    case enter f args => exact h.mono fun e w'' ⟨v, he, hk⟩ => by subst he; exact hK v w'' hk
  | halt x w' => simp only [yieldsUpon] at h

/-- What is said of the values that an operation waits for. -/
def depsOf (md : Region.Mode) (φs : List Says) (u : Nat → Value) (w : World) : List Edge → Prop
  | [] => True
  | e :: es => (Region.binds md e = true → φs.getD e.on (fun _ _ => True) (u e.on) w) ∧ depsOf md φs u w es

theorem depsOf_mk {md : Region.Mode} {φs : List Says} {u : Nat → Value} {w : World} : ∀ es : List Edge, (∀ e ∈ es, Region.binds md e = true → φs.getD e.on (fun _ _ => True) (u e.on) w) → depsOf md φs u w es
  | [], _ => trivial
  | e :: es, h => ⟨h e (by simp), depsOf_mk es (fun e' he' => h e' (by simp [he']))⟩

/-- One look at each operation, in the order of the text: say what it leaves; that this stays so; that it does leave it. -/
def walkS (P : Program) (md : Region.Mode) (R : World → World → Prop) (W : World) (a : Act) (heads : List Oper) (fin : List Says → Prop) : List Oper → List Says → Prop
  | [], φs => fin φs
  | o :: rest, φs => ∃ φ : Says, (∀ v w w', R w w' → φ v w → φ v w') ∧
      (∀ u w, R W w → depsOf md φs u w o.after.toList → yieldsTo P o (look a heads u) w fun v w' => R w w' ∧ φ v w') ∧ walkS P md R W a heads fin rest (φs ++ [φ])

theorem walkS_out {md : Region.Mode} {R : World → World → Prop} {W : World} {a : Act} {heads : List Oper} {fin : List Says → Prop} : ∀ (rest : List Oper) (φs : List Says), walkS P md R W a heads fin rest φs →
    ∃ ψs, fin (φs ++ ψs) ∧ ψs.length = rest.length ∧ (∀ φ ∈ ψs, ∀ v w w', R w w' → φ v w → φ v w') ∧
      ∀ i o, rest[i]? = some o → ∃ φ, ψs[i]? = some φ ∧ ∀ u w, R W w → depsOf md (φs ++ ψs.take i) u w o.after.toList → yieldsTo P o (look a heads u) w fun v w' => R w w' ∧ φ v w'
  | [], φs, h => ⟨[], by rw [List.append_nil]; exact h, rfl, by simp, by simp⟩
  | o :: rest, φs, h => by
    obtain ⟨φ, hst, hy, hr⟩ := h
    obtain ⟨ψs, hf, hl, hs, hi⟩ := walkS_out rest (φs ++ [φ]) hr
    refine ⟨φ :: ψs, by simpa using hf, by simp [hl], fun φ' hm => ?_, fun i o' ho => ?_⟩
    · rcases List.mem_cons.1 hm with rfl | hm
      · exact hst
      · exact hs φ' hm
    · cases i with
      | zero =>
        simp at ho
        subst ho
        exact ⟨φ, rfl, by simpa using hy⟩
      | succ i =>
        obtain ⟨φ', h1, h2⟩ := hi i o' (by simpa using ho)
        exact ⟨φ', by simpa using h1, by simpa using h2⟩

/-- What is said of all of them. -/
def sayAll (w : World) : List Says → Nat → (Nat → Value) → Prop
  | [], _, _ => True
  | φ :: φs, k, u => φ (u k) w ∧ sayAll w φs (k + 1) u

theorem sayAll_mk {w : World} {u : Nat → Value} : ∀ (φs : List Says) (k : Nat), (∀ (i : Nat) (φ : Says), φs[i]? = some φ → φ (u (k + i)) w) → sayAll w φs k u
  | [], _, _ => trivial
  | φ :: φs, k, h => ⟨h 0 φ rfl, sayAll_mk φs (k + 1) (fun i φ' hi => by have := h (i + 1) φ' (by simpa using hi); rwa [show k + (i + 1) = k + 1 + i by omega] at this)⟩

theorem wp_region_says {id : Nat} {a : Act} {w : World} {l : List Oper} (n : Nat) (R : World → World → Prop) (hRt : ∀ x y z, R x y → R y z → R x z) (W : World) (hW : R W w.drew)
    (hm : P.follows .mixedOrders = true) (hB : relyB .any l.toArray n = true) (hA : apartB (l.take n) = true) (hg : (l.take n).all (fun o => o.guard.isNone) = true) (hF : fitsB a.tmps.size (l.take n) = true)
    (h : walkS P .any R W a (l.take n) (fun φs => ∀ u w', R W w' → sayAll w' φs 0 u → wpList P l.toArray Q (l.drop n) (putAll a (l.take n) 0 u) w') (l.take n) []) : (Code.region id l.toArray true).wp P Q a w := by
  obtain ⟨φs, hfin, hlen, hst, hy⟩ := walkS_out _ _ h
  simp only [List.nil_append] at hfin hy
  have hnl : n < l.length := by
    simp only [relyB, Bool.and_eq_true, decide_eq_true_eq] at hB
    simpa using hB.1.1.1.1
  have hln : φs.length = n := by rw [hlen]; simp; omega
  have hback : backB .any l.toArray n = true := by
    simp only [relyB, Bool.and_eq_true, decide_eq_true_eq] at hB
    exact hB.1.2
  refine wp_region_inv n hm hB (fun listed a' w' => R W w' ∧ ∃ u, a' = putAll a (l.take n) 0 u ∧ ∀ j φ, φs[j]? = some φ → listed.getD j false = true → φ (u j) w') ?_ ?_ ?_
  · obtain ⟨u, hu⟩ := putAll_init a (l.take n)
    exact ⟨hW, u, hu.symm, fun j φ _ hl => by rw [getD_replicate_false] at hl; cases hl⟩
  · rintro i listed a' w' hin hr ⟨hRW, u, rfl, hsay⟩
    obtain ⟨hli, o, ho, hall⟩ := mem_ready.1 hr
    have ho' : (l.take n)[i]? = some o := by
      rw [List.getElem?_take, if_pos hin]
      simpa using ho
    obtain ⟨φ, hφ, hstep⟩ := hy i o ho'
    have hgo : o.guard = none := by
      have := List.all_eq_true.1 hg o (List.mem_of_getElem? ho')
      simpa using this
    have hd : depsOf .any (φs.take i) u w' o.after.toList := depsOf_mk _ fun e he hb => by
      have hm' : e ∈ o.after := by simpa using he
      obtain ⟨o2, ho2, hlt⟩ := backB_spec hback hin
      obtain rfl : o = o2 := Option.some.inj (ho.symm.trans ho2)
      have hei := hlt e hm' hb
      have h1 := hall e hm' hb
      cases hq : φs[e.on]? with
      | none => simp [hei, hq]
      | some ψ =>
        have := hsay e.on ψ hq h1
        simpa [List.getElem?_take, hei, hq] using this
    have hys := hstep u w' hRW hd
    unfold wpOp
    simp only [ho]
    have hw : Region.wanted o (yielded l.toArray (putAll a (l.take n) 0 u).tmps) = true := by simp [Region.wanted, hgo]
    rw [if_pos hw]
    refine .inl (wp_of_yields (by rw [look_eval a u _ hF]; exact hys) ?_)
    rintro v w'' ⟨hR, hv⟩
    refine ⟨hRt _ _ _ hRW hR, upd u i v, ?_, fun j ψ hj hl => ?_⟩
    · have := putAll_put a u v (l.take n) 0 hA i o ho'
      simpa using this
    · by_cases hji : j = i
      · subst hji
        obtain rfl : ψ = φ := Option.some.inj (hj.symm.trans hφ)
        simpa [upd] using hv
      · rw [getD_set_ne false (Ne.symm hji)] at hl
        simp only [upd, if_neg hji]
        exact hst ψ (List.mem_of_getElem? hj) _ _ _ hR (hsay j ψ hj hl)
  · rintro a' w' ⟨hRW, u, rfl, hsay⟩
    refine hfin u w' hRW (sayAll_mk φs 0 fun i φ hi => ?_)
    have hin : i < n := by
      rcases Nat.lt_or_ge i n with h | h
      · exact h
      · rw [List.getElem?_eq_none (by omega)] at hi; cases hi
    rw [Nat.zero_add]
    refine hsay i φ hi ?_
    have : i < l.length := by omega
    simp [doneN, List.getElem?_append, hin]

/-- It is just this value. -/
def isV (c : Value) : Says := fun v _ => v = c

theorem walkS_is {md : Region.Mode} {R : World → World → Prop} {W : World} {a : Act} {heads : List Oper} {fin : List Says → Prop} {o : Oper} {rest : List Oper} {φs : List Says} (c : Value) (hr : ∀ w, R w w)
    (hy : ∀ u w, R W w → depsOf md φs u w o.after.toList → (execOp (look a heads u) o).run P w = .ok (.value c) w) (h : walkS P md R W a heads fin rest (φs ++ [isV c])) : walkS P md R W a heads fin (o :: rest) φs :=
  ⟨isV c, fun _ _ _ _ h => h, fun u w hw hd => by unfold yieldsTo; rw [hy u w hw hd]; exact ⟨hr w, rfl⟩, h⟩

/-- A call that is said to leave this. -/
theorem walkS_call {md : Region.Mode} {R : World → World → Prop} {W : World} {a : Act} {heads : List Oper} {fin : List Says → Prop} {o : Oper} {rest : List Oper} {φs : List Says} (φ : Says) (f : FuncId) (args : Array Value) (hst : ∀ v w w', R w w' → φ v w → φ v w')
    (hy : ∀ u w, R W w → depsOf md φs u w o.after.toList → (execOp (look a heads u) o).run P w = .ok (.enter f args) w)
    (hc : ∀ w, R W w → Calls P f args w fun e w' => ∃ v, e = .returned v ∧ R w w' ∧ φ v w') (h : walkS P md R W a heads fin rest (φs ++ [φ])) : walkS P md R W a heads fin (o :: rest) φs :=
  ⟨φ, hst, fun u w hw hd => by unfold yieldsTo; rw [hy u w hw hd]; exact hc w hw, h⟩

end
end Go.Proofs.Ytldljohholgmoaa

/-
  A statement whose order is open, some of whose operations are guarded, operation by operation: what each is said to leave, where each guard is said to let by. No conditions.
-/
namespace Go.Proofs.Ytldljohholgmoaa
open Go

theorem findAt_apart : ∀ (l : List Oper) (k : Nat), apartB l = true → ∀ (i : Nat) (o : Oper) (d : Tmp), l[i]? = some o → o.dst = some d → findAt l k d = some (k + i)
  | [], _, _, _, _, _, h, _ => by simp at h
  | o :: rest, k, _, 0, o', d, h, hd => by
    simp at h
    subst h
    simp [findAt, hd]
  | o :: rest, k, ha, i + 1, o', d, h, hd => by
    simp only [apartB, Bool.and_eq_true] at ha
    have hr : rest[i]? = some o' := by simpa using h
    have hne := List.all_eq_true.1 ha.1.2 o' (List.mem_of_getElem? hr)
    simp only [decide_eq_true_eq] at hne
    rw [findAt, if_neg (fun e => hne (by rw [hd, e])), findAt_apart rest (k + 1) ha.2 i o' d hr hd]
    congr 1
    omega

/-- Each guard is waited for. -/
def guardB (md : Region.Mode) (l : List Oper) : Bool := l.all fun o => match o.guard with
  | none => true
  | some (j, _) => o.after.any fun e => decide (e.on = j) && Region.binds md e

/-- What is said of its guard lets the operation by. -/
def guardSays (φs : List Says) (o : Oper) : Prop := match o.guard with
  | none => True
  | some (j, b) => ∃ φ, φs[j]? = some φ ∧ ∀ v w, φ v w → v = .bool b

section
variable {P : Program} {Q : Exit → Act → World → Prop}

def walkG (P : Program) (md : Region.Mode) (R : World → World → Prop) (W : World) (a : Act) (heads : List Oper) (fin : List Says → Prop) : List Oper → List Says → Prop
  | [], φs => fin φs
  | o :: rest, φs => ∃ φ : Says, guardSays φs o ∧ (∀ v w w', R w w' → φ v w → φ v w') ∧
      (∀ u w, R W w → depsOf md φs u w o.after.toList → yieldsTo P o (look a heads u) w fun v w' => R w w' ∧ φ v w') ∧ walkG P md R W a heads fin rest (φs ++ [φ])

theorem walkG_out {md : Region.Mode} {R : World → World → Prop} {W : World} {a : Act} {heads : List Oper} {fin : List Says → Prop} : ∀ (rest : List Oper) (φs : List Says), walkG P md R W a heads fin rest φs →
    ∃ ψs, fin (φs ++ ψs) ∧ ψs.length = rest.length ∧ (∀ φ ∈ ψs, ∀ v w w', R w w' → φ v w → φ v w') ∧
      ∀ i o, rest[i]? = some o → guardSays (φs ++ ψs.take i) o ∧ ∃ φ, ψs[i]? = some φ ∧ ∀ u w, R W w → depsOf md (φs ++ ψs.take i) u w o.after.toList → yieldsTo P o (look a heads u) w fun v w' => R w w' ∧ φ v w'
  | [], φs, h => ⟨[], by rw [List.append_nil]; exact h, rfl, by simp, by simp⟩
  | o :: rest, φs, h => by
    obtain ⟨φ, hgs, hst, hy, hr⟩ := h
    obtain ⟨ψs, hf, hl, hs, hi⟩ := walkG_out rest (φs ++ [φ]) hr
    refine ⟨φ :: ψs, by simpa using hf, by simp [hl], fun φ' hm => ?_, fun i o' ho => ?_⟩
    · rcases List.mem_cons.1 hm with rfl | hm
      · exact hst
      · exact hs φ' hm
    · cases i with
      | zero =>
        simp at ho
        subst ho
        exact ⟨by simpa using hgs, φ, rfl, by simpa using hy⟩
      | succ i =>
        obtain ⟨h0, φ', h1, h2⟩ := hi i o' (by simpa using ho)
        exact ⟨by simpa using h0, φ', by simpa using h1, by simpa using h2⟩

theorem depsOf_at {md : Region.Mode} {φs : List Says} {u : Nat → Value} {w : World} : ∀ {es : List Edge}, depsOf md φs u w es → ∀ e ∈ es, Region.binds md e = true → φs.getD e.on (fun _ _ => True) (u e.on) w
  | [], _, _, he, _ => by cases he
  | e' :: es, h, e, he, hb => by
    rcases List.mem_cons.1 he with rfl | he
    · exact h.1 hb
    · exact depsOf_at h.2 e he hb

theorem wp_region_saysG {id : Nat} {a : Act} {w : World} {l : List Oper} (n : Nat) (R : World → World → Prop) (hRt : ∀ x y z, R x y → R y z → R x z) (W : World) (hW : R W w.drew)
    (hm : P.follows .mixedOrders = true) (hB : relyB .any l.toArray n = true) (hA : apartB (l.take n) = true) (hg : guardB .any (l.take n) = true) (hF : fitsB a.tmps.size (l.take n) = true)
    (h : walkG P .any R W a (l.take n) (fun φs => ∀ u w', R W w' → sayAll w' φs 0 u → wpList P l.toArray Q (l.drop n) (putAll a (l.take n) 0 u) w') (l.take n) []) : (Code.region id l.toArray true).wp P Q a w := by
  obtain ⟨φs, hfin, hlen, hst, hy⟩ := walkG_out _ _ h
  simp only [List.nil_append] at hfin hy
  have hnl : n < l.length := by
    simp only [relyB, Bool.and_eq_true, decide_eq_true_eq] at hB
    simpa using hB.1.1.1.1
  have hln : φs.length = n := by rw [hlen]; simp; omega
  have hback : backB .any l.toArray n = true := by
    simp only [relyB, Bool.and_eq_true, decide_eq_true_eq] at hB
    exact hB.1.2
  refine wp_region_inv n hm hB (fun listed a' w' => R W w' ∧ ∃ u, a' = putAll a (l.take n) 0 u ∧ ∀ j φ, φs[j]? = some φ → listed.getD j false = true → φ (u j) w') ?_ ?_ ?_
  · obtain ⟨u, hu⟩ := putAll_init a (l.take n)
    exact ⟨hW, u, hu.symm, fun j φ _ hl => by rw [getD_replicate_false] at hl; cases hl⟩
  · rintro i listed a' w' hin hr ⟨hRW, u, rfl, hsay⟩
    obtain ⟨hli, o, ho, hall⟩ := mem_ready.1 hr
    have ho' : (l.take n)[i]? = some o := by
      rw [List.getElem?_take, if_pos hin]
      simpa using ho
    obtain ⟨hgs, φ, hφ, hstep⟩ := hy i o ho'
    have hd : depsOf .any (φs.take i) u w' o.after.toList := depsOf_mk _ fun e he hb => by
      have hm' : e ∈ o.after := by simpa using he
      obtain ⟨o2, ho2, hlt⟩ := backB_spec hback hin
      obtain rfl : o = o2 := Option.some.inj (ho.symm.trans ho2)
      have hei := hlt e hm' hb
      have h1 := hall e hm' hb
      cases hq : φs[e.on]? with
      | none => simp [hei, hq]
      | some ψ =>
        have := hsay e.on ψ hq h1
        simpa [List.getElem?_take, hei, hq] using this
    have hys := hstep u w' hRW hd
    unfold wpOp
    simp only [ho]
    have hw : Region.wanted o (yielded l.toArray (putAll a (l.take n) 0 u).tmps) = true := by
      unfold guardSays at hgs
      unfold Region.wanted
      cases hgo : o.guard with
      | none => rfl
      | some g =>
        obtain ⟨j, b⟩ := g
        rw [hgo] at hgs
        obtain ⟨ψ, hψ, hval⟩ := hgs
        have hge : (o.after.any fun e => decide (e.on = j) && Region.binds .any e) = true := by
          have := List.all_eq_true.1 hg o (List.mem_of_getElem? ho')
          rw [hgo] at this
          exact this
        rw [Array.any_eq_true'] at hge
        obtain ⟨e, he, hej⟩ := hge
        simp only [Bool.and_eq_true, decide_eq_true_eq] at hej
        have hd1 := depsOf_at hd e (by simpa using he) hej.2
        rw [hej.1] at hd1
        have hψ' : (φs.take i).getD j (fun _ _ => True) = ψ := by rw [List.getD_eq_getElem?_getD, hψ]; rfl
        rw [hψ'] at hd1
        have huj := hval _ _ hd1
        have hji : j < (φs.take i).length := by
          rcases Nat.lt_or_ge j (φs.take i).length with hx | hx
          · exact hx
          · rw [List.getElem?_eq_none hx] at hψ; cases hψ
        have hjn : j < n := by rw [List.length_take] at hji; omega
        have hjl : j < l.length := by omega
        have hoj : (l.take n)[j]? = some (l[j]'hjl) := by rw [List.getElem?_take, if_pos hjn, List.getElem?_eq_getElem hjl]
        have hds : (l[j]'hjl).dst.isSome = true := by
          have : ∀ (m : List Oper), apartB m = true → ∀ o ∈ m, o.dst.isSome = true := by
            intro m
            induction m with
            | nil => simp
            | cons x m ih =>
              intro hx o ho
              simp only [apartB, Bool.and_eq_true] at hx
              rcases List.mem_cons.1 ho with rfl | ho
              · exact hx.1.1
              · exact ih hx.2 o ho
          exact this _ hA _ (List.mem_of_getElem? hoj)
        obtain ⟨d, hdd⟩ := Option.isSome_iff_exists.1 hds
        have hfd : d < a.tmps.size := by
          have := List.all_eq_true.1 hF _ (List.mem_of_getElem? hoj)
          rw [hdd] at this
          simpa using this
        have hat := putAll_at a u d (l.take n) 0 hF
        rw [findAt_apart (l.take n) 0 hA j _ d hoj hdd] at hat
        simp only [Nat.zero_add] at hat
        have hsz : d < (putAll a (l.take n) 0 u).tmps.size := by rw [putAll_size]; exact hfd
        have hget : (putAll a (l.take n) 0 u).tmps[d]? = some (.bool b) := by
          rw [Array.getElem?_eq_getElem hsz]
          congr 1
          rw [← huj, ← hat]
          simp [hsz]
        simp [yielded, hjl, hdd, hget]
    rw [if_pos hw]
    refine .inl (wp_of_yields (by rw [look_eval a u _ hF]; exact hys) ?_)
    rintro v w'' ⟨hR, hv⟩
    refine ⟨hRt _ _ _ hRW hR, upd u i v, ?_, fun j ψ hj hl => ?_⟩
    · have := putAll_put a u v (l.take n) 0 hA i o ho'
      simpa using this
    · by_cases hji : j = i
      · subst hji
        obtain rfl : ψ = φ := Option.some.inj (hj.symm.trans hφ)
        simpa [upd] using hv
      · rw [getD_set_ne false (Ne.symm hji)] at hl
        simp only [upd, if_neg hji]
        exact hst ψ (List.mem_of_getElem? hj) _ _ _ hR (hsay j ψ hj hl)
  · rintro a' w' ⟨hRW, u, rfl, hsay⟩
    refine hfin u w' hRW (sayAll_mk φs 0 fun i φ hi => ?_)
    have hin : i < n := by
      rcases Nat.lt_or_ge i n with h | h
      · exact h
      · rw [List.getElem?_eq_none (by omega)] at hi; cases hi
    rw [Nat.zero_add]
    refine hsay i φ hi ?_
    have : i < l.length := by omega
    simp [doneN, List.getElem?_append, hin]

theorem isV_guard (c : Value) (b : Bool) (h : c = .bool b) : ∀ v w, isV c v w → v = .bool b := fun _ _ hv => hv.trans h

theorem gs0 {φs : List Says} {o : Oper} (h : o.guard = none) : guardSays φs o := by unfold guardSays; rw [h]; trivial
theorem gs1 {φs : List Says} {o : Oper} {j : Nat} {b : Bool} {c : Value} (h : o.guard = some (j, b)) (hφ : φs[j]? = some (isV c)) (hc : c = .bool b) : guardSays φs o := by
  unfold guardSays
  rw [h]
  exact ⟨_, hφ, isV_guard c b hc⟩

theorem walkG_is {md : Region.Mode} {R : World → World → Prop} {W : World} {a : Act} {heads : List Oper} {fin : List Says → Prop} {o : Oper} {rest : List Oper} {φs : List Says} (c : Value) (hgs : guardSays φs o) (hr : ∀ w, R w w)
    (hy : ∀ u w, R W w → depsOf md φs u w o.after.toList → (execOp (look a heads u) o).run P w = .ok (.value c) w) (h : walkG P md R W a heads fin rest (φs ++ [isV c])) : walkG P md R W a heads fin (o :: rest) φs :=
  ⟨isV c, hgs, fun _ _ _ _ h => h, fun u w hw hd => by unfold yieldsTo; rw [hy u w hw hd]; exact ⟨hr w, rfl⟩, h⟩

/-- An operation that makes memory. -/
theorem walkG_new {md : Region.Mode} {R : World → World → Prop} {W : World} {a : Act} {heads : List Oper} {fin : List Says → Prop} {o : Oper} {rest : List Oper} {φs : List Says} (φ : Says) (hgs : guardSays φs o) (hst : ∀ v w w', R w w' → φ v w → φ v w')
    (hy : ∀ u w, R W w → depsOf md φs u w o.after.toList → ∃ v w', (execOp (look a heads u) o).run P w = .ok (.value v) w' ∧ R w w' ∧ φ v w') (h : walkG P md R W a heads fin rest (φs ++ [φ])) : walkG P md R W a heads fin (o :: rest) φs :=
  ⟨φ, hgs, hst, fun u w hw hd => by
    obtain ⟨v, w', e, h1, h2⟩ := hy u w hw hd
    unfold yieldsTo
    rw [e]
    exact ⟨h1, h2⟩, h⟩

/-- A call that is said to leave this. -/
theorem walkG_call {md : Region.Mode} {R : World → World → Prop} {W : World} {a : Act} {heads : List Oper} {fin : List Says → Prop} {o : Oper} {rest : List Oper} {φs : List Says} (φ : Says) (f : FuncId) (args : Array Value) (hgs : guardSays φs o) (hst : ∀ v w w', R w w' → φ v w → φ v w')
    (hy : ∀ u w, R W w → depsOf md φs u w o.after.toList → (execOp (look a heads u) o).run P w = .ok (.enter f args) w)
    (hc : ∀ w, R W w → Calls P f args w fun e w' => ∃ v, e = .returned v ∧ R w w' ∧ φ v w') (h : walkG P md R W a heads fin rest (φs ++ [φ])) : walkG P md R W a heads fin (o :: rest) φs :=
  ⟨φ, hgs, hst, fun u w hw hd => by unfold yieldsTo; rw [hy u w hw hd]; exact hc w hw, h⟩

end
end Go.Proofs.Ytldljohholgmoaa

/-
  A statement whose order is open, some of whose operations are guarded, operation by operation: what each is said to leave, where its guard is said to let by, or to stop it. No conditions.
-/
namespace Go.Proofs.Ytldljohholgmoaa
open Go

/-- What is said of its guard stops the operation. -/
def guardStops (φs : List Says) (o : Oper) : Prop := ∃ (j : Nat) (b : Bool) (φ : Says), o.guard = some (j, b) ∧ φs[j]? = some φ ∧ ∀ v w, φ v w → v ≠ .bool b

section
variable {P : Program} {Q : Exit → Act → World → Prop}

def walkK (P : Program) (md : Region.Mode) (R : World → World → Prop) (W : World) (a : Act) (heads : List Oper) (fin : List Says → Prop) : List Oper → List Says → Prop
  | [], φs => fin φs
  | o :: rest, φs => ∃ φ : Says, (∀ v w w', R w w' → φ v w → φ v w') ∧
      ((guardSays φs o ∧ ∀ u w, R W w → depsOf md φs u w o.after.toList → yieldsTo P o (look a heads u) w fun v w' => R w w' ∧ φ v w') ∨ (guardStops φs o ∧ ∀ w, φ undef w)) ∧ walkK P md R W a heads fin rest (φs ++ [φ])

theorem walkK_out {md : Region.Mode} {R : World → World → Prop} {W : World} {a : Act} {heads : List Oper} {fin : List Says → Prop} : ∀ (rest : List Oper) (φs : List Says), walkK P md R W a heads fin rest φs →
    ∃ ψs, fin (φs ++ ψs) ∧ ψs.length = rest.length ∧ (∀ φ ∈ ψs, ∀ v w w', R w w' → φ v w → φ v w') ∧
      ∀ i o, rest[i]? = some o → ∃ φ, ψs[i]? = some φ ∧ ((guardSays (φs ++ ψs.take i) o ∧ ∀ u w, R W w → depsOf md (φs ++ ψs.take i) u w o.after.toList → yieldsTo P o (look a heads u) w fun v w' => R w w' ∧ φ v w') ∨ (guardStops (φs ++ ψs.take i) o ∧ ∀ w, φ undef w))
  | [], φs, h => ⟨[], by rw [List.append_nil]; exact h, rfl, by simp, by simp⟩
  | o :: rest, φs, h => by
    obtain ⟨φ, hst, hy, hr⟩ := h
    obtain ⟨ψs, hf, hl, hs, hi⟩ := walkK_out rest (φs ++ [φ]) hr
    refine ⟨φ :: ψs, by simpa using hf, by simp [hl], fun φ' hm => ?_, fun i o' ho => ?_⟩
    · rcases List.mem_cons.1 hm with rfl | hm
      · exact hst
      · exact hs φ' hm
    · cases i with
      | zero =>
        simp at ho
        subst ho
        exact ⟨φ, rfl, by simpa using hy⟩
      | succ i =>
        obtain ⟨φ', h1, h2⟩ := hi i o' (by simpa using ho)
        exact ⟨φ', by simpa using h1, by simpa using h2⟩

theorem wp_region_saysK {id : Nat} {a : Act} {w : World} {l : List Oper} (n : Nat) (R : World → World → Prop) (hRt : ∀ x y z, R x y → R y z → R x z) (W : World) (hW : R W w.drew)
    (hm : P.follows .mixedOrders = true) (hB : relyB .any l.toArray n = true) (hA : apartB (l.take n) = true) (hg : guardB .any (l.take n) = true) (hF : fitsB a.tmps.size (l.take n) = true)
    (h : walkK P .any R W a (l.take n) (fun φs => ∀ u w', R W w' → sayAll w' φs 0 u → wpList P l.toArray Q (l.drop n) (putAll a (l.take n) 0 u) w') (l.take n) []) : (Code.region id l.toArray true).wp P Q a w := by
  obtain ⟨φs, hfin, hlen, hst, hy⟩ := walkK_out _ _ h
  simp only [List.nil_append] at hfin hy
  have hnl : n < l.length := by
    simp only [relyB, Bool.and_eq_true, decide_eq_true_eq] at hB
    simpa using hB.1.1.1.1
  have hln : φs.length = n := by rw [hlen]; simp; omega
  have hback : backB .any l.toArray n = true := by
    simp only [relyB, Bool.and_eq_true, decide_eq_true_eq] at hB
    exact hB.1.2
  refine wp_region_inv n hm hB (fun listed a' w' => R W w' ∧ ∃ u, a' = putAll a (l.take n) 0 u ∧ ∀ j φ, φs[j]? = some φ → listed.getD j false = true → φ (u j) w') ?_ ?_ ?_
  · obtain ⟨u, hu⟩ := putAll_init a (l.take n)
    exact ⟨hW, u, hu.symm, fun j φ _ hl => by rw [getD_replicate_false] at hl; cases hl⟩
  · rintro i listed a' w' hin hr ⟨hRW, u, rfl, hsay⟩
    obtain ⟨hli, o, ho, hall⟩ := mem_ready.1 hr
    have ho' : (l.take n)[i]? = some o := by
      rw [List.getElem?_take, if_pos hin]
      simpa using ho
    obtain ⟨φ, hφ, hor⟩ := hy i o ho'
    have hd : depsOf .any (φs.take i) u w' o.after.toList := depsOf_mk _ fun e he hb => by
      have hm' : e ∈ o.after := by simpa using he
      obtain ⟨o2, ho2, hlt⟩ := backB_spec hback hin
      obtain rfl : o = o2 := Option.some.inj (ho.symm.trans ho2)
      have hei := hlt e hm' hb
      have h1 := hall e hm' hb
      cases hq : φs[e.on]? with
      | none => simp [hei, hq]
      | some ψ =>
        have := hsay e.on ψ hq h1
        simpa [List.getElem?_take, hei, hq] using this
    have hslot : ∀ (j : Nat) (b : Bool) (ψ : Says), o.guard = some (j, b) → (φs.take i).getD j (fun _ _ => True) = ψ → (φs.take i)[j]? = some ψ → ψ (u j) w' ∧ ∃ d, (l[j]?).bind (·.dst) = some d ∧ (putAll a (l.take n) 0 u).tmps[d]? = some (u j) := by
      intro j b ψ hgo hψ' hψ
      have hge : (o.after.any fun e => decide (e.on = j) && Region.binds .any e) = true := by
        have := List.all_eq_true.1 hg o (List.mem_of_getElem? ho')
        rw [hgo] at this
        exact this
      rw [Array.any_eq_true'] at hge
      obtain ⟨e, he, hej⟩ := hge
      simp only [Bool.and_eq_true, decide_eq_true_eq] at hej
      have hd1 := depsOf_at hd e (by simpa using he) hej.2
      rw [hej.1, hψ'] at hd1
      have hji : j < (φs.take i).length := by
        rcases Nat.lt_or_ge j (φs.take i).length with hx | hx
        · exact hx
        · rw [List.getElem?_eq_none hx] at hψ; cases hψ
      have hjn : j < n := by rw [List.length_take] at hji; omega
      have hjl : j < l.length := by omega
      have hoj : (l.take n)[j]? = some (l[j]'hjl) := by rw [List.getElem?_take, if_pos hjn, List.getElem?_eq_getElem hjl]
      have hds : (l[j]'hjl).dst.isSome = true := by
        have : ∀ (m : List Oper), apartB m = true → ∀ o ∈ m, o.dst.isSome = true := by
          intro m
          induction m with
          | nil => simp
          | cons x m ih =>
            intro hx o ho
            simp only [apartB, Bool.and_eq_true] at hx
            rcases List.mem_cons.1 ho with rfl | ho
            · exact hx.1.1
            · exact ih hx.2 o ho
        exact this _ hA _ (List.mem_of_getElem? hoj)
      obtain ⟨d, hdd⟩ := Option.isSome_iff_exists.1 hds
      have hfd : d < a.tmps.size := by
        have := List.all_eq_true.1 hF _ (List.mem_of_getElem? hoj)
        rw [hdd] at this
        simpa using this
      have hat := putAll_at a u d (l.take n) 0 hF
      rw [findAt_apart (l.take n) 0 hA j _ d hoj hdd] at hat
      simp only [Nat.zero_add] at hat
      have hsz : d < (putAll a (l.take n) 0 u).tmps.size := by rw [putAll_size]; exact hfd
      refine ⟨hd1, d, by rw [List.getElem?_eq_getElem hjl]; exact hdd, ?_⟩
      rw [Array.getElem?_eq_getElem hsz]
      congr 1
      rw [← hat]
      simp [hsz]
    unfold wpOp
    simp only [ho]
    rcases hor with ⟨hgs, hstep⟩ | ⟨hgs, hund⟩
    · have hys := hstep u w' hRW hd
      have hw : Region.wanted o (yielded l.toArray (putAll a (l.take n) 0 u).tmps) = true := by
        unfold guardSays at hgs
        unfold Region.wanted
        cases hgo : o.guard with
        | none => rfl
        | some g =>
          obtain ⟨j, b⟩ := g
          rw [hgo] at hgs
          obtain ⟨ψ, hψ, hval⟩ := hgs
          obtain ⟨hd1, d, hdst, hget⟩ := hslot j b ψ hgo (by rw [List.getD_eq_getElem?_getD, hψ]; rfl) hψ
          have huj := hval _ _ hd1
          rw [huj] at hget
          simp [yielded, hdst, hget]
      rw [if_pos hw]
      refine .inl (wp_of_yields (by rw [look_eval a u _ hF]; exact hys) ?_)
      rintro v w'' ⟨hR, hv⟩
      refine ⟨hRt _ _ _ hRW hR, upd u i v, ?_, fun j ψ hj hl => ?_⟩
      · have := putAll_put a u v (l.take n) 0 hA i o ho'
        simpa using this
      · by_cases hji : j = i
        · subst hji
          obtain rfl : ψ = φ := Option.some.inj (hj.symm.trans hφ)
          simpa [upd] using hv
        · rw [getD_set_ne false (Ne.symm hji)] at hl
          simp only [upd, if_neg hji]
          exact hst ψ (List.mem_of_getElem? hj) _ _ _ hR (hsay j ψ hj hl)
    · have hw : Region.wanted o (yielded l.toArray (putAll a (l.take n) 0 u).tmps) = false := by
        obtain ⟨j, b, ψ, hgo, hψ, hval⟩ := hgs
        obtain ⟨hd1, d, hdst, hget⟩ := hslot j b ψ hgo (by rw [List.getD_eq_getElem?_getD, hψ]; rfl) hψ
        have huj := hval _ _ hd1
        unfold Region.wanted
        rw [hgo]
        have hy : yielded l.toArray (putAll a (l.take n) 0 u).tmps j ≠ some b := by
          unfold yielded
          rw [List.getElem?_toArray, hdst]
          simp only [Option.bind_some, hget]
          intro he
          split at he
          · rename_i b' hb'
            injection hb' with hb'
            injection he with he
            exact huj (by rw [hb', he])
          · cases he
        simpa using hy
      rw [if_neg (by rw [hw]; decide)]
      refine ⟨hRW, upd u i undef, ?_, fun j ψ hj hl => ?_⟩
      · have := putAll_put a u undef (l.take n) 0 hA i o ho'
        simpa using this
      · by_cases hji : j = i
        · subst hji
          obtain rfl : ψ = φ := Option.some.inj (hj.symm.trans hφ)
          simpa [upd] using hund w'
        · rw [getD_set_ne false (Ne.symm hji)] at hl
          simp only [upd, if_neg hji]
          exact hsay j ψ hj hl
  · rintro a' w' ⟨hRW, u, rfl, hsay⟩
    refine hfin u w' hRW (sayAll_mk φs 0 fun i φ hi => ?_)
    have hin : i < n := by
      rcases Nat.lt_or_ge i n with h | h
      · exact h
      · rw [List.getElem?_eq_none (by omega)] at hi; cases hi
    rw [Nat.zero_add]
    refine hsay i φ hi ?_
    have : i < l.length := by omega
    simp [doneN, List.getElem?_append, hin]

theorem st1 {φs : List Says} {o : Oper} {j : Nat} {b : Bool} {c : Value} (h : o.guard = some (j, b)) (hφ : φs[j]? = some (isV c)) (hc : c ≠ .bool b) : guardStops φs o :=
  ⟨j, b, _, h, hφ, fun _ _ hv he => hc (hv.symm.trans he)⟩

theorem walkK_is {md : Region.Mode} {R : World → World → Prop} {W : World} {a : Act} {heads : List Oper} {fin : List Says → Prop} {o : Oper} {rest : List Oper} {φs : List Says} (c : Value) (hgs : guardSays φs o) (hr : ∀ w, R w w)
    (hy : ∀ u w, R W w → depsOf md φs u w o.after.toList → (execOp (look a heads u) o).run P w = .ok (.value c) w) (h : walkK P md R W a heads fin rest (φs ++ [isV c])) : walkK P md R W a heads fin (o :: rest) φs :=
  ⟨isV c, fun _ _ _ _ h => h, .inl ⟨hgs, fun u w hw hd => by unfold yieldsTo; rw [hy u w hw hd]; exact ⟨hr w, rfl⟩⟩, h⟩

/-- What is said so far, in another spelling. -/
theorem walkK_norm {md : Region.Mode} {R : World → World → Prop} {W : World} {a : Act} {heads : List Oper} {fin : List Says → Prop} {rest : List Oper} {φs φs' : List Says} (e : φs = φs') (h : walkK P md R W a heads fin rest φs') : walkK P md R W a heads fin rest φs := by
  rw [e]
  exact h

/-- An operation that its guard stops. -/
theorem walkK_skip {md : Region.Mode} {R : World → World → Prop} {W : World} {a : Act} {heads : List Oper} {fin : List Says → Prop} {o : Oper} {rest : List Oper} {φs : List Says} (hgs : guardStops φs o) (h : walkK P md R W a heads fin rest (φs ++ [isV undef])) : walkK P md R W a heads fin (o :: rest) φs :=
  ⟨isV undef, fun _ _ _ _ h => h, .inr ⟨hgs, fun _ => rfl⟩, h⟩

/-- An operation that makes memory. -/
theorem walkK_new {md : Region.Mode} {R : World → World → Prop} {W : World} {a : Act} {heads : List Oper} {fin : List Says → Prop} {o : Oper} {rest : List Oper} {φs : List Says} (φ : Says) (hgs : guardSays φs o) (hst : ∀ v w w', R w w' → φ v w → φ v w')
    (hy : ∀ u w, R W w → depsOf md φs u w o.after.toList → ∃ v w', (execOp (look a heads u) o).run P w = .ok (.value v) w' ∧ R w w' ∧ φ v w') (h : walkK P md R W a heads fin rest (φs ++ [φ])) : walkK P md R W a heads fin (o :: rest) φs :=
  ⟨φ, hst, .inl ⟨hgs, fun u w hw hd => by
    obtain ⟨v, w', e, h1, h2⟩ := hy u w hw hd
    unfold yieldsTo
    rw [e]
    exact ⟨h1, h2⟩⟩, h⟩

/-- A call that is said to leave this. -/
theorem walkK_call {md : Region.Mode} {R : World → World → Prop} {W : World} {a : Act} {heads : List Oper} {fin : List Says → Prop} {o : Oper} {rest : List Oper} {φs : List Says} (φ : Says) (f : FuncId) (args : Array Value) (hgs : guardSays φs o) (hst : ∀ v w w', R w w' → φ v w → φ v w')
    (hy : ∀ u w, R W w → depsOf md φs u w o.after.toList → (execOp (look a heads u) o).run P w = .ok (.enter f args) w)
    (hc : ∀ w, R W w → Calls P f args w fun e w' => ∃ v, e = .returned v ∧ R w w' ∧ φ v w') (h : walkK P md R W a heads fin rest (φs ++ [φ])) : walkK P md R W a heads fin (o :: rest) φs :=
  ⟨φ, hst, .inl ⟨hgs, fun u w hw hd => by unfold yieldsTo; rw [hy u w hw hd]; exact hc w hw⟩, h⟩

end
end Go.Proofs.Ytldljohholgmoaa

/-
  In a statement whose order is open: a call whose arguments hang on what other operations left. It names no function of the program. No conditions.
-/
namespace Go.Proofs.Ytldljohholgmoaa
open Go

/-- A call whose arguments hang on what other operations left. -/
theorem walkK_callU {P : Program} {md : Region.Mode} {R : World → World → Prop} {W : World} {a : Act} {heads : List Oper} {fin : List Says → Prop} {o : Oper} {rest : List Oper} {φs : List Says} (φ : Says) (f : FuncId) (hgs : guardSays φs o) (hst : ∀ v w w', R w w' → φ v w → φ v w')
    (hy : ∀ u w, R W w → depsOf md φs u w o.after.toList → ∃ args, (execOp (look a heads u) o).run P w = .ok (.enter f args) w ∧ Calls P f args w fun e w' => ∃ v, e = .returned v ∧ R w w' ∧ φ v w')
    (h : walkK P md R W a heads fin rest (φs ++ [φ])) : walkK P md R W a heads fin (o :: rest) φs :=
  ⟨φ, hst, .inl ⟨hgs, fun u w hw hd => by
    obtain ⟨args, h1, h2⟩ := hy u w hw hd
    unfold yieldsTo
    rw [h1]
    exact h2⟩, h⟩

end Go.Proofs.Ytldljohholgmoaa
