/-
  Words and contracts of this claim, 8 texts laid into one, each under its own remark. No conditions but those that stand at each.
-/
import Derived.StillTail
import Derived.WalkKit
import Derived.Test.YtpaocjpjlogkgaaGreatQWords
namespace Go.Proofs.YtpaocjpjlogkgaaGreat
set_option maxRecDepth 100000
set_option maxHeartbeats 32000000
open Go
section
open Go
section
variable {P:Program} {ops:Array Oper} {md:Region.Mode} {Q:Exit→Act→World→Prop}
theorem getD_set_self (listed:Array Bool) (i:Nat):(listed.setIfInBounds i true).getD i true=true:=by
 rcases Nat.lt_or_ge i listed.size with h | h
 ·simp [h]
 ·simp [h]
def leftN (listed:Array Bool):Nat→Nat
 | 0=>0
 | k + 1=>leftN listed k + (if listed.getD k true=false then 1 else 0)
theorem leftN_far (listed:Array Bool) (i:Nat):∀ k,k≤i→leftN (listed.setIfInBounds i true) k=leftN listed k
 | 0,_=>rfl
 | k + 1,h=>by rw [leftN,leftN,leftN_far listed i k (by omega),getD_set_ne true (by omega)]
theorem leftN_set (listed:Array Bool) (i:Nat) (hl:listed.getD i true=false):∀ k,i < k→leftN (listed.setIfInBounds i true) k + 1=leftN listed k
 | 0,h=>absurd h (by omega)
 | k + 1,h=>by
  rw [leftN,leftN]
  by_cases hk:i=k
  ·subst hk
   rw [leftN_far listed i i (Nat.le_refl _),getD_set_self,if_neg (by simp),if_pos hl]
  ·have:=leftN_set listed i hl k (by omega)
   rw [getD_set_ne true hk]
   omega
theorem leftN_zero (listed:Array Bool):∀ k,leftN listed k=0→∀ i,i < k→listed.getD i true=true
 | 0,_,i,hi=>absurd hi (by omega)
 | k + 1,h,i,hi=>by
  rw [leftN] at h
  by_cases hk:i=k
  ·subst hk
   cases hv:listed.getD i true with
   | true=>rfl
   | false=>rw [if_pos hv] at h;omega
  ·exact leftN_zero listed k (by omega) i (by omega)
theorem leftN_pos (listed:Array Bool):∀ k,leftN listed k≠0→∃ i,i < k∧listed.getD i true=false∧∀ j,j < i→listed.getD j true=true
 | 0,h=>absurd rfl h
 | k + 1,h=>by
  by_cases h0:leftN listed k=0
  ·refine ⟨k,by omega,?_,fun j hj=>leftN_zero listed k h0 j hj⟩
   cases hv:listed.getD k true with
   | false=>rfl
   | true=>rw [leftN,h0,hv] at h;simp at h
  ·obtain ⟨i,hi,h1,h2⟩:=leftN_pos listed k h0
   exact ⟨i,by omega,h1,h2⟩
theorem leftN_none (m:Nat):∀ k,k≤m→leftN (Array.replicate m false) k=k
 | 0,_=>rfl
 | k + 1,h=>by
  have hk:k < m:=by omega
  rw [leftN,leftN_none m k (by omega)]
  simp [hk]
def backB (md:Region.Mode) (ops:Array Oper) (n:Nat):Bool:=
 (List.range n).all fun i=>match ops[i]? with
  | some o=>o.after.all fun e=>!Region.binds md e || decide (e.on < i)
  | none=>false
theorem backB_spec {n i:Nat} (h:backB md ops n=true) (hi:i < n):∃ o,ops[i]? = some o∧∀ e∈o.after,Region.binds md e=true→e.on < i:=by
 have h1:=List.all_eq_true.1 h i (List.mem_range.2 hi)
 split at h1
 ·rename_i o ho
  refine ⟨o,ho,fun e he hb=>?_⟩
  have h2:=Array.all_eq_true_iff_forall_mem.1 h1 e he
  simpa [hb] using h2
 ·cases h1
theorem first_ready {n i:Nat} {listed:Array Bool} (hb:backB md ops n=true) (inv:HeadInv md ops n listed) (hi:i < n) (hl:listed.getD i true=false) (hj:∀ j,j < i→listed.getD j true=true) :
  i∈Region.ready md ops listed:=by
 obtain ⟨o,ho,he⟩:=backB_spec hb hi
 refine mem_ready.2 ⟨hl,o,ho,fun e hm hbi=>?_⟩
 have h1:=hj _ (he e hm hbi)
 have hlt:e.on < listed.size:=by
  have:=he e hm hbi
  have:i < ops.size:=(Array.getElem?_eq_some_iff.1 ho).1
  rw [inv.size]
  omega
 simpa [hlt] using h1
theorem any_of_inv {n g:Nat} (I:Array Bool→Act→World→Prop) (hb:backB md ops n=true)
  (htail:∀ listed,HeadInv md ops n listed→∀ i,i < n→listed.getD i true=false→∀ t∈Region.ready md ops listed,t < n)
  (hstep:∀ i listed a w,i < n→i∈Region.ready md ops listed→I listed a w→wpOp P ops Q i (fun a' w'=>I (listed.setIfInBounds i true) a' w') a w)
  (hL:∀ listed a w,HeadInv md ops n listed→leftN listed n=0→I listed a w→wpAny P md ops Q g listed a w) :
  ∀ f listed a w,HeadInv md ops n listed→leftN listed n=f→I listed a w→wpAny P md ops Q (f + g) listed a w
 | 0,listed,a,w,inv,hf,hI=>by rw [Nat.zero_add];exact hL listed a w inv hf hI
 | f + 1,listed,a,w,inv,hf,hI=>by
  rw [show f + 1 + g=(f + g) + 1 by omega]
  obtain ⟨i0,hi0,hl0,hj0⟩:=leftN_pos listed n (by omega)
  have hr0:=first_ready hb inv hi0 hl0 hj0
  refine ⟨fun h0=>(by rw [h0] at hr0;cases hr0),fun i hi=>?_⟩
  have hin:=htail listed inv i0 hi0 hl0 i hi
  have hli:=(mem_ready.1 hi).1
  exact wpOp_mono (fun a' w' h'=>any_of_inv I hb htail hstep hL f _ a' w' (inv.set hi hin) (by have:=leftN_set listed i hli n hin;omega) h') (hstep i listed a w hin hi hI)
def doneN (size n:Nat):Array Bool:=(List.replicate n true ++ List.replicate (size - n) false).toArray
def relyB (md:Region.Mode) (ops:Array Oper) (n:Nat):Bool:=
 decide (n < ops.size) && Region.sinkB md ops n && Region.chainB md ops n && backB md ops n && Region.seqB md ops (ops.size - n) n (doneN ops.size n)
theorem done_eq {n:Nat} {listed:Array Bool} (hn:n≤ops.size) (inv:HeadInv md ops n listed) (h:leftN listed n=0):listed=doneN ops.size n:=by
 have hs:(doneN ops.size n).size=ops.size:=by simp [doneN];omega
 apply Array.ext
 ·rw [inv.size,hs]
 ·intro i h1 h2
  by_cases hi:i < n
  ·have:=leftN_zero listed n h i hi
   simp [h1] at this
   rw [this]
   simp [doneN,hi]
  ·have:=inv.tail i (by omega) (by rw [← inv.size];exact h1)
   simp [h1] at this
   rw [this]
   simp [doneN,List.getElem_append,hi]
theorem wp_region_inv {id:Nat} {a:Act} {w:World} {l:List Oper} (n:Nat) (hm:P.follows .mixedOrders=true) (hB:relyB .any l.toArray n=true) (I:Array Bool→Act→World→Prop)
  (h0:I (Array.replicate l.toArray.size false) a w.drew)
  (hstep:∀ i listed a w,i < n→i∈Region.ready .any l.toArray listed→I listed a w→wpOp P l.toArray Q i (fun a' w'=>I (listed.setIfInBounds i true) a' w') a w)
  (ht:∀ a w,I (doneN l.toArray.size n) a w→wpList P l.toArray Q (l.drop n) a w):(Code.region id l.toArray true).wp P Q a w:=by
 simp only [relyB,Bool.and_eq_true,decide_eq_true_eq] at hB
 obtain ⟨⟨⟨⟨hn,hs⟩,hc⟩,hb⟩,hq⟩:=hB
 have hdl:(l.drop n).length=l.toArray.size - n:=by simp
 have inv0:HeadInv .any l.toArray n (Array.replicate l.toArray.size false):=
  ⟨by simp,fun j oj _ hl=>(by rw [getD_replicate_false] at hl;cases hl),fun t _ ht=>getD_in (by simpa using ht) (getD_replicate_false _ _)⟩
 refine wp_region_any hm ?_
 have H:=any_of_inv (P:=P) (Q:=Q) (md:=.any) (ops:=l.toArray) (n:=n) (g:=l.toArray.size - n) I hb
  (fun listed inv i hi hl t htr=>by
   rcases Nat.lt_or_ge t n with h | h
   ·exact h
   ·exact absurd htr (tail_waits hs hc hn inv _ i rfl hi hl t h))
  hstep
  (fun listed a' w' inv hf hI=>by
   have e:=done_eq (Nat.le_of_lt hn) inv hf
   subst e
   have:=wpAny_of_seq (md:=.any) (Q':=Q) (l.drop n) n (doneN l.toArray.size n) a' w' (fun j=>by simp [List.getElem?_drop]) (by rw [hdl];exact hq) (ht a' w' hI)
   rwa [hdl] at this)
  n _ a w.drew inv0 (leftN_none _ n (Nat.le_of_lt hn)) h0
 rw [show n + (l.toArray.size - n)=l.toArray.size by omega] at H
 exact H
end
end
section
open Go
abbrev Says:=Value→World→Prop
def upd (u:Nat→Value) (i:Nat) (v:Value):Nat→Value:=fun j=>if j=i then v else u j
def putAll (a:Act):List Oper→Nat→(Nat→Value)→Act
 | [],_,_=>a
 | o :: rest,k,u=>(putAll a rest (k + 1) u).put o.dst (u k)
def apartB:List Oper→Bool
 | []=>true
 | o :: rest=>o.dst.isSome && rest.all (fun o'=>decide (o'.dst≠o.dst)) && apartB rest
theorem putAll_lt (a:Act) (u:Nat→Value) (i:Nat) (v:Value):∀ l k,i < k→putAll a l k (upd u i v)=putAll a l k u
 | [],_,_=>rfl
 | o :: rest,k,h=>by
  rw [putAll,putAll,putAll_lt a u i v rest (k + 1) (by omega)]
  simp [upd,show k≠i by omega]
theorem put_put (a:Act) (d:Option Tmp) (x v:Value):(a.put d x).put d v=a.put d v:=by
 cases d with
 | none=>rfl
 | some d=>simp [Act.put]
theorem putAll_put (a:Act) (u:Nat→Value) (v:Value):∀ l k,apartB l=true→∀ i o,l[i]? = some o→(putAll a l k u).put o.dst v=putAll a l k (upd u (k + i) v)
 | [],_,_,_,_,h=>by simp at h
 | o :: rest,k,ha,0,o',h=>by
  simp at h
  subst h
  show ((putAll a rest (k + 1) u).put o.dst (u k)).put o.dst v=(putAll a rest (k + 1) (upd u k v)).put o.dst (upd u k v k)
  rw [put_put,putAll_lt a u k v rest (k + 1) (by omega)]
  simp [upd]
 | o :: rest,k,ha,i + 1,o',h=>by
  simp only [apartB,Bool.and_eq_true] at ha
  have hr:rest[i]? = some o':=by simpa using h
  have hne:=List.all_eq_true.1 ha.1.2 o' (List.mem_of_getElem? hr)
  simp only [decide_eq_true_eq] at hne
  rw [putAll,putAll,Act.put_comm _ _ _ (fun d hd hy=>hne (by rw [hd,hy])),putAll_put a u v rest (k + 1) ha.2 i o' hr,show k + 1 + i=k + (i + 1) by omega]
  simp [upd]
def held (a:Act) (d:Option Tmp):Value:=match d with
 | some d=>a.tmps.getD d undef
 | none=>undef
theorem put_held (a:Act) (d:Option Tmp):a.put d (held a d)=a:=by
 cases d with
 | none=>rfl
 | some d=>
  have e:a.tmps.setIfInBounds d (a.tmps.getD d undef)=a.tmps:=by
   apply Array.ext
   ·simp
   ·intro i h1 h2
    by_cases hi:d=i
    ·subst hi
     simp [h2]
    ·exact Array.getElem_setIfInBounds_ne h2 hi
  show ({ a with tmps:=a.tmps.setIfInBounds d (a.tmps.getD d undef) }:Act)=a
  rw [e]
theorem putAll_held (a:Act) (u:Nat→Value):∀ l k,(∀ i o,l[i]? = some o→u (k + i)=held a o.dst)→putAll a l k u=a
 | [],_,_=>rfl
 | o :: rest,k,h=>by
  rw [putAll,putAll_held a u rest (k + 1) (fun i o' hi=>by have:=h (i + 1) o' (by simpa using hi);rwa [show k + 1 + i=k + (i + 1) by omega])]
  have:=h 0 o rfl
  rw [Nat.add_zero] at this
  rw [this,put_held]
theorem putAll_init (a:Act) (l:List Oper):∃ u,putAll a l 0 u=a:=
 ⟨fun j=>(l[j]?.map fun o=>held a o.dst).getD undef,putAll_held a _ l 0 (fun i o h=>by simp [h])⟩
theorem putAll_size (a:Act) (u:Nat→Value):∀ l k,(putAll a l k u).tmps.size=a.tmps.size
 | [],_=>rfl
 | o :: rest,k=>by
  rw [putAll]
  cases o.dst with
  | none=>exact putAll_size a u rest (k + 1)
  | some d=>simpa [Act.put] using putAll_size a u rest (k + 1)
def findAt:List Oper→Nat→Tmp→Option Nat
 | [],_,_=>none
 | o :: rest,k,s=>if o.dst=some s then some k else findAt rest (k + 1) s
def look (a:Act) (heads:List Oper) (u:Nat→Value):Operand→Value
 | .tmp s=>match findAt heads 0 s with
  | some j=>u j
  | none=>a.tmps.getD s undef
 | .const v=>v
 | .global g=>.pointer (some ⟨g,0,none⟩)
 | .func f=>.func (.func f) #[] #[]
def fitsB (size:Nat) (l:List Oper):Bool:=l.all fun o=>match o.dst with
 | some d=>decide (d < size)
 | none=>true
theorem putAll_at (a:Act) (u:Nat→Value) (s:Tmp):∀ l k,fitsB a.tmps.size l=true→(putAll a l k u).tmps.getD s undef=match findAt l k s with
  | some j=>u j
  | none=>a.tmps.getD s undef
 | [],_,_=>rfl
 | o :: rest,k,hf=>by
  have hf':(match o.dst with | some d=>decide (d < a.tmps.size) | none=>true)=true∧fitsB a.tmps.size rest=true:=by simpa [fitsB] using hf
  have ih:=putAll_at a u s rest (k + 1) hf'.2
  rw [putAll,findAt]
  cases ho:o.dst with
  | none=>simpa [Act.put] using ih
  | some d=>
   rw [ho] at hf'
   have hd:d < a.tmps.size:=by simpa using hf'.1
   by_cases hs:d=s
   ·subst hs
    simp [Act.put,putAll_size,hd]
   ·have:¬ (some d=some s):=by simpa using hs
    rw [if_neg this,← ih]
    simp [Act.put,Array.getElem?_setIfInBounds_ne hs]
theorem look_eval (a:Act) (u:Nat→Value) (heads:List Oper) (hf:fitsB a.tmps.size heads=true):(putAll a heads 0 u).eval=look a heads u:=by
 funext x
 cases x with
 | tmp s=>exact putAll_at a u s heads 0 hf
 | const v=>rfl
 | global g=>rfl
 | func f=>rfl
section
variable {P:Program} {Q:Exit→Act→World→Prop}
def yieldsUpon (P:Program) (K:Value→World→Prop):Result Next→Prop
 | .ok (.value v) w'=>K v w'
 | .ok .skip w'=>K undef w'
 | .ok (.enter f args) w'=>Calls P f args w' fun e w''=>∃ v,e=.returned v∧K v w''
 | _=>False
def yieldsTo (P:Program) (o:Oper) (ρ:Operand→Value) (w:World) (K:Value→World→Prop):Prop:=yieldsUpon P K ((execOp ρ o).run P w)
theorem wp_of_yields {o:Oper} {a:Act} {w:World} {K:Value→World→Prop} {K':Act→World→Prop} (h:yieldsTo P o a.eval w K) (hK:∀ v w',K v w'→K' (a.put o.dst v) w'):o.wp P a w K' Q:=by
 unfold yieldsTo at h
 unfold Oper.wp
 generalize (execOp a.eval o).run P w=r at *
 cases r with
 | ok n w'=>
  cases n <;> simp only [yieldsUpon] at h <;> simp only [Oper.upon]
  case value v=>exact hK v w' h
  case skip=>exact hK _ w' h
  case enter f args=>exact h.mono fun e w'' ⟨v,he,hk⟩=>by subst he;exact hK v w'' hk
 | halt x w'=>simp only [yieldsUpon] at h
def depsOf (md:Region.Mode) (φs:List Says) (u:Nat→Value) (w:World):List Edge→Prop
 | []=>True
 | e :: es=>(Region.binds md e=true→φs.getD e.on (fun _ _=>True) (u e.on) w)∧depsOf md φs u w es
theorem depsOf_mk {md:Region.Mode} {φs:List Says} {u:Nat→Value} {w:World}:∀ es:List Edge,(∀ e∈es,Region.binds md e=true→φs.getD e.on (fun _ _=>True) (u e.on) w)→depsOf md φs u w es
 | [],_=>trivial
 | e :: es,h=>⟨h e (by simp),depsOf_mk es (fun e' he'=>h e' (by simp [he']))⟩
def sayAll (w:World):List Says→Nat→(Nat→Value)→Prop
 | [],_,_=>True
 | φ :: φs,k,u=>φ (u k) w∧sayAll w φs (k + 1) u
theorem sayAll_mk {w:World} {u:Nat→Value}:∀ (φs:List Says) (k:Nat),(∀ (i:Nat) (φ:Says),φs[i]? = some φ→φ (u (k + i)) w)→sayAll w φs k u
 | [],_,_=>trivial
 | φ :: φs,k,h=>⟨h 0 φ rfl,sayAll_mk φs (k + 1) (fun i φ' hi=>by have:=h (i + 1) φ' (by simpa using hi);rwa [show k + (i + 1)=k + 1 + i by omega] at this)⟩
def isV (c:Value):Says:=fun v _=>v=c
end
end
section
open Go
theorem findAt_apart:∀ (l:List Oper) (k:Nat),apartB l=true→∀ (i:Nat) (o:Oper) (d:Tmp),l[i]? = some o→o.dst=some d→findAt l k d=some (k + i)
 | [],_,_,_,_,_,h,_=>by simp at h
 | o :: rest,k,_,0,o',d,h,hd=>by
  simp at h
  subst h
  simp [findAt,hd]
 | o :: rest,k,ha,i + 1,o',d,h,hd=>by
  simp only [apartB,Bool.and_eq_true] at ha
  have hr:rest[i]? = some o':=by simpa using h
  have hne:=List.all_eq_true.1 ha.1.2 o' (List.mem_of_getElem? hr)
  simp only [decide_eq_true_eq] at hne
  rw [findAt,if_neg (fun e=>hne (by rw [hd,e])),findAt_apart rest (k + 1) ha.2 i o' d hr hd]
  congr 1
  omega
def guardB (md:Region.Mode) (l:List Oper):Bool:=l.all fun o=>match o.guard with
 | none=>true
 | some (j,_)=>o.after.any fun e=>decide (e.on=j) && Region.binds md e
def guardSays (φs:List Says) (o:Oper):Prop:=match o.guard with
 | none=>True
 | some (j,b)=>∃ φ,φs[j]? = some φ∧∀ v w,φ v w→v=.bool b
section
variable {P:Program} {Q:Exit→Act→World→Prop}
theorem depsOf_at {md:Region.Mode} {φs:List Says} {u:Nat→Value} {w:World}:∀ {es:List Edge},depsOf md φs u w es→∀ e∈es,Region.binds md e=true→φs.getD e.on (fun _ _=>True) (u e.on) w
 | [],_,_,he,_=>by cases he
 | e' :: es,h,e,he,hb=>by
  rcases List.mem_cons.1 he with rfl | he
  ·exact h.1 hb
  ·exact depsOf_at h.2 e he hb
theorem isV_guard (c:Value) (b:Bool) (h:c=.bool b):∀ v w,isV c v w→v=.bool b:=fun _ _ hv=>hv.trans h
theorem gs0 {φs:List Says} {o:Oper} (h:o.guard=none):guardSays φs o:=by unfold guardSays;rw [h];trivial
theorem gs1 {φs:List Says} {o:Oper} {j:Nat} {b:Bool} {c:Value} (h:o.guard=some (j,b)) (hφ:φs[j]? = some (isV c)) (hc:c=.bool b):guardSays φs o:=by
 unfold guardSays
 rw [h]
 exact ⟨_,hφ,isV_guard c b hc⟩
end
end
section
open Go
def guardStops (φs:List Says) (o:Oper):Prop:=∃ (j:Nat) (b:Bool) (φ:Says),o.guard=some (j,b)∧φs[j]? = some φ∧∀ v w,φ v w→v≠.bool b
section
variable {P:Program} {Q:Exit→Act→World→Prop}
def walkK (P:Program) (md:Region.Mode) (R:World→World→Prop) (W:World) (a:Act) (heads:List Oper) (fin:List Says→Prop):List Oper→List Says→Prop
 | [],φs=>fin φs
 | o :: rest,φs=>∃ φ:Says,(∀ v w w',R w w'→φ v w→φ v w') ∧
   ((guardSays φs o∧∀ u w,R W w→depsOf md φs u w o.after.toList→yieldsTo P o (look a heads u) w fun v w'=>R w w'∧φ v w')∨(guardStops φs o∧∀ w,φ undef w))∧walkK P md R W a heads fin rest (φs ++ [φ])
theorem walkK_out {md:Region.Mode} {R:World→World→Prop} {W:World} {a:Act} {heads:List Oper} {fin:List Says→Prop}:∀ (rest:List Oper) (φs:List Says),walkK P md R W a heads fin rest φs →
  ∃ ψs,fin (φs ++ ψs)∧ψs.length=rest.length∧(∀ φ∈ψs,∀ v w w',R w w'→φ v w→φ v w') ∧
   ∀ i o,rest[i]? = some o→∃ φ,ψs[i]? = some φ∧((guardSays (φs ++ ψs.take i) o∧∀ u w,R W w→depsOf md (φs ++ ψs.take i) u w o.after.toList→yieldsTo P o (look a heads u) w fun v w'=>R w w'∧φ v w')∨(guardStops (φs ++ ψs.take i) o∧∀ w,φ undef w))
 | [],φs,h=>⟨[],by rw [List.append_nil];exact h,rfl,by simp,by simp⟩
 | o :: rest,φs,h=>by
  obtain ⟨φ,hst,hy,hr⟩:=h
  obtain ⟨ψs,hf,hl,hs,hi⟩:=walkK_out rest (φs ++ [φ]) hr
  refine ⟨φ :: ψs,by simpa using hf,by simp [hl],fun φ' hm=>?_,fun i o' ho=>?_⟩
  ·rcases List.mem_cons.1 hm with rfl | hm
   ·exact hst
   ·exact hs φ' hm
  ·cases i with
   | zero=>
    simp at ho
    subst ho
    exact ⟨φ,rfl,by simpa using hy⟩
   | succ i=>
    obtain ⟨φ',h1,h2⟩:=hi i o' (by simpa using ho)
    exact ⟨φ',by simpa using h1,by simpa using h2⟩
theorem wp_region_saysK {id:Nat} {a:Act} {w:World} {l:List Oper} (n:Nat) (R:World→World→Prop) (hRt:∀ x y z,R x y→R y z→R x z) (W:World) (hW:R W w.drew)
  (hm:P.follows .mixedOrders=true) (hB:relyB .any l.toArray n=true) (hA:apartB (l.take n)=true) (hg:guardB .any (l.take n)=true) (hF:fitsB a.tmps.size (l.take n)=true)
  (h:walkK P .any R W a (l.take n) (fun φs=>∀ u w',R W w'→sayAll w' φs 0 u→wpList P l.toArray Q (l.drop n) (putAll a (l.take n) 0 u) w') (l.take n) []):(Code.region id l.toArray true).wp P Q a w:=by
 obtain ⟨φs,hfin,hlen,hst,hy⟩:=walkK_out _ _ h
 simp only [List.nil_append] at hfin hy
 have hnl:n < l.length:=by
  simp only [relyB,Bool.and_eq_true,decide_eq_true_eq] at hB
  simpa using hB.1.1.1.1
 have hln:φs.length=n:=by rw [hlen];simp;omega
 have hback:backB .any l.toArray n=true:=by
  simp only [relyB,Bool.and_eq_true,decide_eq_true_eq] at hB
  exact hB.1.2
 refine wp_region_inv n hm hB (fun listed a' w'=>R W w'∧∃ u,a'=putAll a (l.take n) 0 u∧∀ j φ,φs[j]? = some φ→listed.getD j false=true→φ (u j) w') ?_ ?_ ?_
 ·obtain ⟨u,hu⟩:=putAll_init a (l.take n)
  exact ⟨hW,u,hu.symm,fun j φ _ hl=>by rw [getD_replicate_false] at hl;cases hl⟩
 ·rintro i listed a' w' hin hr ⟨hRW,u,rfl,hsay⟩
  obtain ⟨hli,o,ho,hall⟩:=mem_ready.1 hr
  have ho':(l.take n)[i]? = some o:=by
   rw [List.getElem?_take,if_pos hin]
   simpa using ho
  obtain ⟨φ,hφ,hor⟩:=hy i o ho'
  have hd:depsOf .any (φs.take i) u w' o.after.toList:=depsOf_mk _ fun e he hb=>by
   have hm':e∈o.after:=by simpa using he
   obtain ⟨o2,ho2,hlt⟩:=backB_spec hback hin
   obtain rfl:o=o2:=Option.some.inj (ho.symm.trans ho2)
   have hei:=hlt e hm' hb
   have h1:=hall e hm' hb
   cases hq:φs[e.on]? with
   | none=>simp [hei,hq]
   | some ψ=>
    have:=hsay e.on ψ hq h1
    simpa [List.getElem?_take,hei,hq] using this
  have hslot:∀ (j:Nat) (b:Bool) (ψ:Says),o.guard=some (j,b)→(φs.take i).getD j (fun _ _=>True)=ψ→(φs.take i)[j]? = some ψ→ψ (u j) w'∧∃ d,(l[j]?).bind (·.dst)=some d∧(putAll a (l.take n) 0 u).tmps[d]? = some (u j):=by
   intro j b ψ hgo hψ' hψ
   have hge:(o.after.any fun e=>decide (e.on=j) && Region.binds .any e)=true:=by
    have:=List.all_eq_true.1 hg o (List.mem_of_getElem? ho')
    rw [hgo] at this
    exact this
   rw [Array.any_eq_true'] at hge
   obtain ⟨e,he,hej⟩:=hge
   simp only [Bool.and_eq_true,decide_eq_true_eq] at hej
   have hd1:=depsOf_at hd e (by simpa using he) hej.2
   rw [hej.1,hψ'] at hd1
   have hji:j < (φs.take i).length:=by
    rcases Nat.lt_or_ge j (φs.take i).length with hx | hx
    ·exact hx
    ·rw [List.getElem?_eq_none hx] at hψ;cases hψ
   have hjn:j < n:=by rw [List.length_take] at hji;omega
   have hjl:j < l.length:=by omega
   have hoj:(l.take n)[j]? = some (l[j]'hjl):=by rw [List.getElem?_take,if_pos hjn,List.getElem?_eq_getElem hjl]
   have hds:(l[j]'hjl).dst.isSome=true:=by
    have:∀ (m:List Oper),apartB m=true→∀ o∈m,o.dst.isSome=true:=by
     intro m
     induction m with
     | nil=>simp
     | cons x m ih=>
      intro hx o ho
      simp only [apartB,Bool.and_eq_true] at hx
      rcases List.mem_cons.1 ho with rfl | ho
      ·exact hx.1.1
      ·exact ih hx.2 o ho
    exact this _ hA _ (List.mem_of_getElem? hoj)
   obtain ⟨d,hdd⟩:=Option.isSome_iff_exists.1 hds
   have hfd:d < a.tmps.size:=by
    have:=List.all_eq_true.1 hF _ (List.mem_of_getElem? hoj)
    rw [hdd] at this
    simpa using this
   have hat:=putAll_at a u d (l.take n) 0 hF
   rw [findAt_apart (l.take n) 0 hA j _ d hoj hdd] at hat
   simp only [Nat.zero_add] at hat
   have hsz:d < (putAll a (l.take n) 0 u).tmps.size:=by rw [putAll_size];exact hfd
   refine ⟨hd1,d,by rw [List.getElem?_eq_getElem hjl];exact hdd,?_⟩
   rw [Array.getElem?_eq_getElem hsz]
   congr 1
   rw [← hat]
   simp [hsz]
  unfold wpOp
  simp only [ho]
  rcases hor with ⟨hgs,hstep⟩ | ⟨hgs,hund⟩
  ·have hys:=hstep u w' hRW hd
   have hw:Region.wanted o (yielded l.toArray (putAll a (l.take n) 0 u).tmps)=true:=by
    unfold guardSays at hgs
    unfold Region.wanted
    cases hgo:o.guard with
    | none=>rfl
    | some g=>
     obtain ⟨j,b⟩:=g
     rw [hgo] at hgs
     obtain ⟨ψ,hψ,hval⟩:=hgs
     obtain ⟨hd1,d,hdst,hget⟩:=hslot j b ψ hgo (by rw [List.getD_eq_getElem?_getD,hψ];rfl) hψ
     have huj:=hval _ _ hd1
     rw [huj] at hget
     simp [yielded,hdst,hget]
   rw [if_pos hw]
   refine .inl (wp_of_yields (by rw [look_eval a u _ hF];exact hys) ?_)
   rintro v w'' ⟨hR,hv⟩
   refine ⟨hRt _ _ _ hRW hR,upd u i v,?_,fun j ψ hj hl=>?_⟩
   ·have:=putAll_put a u v (l.take n) 0 hA i o ho'
    simpa using this
   ·by_cases hji:j=i
    ·subst hji
     obtain rfl:ψ=φ:=Option.some.inj (hj.symm.trans hφ)
     simpa [upd] using hv
    ·rw [getD_set_ne false (Ne.symm hji)] at hl
     simp only [upd,if_neg hji]
     exact hst ψ (List.mem_of_getElem? hj) _ _ _ hR (hsay j ψ hj hl)
  ·have hw:Region.wanted o (yielded l.toArray (putAll a (l.take n) 0 u).tmps)=false:=by
    obtain ⟨j,b,ψ,hgo,hψ,hval⟩:=hgs
    obtain ⟨hd1,d,hdst,hget⟩:=hslot j b ψ hgo (by rw [List.getD_eq_getElem?_getD,hψ];rfl) hψ
    have huj:=hval _ _ hd1
    unfold Region.wanted
    rw [hgo]
    have hy:yielded l.toArray (putAll a (l.take n) 0 u).tmps j≠some b:=by
     unfold yielded
     rw [List.getElem?_toArray,hdst]
     simp only [Option.bind_some,hget]
     intro he
     split at he
     ·rename_i b' hb'
      injection hb' with hb'
      injection he with he
      exact huj (by rw [hb',he])
     ·cases he
    simpa using hy
   rw [if_neg (by rw [hw];decide)]
   refine ⟨hRW,upd u i undef,?_,fun j ψ hj hl=>?_⟩
   ·have:=putAll_put a u undef (l.take n) 0 hA i o ho'
    simpa using this
   ·by_cases hji:j=i
    ·subst hji
     obtain rfl:ψ=φ:=Option.some.inj (hj.symm.trans hφ)
     simpa [upd] using hund w'
    ·rw [getD_set_ne false (Ne.symm hji)] at hl
     simp only [upd,if_neg hji]
     exact hsay j ψ hj hl
 ·rintro a' w' ⟨hRW,u,rfl,hsay⟩
  refine hfin u w' hRW (sayAll_mk φs 0 fun i φ hi=>?_)
  have hin:i < n:=by
   rcases Nat.lt_or_ge i n with h | h
   ·exact h
   ·rw [List.getElem?_eq_none (by omega)] at hi;cases hi
  rw [Nat.zero_add]
  refine hsay i φ hi ?_
  have:i < l.length:=by omega
  simp [doneN,List.getElem?_append,hin]
theorem st1 {φs:List Says} {o:Oper} {j:Nat} {b:Bool} {c:Value} (h:o.guard=some (j,b)) (hφ:φs[j]? = some (isV c)) (hc:c≠.bool b):guardStops φs o:=
 ⟨j,b,_,h,hφ,fun _ _ hv he=>hc (hv.symm.trans he)⟩
theorem walkK_is {md:Region.Mode} {R:World→World→Prop} {W:World} {a:Act} {heads:List Oper} {fin:List Says→Prop} {o:Oper} {rest:List Oper} {φs:List Says} (c:Value) (hgs:guardSays φs o) (hr:∀ w,R w w)
  (hy:∀ u w,R W w→depsOf md φs u w o.after.toList→(execOp (look a heads u) o).run P w=.ok (.value c) w) (h:walkK P md R W a heads fin rest (φs ++ [isV c])):walkK P md R W a heads fin (o :: rest) φs:=
 ⟨isV c,fun _ _ _ _ h=>h,.inl ⟨hgs,fun u w hw hd=>by unfold yieldsTo;rw [hy u w hw hd];exact ⟨hr w,rfl⟩⟩,h⟩
theorem walkK_norm {md:Region.Mode} {R:World→World→Prop} {W:World} {a:Act} {heads:List Oper} {fin:List Says→Prop} {rest:List Oper} {φs φs':List Says} (e:φs=φs') (h:walkK P md R W a heads fin rest φs'):walkK P md R W a heads fin rest φs:=by
 rw [e]
 exact h
theorem walkK_skip {md:Region.Mode} {R:World→World→Prop} {W:World} {a:Act} {heads:List Oper} {fin:List Says→Prop} {o:Oper} {rest:List Oper} {φs:List Says} (hgs:guardStops φs o) (h:walkK P md R W a heads fin rest (φs ++ [isV undef])):walkK P md R W a heads fin (o :: rest) φs:=
 ⟨isV undef,fun _ _ _ _ h=>h,.inr ⟨hgs,fun _=>rfl⟩,h⟩
theorem walkK_new {md:Region.Mode} {R:World→World→Prop} {W:World} {a:Act} {heads:List Oper} {fin:List Says→Prop} {o:Oper} {rest:List Oper} {φs:List Says} (φ:Says) (hgs:guardSays φs o) (hst:∀ v w w',R w w'→φ v w→φ v w')
  (hy:∀ u w,R W w→depsOf md φs u w o.after.toList→∃ v w',(execOp (look a heads u) o).run P w=.ok (.value v) w'∧R w w'∧φ v w') (h:walkK P md R W a heads fin rest (φs ++ [φ])):walkK P md R W a heads fin (o :: rest) φs:=
 ⟨φ,hst,.inl ⟨hgs,fun u w hw hd=>by
  obtain ⟨v,w',e,h1,h2⟩:=hy u w hw hd
  unfold yieldsTo
  rw [e]
  exact ⟨h1,h2⟩⟩,h⟩
theorem walkK_call {md:Region.Mode} {R:World→World→Prop} {W:World} {a:Act} {heads:List Oper} {fin:List Says→Prop} {o:Oper} {rest:List Oper} {φs:List Says} (φ:Says) (f:FuncId) (args:Array Value) (hgs:guardSays φs o) (hst:∀ v w w',R w w'→φ v w→φ v w')
  (hy:∀ u w,R W w→depsOf md φs u w o.after.toList→(execOp (look a heads u) o).run P w=.ok (.enter f args) w)
  (hc:∀ w,R W w→Calls P f args w fun e w'=>∃ v,e=.returned v∧R w w'∧φ v w') (h:walkK P md R W a heads fin rest (φs ++ [φ])):walkK P md R W a heads fin (o :: rest) φs:=
 ⟨φ,hst,.inl ⟨hgs,fun u w hw hd=>by unfold yieldsTo;rw [hy u w hw hd];exact hc w hw⟩,h⟩
end
theorem wkN {P:Program} {md:Region.Mode} {R:World→World→Prop} {W:World} {a:Act} {heads:List Oper} {fin:List Says→Prop} {rest:List Oper} {φs φs':List Says} (h:walkK P md R W a heads fin rest φs') (e:φs=φs':=by first | (simp only [List.nil_append,List.cons_append];rfl) | simp only [List.nil_append,List.cons_append]):walkK P md R W a heads fin rest φs:=walkK_norm e h
theorem wkI {P:Program} {md:Region.Mode} {W:World} {a:Act} {heads:List Oper} {fin:List Says→Prop} {o:Oper} {rest:List Oper} {φs φs':List Says} (c:Value)
  (hy:∀ u w,(fun x y:World=>RowKit.Below x.heap.size x y) W w→depsOf md φs u w o.after.toList→(execOp (look a heads u) o).run P w=.ok (.value c) w) (h:walkK P md (fun x y=>RowKit.Below x.heap.size x y) W a heads fin rest φs') (hgs:guardSays φs o:=by first | exact gs0 rfl | exact gs1 rfl rfl rfl) (e:φs ++ [isV c]=φs':=by first | (simp only [List.nil_append,List.cons_append];rfl) | simp only [List.nil_append,List.cons_append]):walkK P md (fun x y=>RowKit.Below x.heap.size x y) W a heads fin (o :: rest) φs:=walkK_is c hgs (fun _=>RowKit.Below.refl _ _) hy (walkK_norm e h)
end
section
open Go
theorem walkK_callU {P:Program} {md:Region.Mode} {R:World→World→Prop} {W:World} {a:Act} {heads:List Oper} {fin:List Says→Prop} {o:Oper} {rest:List Oper} {φs:List Says} (φ:Says) (f:FuncId) (hgs:guardSays φs o) (hst:∀ v w w',R w w'→φ v w→φ v w')
  (hy:∀ u w,R W w→depsOf md φs u w o.after.toList→∃ args,(execOp (look a heads u) o).run P w=.ok (.enter f args) w∧Calls P f args w fun e w'=>∃ v,e=.returned v∧R w w'∧φ v w')
  (h:walkK P md R W a heads fin rest (φs ++ [φ])):walkK P md R W a heads fin (o :: rest) φs:=
 ⟨φ,hst,.inl ⟨hgs,fun u w hw hd=>by
  obtain ⟨args,h1,h2⟩:=hy u w hw hd
  unfold yieldsTo
  rw [h1]
  exact h2⟩,h⟩
end
section
open Go
section
variable {P:Program} {Q:Exit→Act→World→Prop}
def walkA (P:Program) (md:Region.Mode) (R:World→World→Prop) (F:Nat→Bool) (W:World) (a:Act) (heads:List Oper) (fin:List Says→Prop):List Oper→List Says→Prop
 | [],φs=>fin φs
 | o :: rest,φs=>∃ φ:Says,(∀ v w w',R w w'→φ v w→φ v w')∧(F φs.length=true→∀ v w,φ v w→liesIn v w) ∧
   (∀ u w,R W w→depsOf md φs u w o.after.toList→yieldsTo P o (look a heads u) w fun v w'=>R w w'∧φ v w'∧(F φs.length=true→newTo v w))∧walkA P md R F W a heads fin rest (φs ++ [φ])
theorem walkA_out {md:Region.Mode} {R:World→World→Prop} {F:Nat→Bool} {W:World} {a:Act} {heads:List Oper} {fin:List Says→Prop}:∀ (rest:List Oper) (φs:List Says),walkA P md R F W a heads fin rest φs →
  ∃ ψs,fin (φs ++ ψs)∧ψs.length=rest.length∧(∀ φ∈ψs,∀ v w w',R w w'→φ v w→φ v w') ∧
   ∀ i o,rest[i]? = some o→∃ φ,ψs[i]? = some φ∧(F (φs.length + i)=true→∀ v w,φ v w→liesIn v w)∧∀ u w,R W w→depsOf md (φs ++ ψs.take i) u w o.after.toList→yieldsTo P o (look a heads u) w fun v w'=>R w w'∧φ v w'∧(F (φs.length + i)=true→newTo v w)
 | [],φs,h=>⟨[],by rw [List.append_nil];exact h,rfl,by simp,by simp⟩
 | o :: rest,φs,h=>by
  obtain ⟨φ,hst,hl0,hy,hr⟩:=h
  obtain ⟨ψs,hf,hl,hs,hi⟩:=walkA_out rest (φs ++ [φ]) hr
  refine ⟨φ :: ψs,by simpa using hf,by simp [hl],fun φ' hm=>?_,fun i o' ho=>?_⟩
  ·rcases List.mem_cons.1 hm with rfl | hm
   ·exact hst
   ·exact hs φ' hm
  ·cases i with
   | zero=>
    simp at ho
    subst ho
    exact ⟨φ,rfl,hl0,by simpa using hy⟩
   | succ i=>
    obtain ⟨φ',h1,h2,h3⟩:=hi i o' (by simpa using ho)
    have e:(φs ++ [φ]).length + i=φs.length + (i + 1):=by simp;omega
    rw [e] at h2 h3
    exact ⟨φ',by simpa using h1,h2,by simpa using h3⟩
theorem wp_region_saysA {id:Nat} {a:Act} {w:World} {l:List Oper} (n:Nat) (R:World→World→Prop) (hRt:∀ x y z,R x y→R y z→R x z) (F:Nat→Bool) (W:World) (hW:R W w.drew)
  (hm:P.follows .mixedOrders=true) (hB:relyB .any l.toArray n=true) (hA:apartB (l.take n)=true) (hg:(l.take n).all (fun o=>o.guard.isNone)=true) (hF:fitsB a.tmps.size (l.take n)=true)
  (h:walkA P .any R F W a (l.take n) (fun φs=>∀ u w',R W w'→sayAll w' φs 0 u→(∀ i j,i < n→j < n→i≠j→F i=true→F j=true→twain (u i) (u j))→wpList P l.toArray Q (l.drop n) (putAll a (l.take n) 0 u) w') (l.take n) []):(Code.region id l.toArray true).wp P Q a w:=by
 obtain ⟨φs,hfin,hlen,hst,hy⟩:=walkA_out _ _ h
 simp only [List.nil_append,List.length_nil,Nat.zero_add] at hfin hy
 have hnl:n < l.length:=by
  simp only [relyB,Bool.and_eq_true,decide_eq_true_eq] at hB
  simpa using hB.1.1.1.1
 have hln:φs.length=n:=by rw [hlen];simp;omega
 have hlies:∀ j φ,φs[j]? = some φ→F j=true→∀ v w,φ v w→liesIn v w:=by
  intro j φ hj hf
  have hjn:j < n:=by
   rcases Nat.lt_or_ge j n with h | h
   ·exact h
   ·rw [List.getElem?_eq_none (by omega)] at hj;cases hj
  obtain ⟨φ',h1,h2,_⟩:=hy j (l[j]'(by omega)) (by rw [List.getElem?_take,if_pos hjn,List.getElem?_eq_getElem])
  obtain rfl:φ=φ':=Option.some.inj (hj.symm.trans h1)
  exact h2 hf
 have hback:backB .any l.toArray n=true:=by
  simp only [relyB,Bool.and_eq_true,decide_eq_true_eq] at hB
  exact hB.1.2
 refine wp_region_inv n hm hB (fun listed a' w'=>R W w'∧∃ u,a'=putAll a (l.take n) 0 u∧(∀ j φ,φs[j]? = some φ→listed.getD j false=true→φ (u j) w') ∧
  ∀ i j,i < n→j < n→i≠j→F i=true→F j=true→listed.getD i false=true→listed.getD j false=true→twain (u i) (u j)) ?_ ?_ ?_
 ·obtain ⟨u,hu⟩:=putAll_init a (l.take n)
  exact ⟨hW,u,hu.symm,(fun j φ _ hl=>by rw [getD_replicate_false] at hl;cases hl),(fun i j _ _ _ _ _ hl=>by rw [getD_replicate_false] at hl;cases hl)⟩
 ·rintro i listed a' w' hin hr ⟨hRW,u,rfl,hsay,htw⟩
  obtain ⟨hli,o,ho,hall⟩:=mem_ready.1 hr
  have ho':(l.take n)[i]? = some o:=by
   rw [List.getElem?_take,if_pos hin]
   simpa using ho
  obtain ⟨φ,hφ,_,hstep⟩:=hy i o ho'
  have hgo:o.guard=none:=by
   have:=List.all_eq_true.1 hg o (List.mem_of_getElem? ho')
   simpa using this
  have hd:depsOf .any (φs.take i) u w' o.after.toList:=depsOf_mk _ fun e he hb=>by
   have hm':e∈o.after:=by simpa using he
   obtain ⟨o2,ho2,hlt⟩:=backB_spec hback hin
   obtain rfl:o=o2:=Option.some.inj (ho.symm.trans ho2)
   have hei:=hlt e hm' hb
   have h1:=hall e hm' hb
   cases hq:φs[e.on]? with
   | none=>simp [hei,hq]
   | some ψ=>
    have:=hsay e.on ψ hq h1
    simpa [List.getElem?_take,hei,hq] using this
  have hys:=hstep u w' hRW hd
  unfold wpOp
  simp only [ho]
  have hw:Region.wanted o (yielded l.toArray (putAll a (l.take n) 0 u).tmps)=true:=by simp [Region.wanted,hgo]
  rw [if_pos hw]
  refine .inl (wp_of_yields (by rw [look_eval a u _ hF];exact hys) ?_)
  rintro v w'' ⟨hR,hv,hnew⟩
  have key:∀ j,j < n→j≠i→F i=true→F j=true→listed.getD j false=true→twain v (u j):=by
   intro j hjn _ hfi hfj hl
   have hj:φs[j]? = some (φs[j]'(by omega)):=List.getElem?_eq_getElem _
   exact twain_new (hnew hfi) (hlies j _ hj hfj _ _ (hsay j _ hj hl))
  refine ⟨hRt _ _ _ hRW hR,upd u i v,?_,fun j ψ hj hl=>?_,fun j k hjn hkn hjk hfj hfk hlj hlk=>?_⟩
  ·have:=putAll_put a u v (l.take n) 0 hA i o ho'
   simpa using this
  ·by_cases hji:j=i
   ·subst hji
    obtain rfl:ψ=φ:=Option.some.inj (hj.symm.trans hφ)
    simpa [upd] using hv
   ·rw [getD_set_ne false (Ne.symm hji)] at hl
    simp only [upd,if_neg hji]
    exact hst ψ (List.mem_of_getElem? hj) _ _ _ hR (hsay j ψ hj hl)
  ·by_cases hji:j=i
   ·subst hji
    have hkj:k≠j:=Ne.symm hjk
    rw [getD_set_ne false (Ne.symm hkj)] at hlk
    simp only [upd,if_neg hkj,if_true]
    exact key k hkn hkj hfj hfk hlk
   ·rw [getD_set_ne false (Ne.symm hji)] at hlj
    by_cases hki:k=i
    ·subst hki
     simp only [upd,if_neg hji,if_true]
     exact (key j hjn hji hfk hfj hlj).symm
    ·rw [getD_set_ne false (Ne.symm hki)] at hlk
     simp only [upd,if_neg hji,if_neg hki]
     exact htw j k hjn hkn hjk hfj hfk hlj hlk
 ·rintro a' w' ⟨hRW,u,rfl,hsay,htw⟩
  have hdone:∀ i,i < n→(doneN l.toArray.size n).getD i false=true:=fun i hi=>by
   have:i < l.length:=by omega
   simp [doneN,List.getElem?_append,hi]
  refine hfin u w' hRW (sayAll_mk φs 0 fun i φ hi=>?_) (fun i j hi hj hij hfi hfj=>htw i j hi hj hij hfi hfj (hdone i hi) (hdone j hj))
  have hin:i < n:=by
   rcases Nat.lt_or_ge i n with h | h
   ·exact h
   ·rw [List.getElem?_eq_none (by omega)] at hi;cases hi
  rw [Nat.zero_add]
  exact hsay i φ hi (hdone i hin)
theorem walkA_norm {md:Region.Mode} {R:World→World→Prop} {F:Nat→Bool} {W:World} {a:Act} {heads:List Oper} {fin:List Says→Prop} {rest:List Oper} {φs φs':List Says} (e:φs=φs') (h:walkA P md R F W a heads fin rest φs'):walkA P md R F W a heads fin rest φs:=by
 rw [e]
 exact h
theorem walkA_is {md:Region.Mode} {R:World→World→Prop} {F:Nat→Bool} {W:World} {a:Act} {heads:List Oper} {fin:List Says→Prop} {o:Oper} {rest:List Oper} {φs:List Says} (c:Value) (hF:F φs.length=false) (hr:∀ w,R w w)
  (hy:∀ u w,R W w→depsOf md φs u w o.after.toList→(execOp (look a heads u) o).run P w=.ok (.value c) w) (h:walkA P md R F W a heads fin rest (φs ++ [isV c])):walkA P md R F W a heads fin (o :: rest) φs:=
 ⟨isV c,fun _ _ _ _ h=>h,(fun h=>by rw [hF] at h;cases h),fun u w hw hd=>by unfold yieldsTo;rw [hy u w hw hd];exact ⟨hr w,rfl,fun h=>by rw [hF] at h;cases h⟩,h⟩
theorem walkA_row {md:Region.Mode} {R:World→World→Prop} {F:Nat→Bool} {W:World} {a:Act} {heads:List Oper} {fin:List Says→Prop} {o:Oper} {rest:List Oper} {φs:List Says} (φ:Says) (f:FuncId) (args:Array Value) (hst:∀ v w w',R w w'→φ v w→φ v w') (hl:∀ v w,φ v w→liesIn v w)
  (hy:∀ u w,R W w→depsOf md φs u w o.after.toList→(execOp (look a heads u) o).run P w=.ok (.enter f args) w)
  (hc:∀ w,R W w→Calls P f args w fun e w'=>∃ v,e=.returned v∧R w w'∧φ v w'∧newTo v w) (h:walkA P md R F W a heads fin rest (φs ++ [φ])):walkA P md R F W a heads fin (o :: rest) φs:=
 ⟨φ,hst,fun _=>hl,fun u w hw hd=>by unfold yieldsTo;rw [hy u w hw hd];exact (hc w hw).mono fun e w' ⟨v,he,h1,h2,h3⟩=>⟨v,he,h1,h2,fun _=>h3⟩,h⟩
end
end
section
open Go
def apartD:List Oper→Bool
 | []=>true
 | o :: rest=>(o.dst.isNone || rest.all (fun o'=>decide (o'.dst≠o.dst))) && apartD rest
theorem putAll_putD (a:Act) (u:Nat→Value) (v:Value):∀ l k,apartD l=true→∀ i o,l[i]? = some o→(putAll a l k u).put o.dst v=putAll a l k (upd u (k + i) v)
 | [],_,_,_,_,h=>by simp at h
 | o :: rest,k,ha,0,o',h=>by
  simp at h
  subst h
  show ((putAll a rest (k + 1) u).put o.dst (u k)).put o.dst v=(putAll a rest (k + 1) (upd u k v)).put o.dst (upd u k v k)
  rw [put_put,putAll_lt a u k v rest (k + 1) (by omega)]
  simp [upd]
 | o :: rest,k,ha,i + 1,o',h=>by
  simp only [apartD,Bool.and_eq_true] at ha
  have hr:rest[i]? = some o':=by simpa using h
  have hne:∀ d,o.dst=some d→o'.dst=some d→False:=fun d hd hy=>by
   rcases Bool.or_eq_true_iff.1 ha.1 with h0 | h0
   ·rw [hd] at h0
    cases h0
   ·have hne:=List.all_eq_true.1 h0 o' (List.mem_of_getElem? hr)
    simp only [decide_eq_true_eq] at hne
    exact hne (by rw [hd,hy])
  rw [putAll,putAll,Act.put_comm _ _ _ (fun d hd hy=>hne d (by first | exact hd | exact hy) (by first | exact hy | exact hd)),putAll_putD a u v rest (k + 1) ha.2 i o' hr,show k + 1 + i=k + (i + 1) by omega]
  simp [upd]
theorem putAll_same (a:Act) {u u':Nat→Value}:∀ l k,(∀ i,i < l.length→u (k + i)=u' (k + i))→putAll a l k u=putAll a l k u'
 | [],_,_=>rfl
 | o :: rest,k,h=>by
  have h0:=h 0 (by simp)
  rw [Nat.add_zero] at h0
  have hr:putAll a rest (k + 1) u=putAll a rest (k + 1) u':=putAll_same a rest (k + 1) (fun i hi=>by have:=h (i + 1) (by simpa using hi);rwa [show k + (i + 1)=k + 1 + i by omega] at this)
  rw [putAll,putAll,h0,hr]
def updB (d:Nat→Bool) (i:Nat):Nat→Bool:=fun j=>if j=i then true else d j
theorem updB_self (d:Nat→Bool) (i:Nat):updB d i i=true:=by simp [updB]
theorem updB_ne (d:Nat→Bool) {i j:Nat} (h:j≠i):updB d i j=d j:=by simp [updB,h]
def depsE (d:Nat→Bool) (V u:Nat→Value):List Edge→Prop
 | []=>True
 | e :: es=>(Region.binds .any e=true→d e.on=true∧u e.on=V e.on)∧depsE d V u es
theorem depsE_mk {d:Nat→Bool} {V u:Nat→Value}:∀ es:List Edge,(∀ e∈es,Region.binds .any e=true→d e.on=true∧u e.on=V e.on)→depsE d V u es
 | [],_=>trivial
 | e :: es,h=>⟨h e (by simp),depsE_mk es (fun e' he'=>h e' (by simp [he']))⟩
section
variable {P:Program} {Q:Exit→Act→World→Prop} {E:Type}
def walkE (P:Program) (V:E→Nat→Value) (H:(Nat→Bool)→E→World→Prop) (a:Act) (heads:List Oper):List Oper→Nat→Prop
 | [],_=>True
 | o :: rest,i=>(∀ d x u w,d i=false→H d x w→depsE d (V x) u o.after.toList →
   yieldsTo P o (look a heads u) w fun v w'=>∃ x',v=V x' i∧(∀ j,d j=true→V x' j=V x j)∧H (updB d i) x' w')∧walkE P V H a heads rest (i + 1)
theorem walkE_at {V:E→Nat→Value} {H:(Nat→Bool)→E→World→Prop} {a:Act} {heads:List Oper}:∀ (rest:List Oper) (k:Nat),walkE P V H a heads rest k→∀ i o,rest[i]? = some o→∀ d x u w,d (k + i)=false→H d x w→depsE d (V x) u o.after.toList →
   yieldsTo P o (look a heads u) w fun v w'=>∃ x',v=V x' (k + i)∧(∀ j,d j=true→V x' j=V x j)∧H (updB d (k + i)) x' w'
 | [],_,_,_,_,h=>by simp at h
 | o :: rest,k,hw,0,o',h=>by
  simp at h
  subst h
  exact hw.1
 | o :: rest,k,hw,i + 1,o',h=>by
  rw [show k + (i + 1)=k + 1 + i by omega]
  exact walkE_at rest (k + 1) hw.2 i o' (by simpa using h)
theorem walkE_is {V:E→Nat→Value} {H:(Nat→Bool)→E→World→Prop} {a:Act} {heads:List Oper} {o:Oper} {rest:List Oper} {i:Nat} (hH:∀ d x u w,d i=false→H d x w→depsE d (V x) u o.after.toList→H (updB d i) x w)
  (hy:∀ d x u w,H d x w→depsE d (V x) u o.after.toList→(execOp (look a heads u) o).run P w=.ok (.value (V x i)) w) (h:walkE P V H a heads rest (i + 1)):walkE P V H a heads (o :: rest) i:=
 ⟨fun d x u w h1 hh hd=>by
  unfold yieldsTo
  rw [hy d x u w hh hd]
  exact ⟨x,rfl,fun _ _=>rfl,hH d x u w h1 hh hd⟩,h⟩
theorem walkE_call {V:E→Nat→Value} {H:(Nat→Bool)→E→World→Prop} {a:Act} {heads:List Oper} {o:Oper} {rest:List Oper} {i:Nat} (f:FuncId)
  (hy:∀ d x u w,d i=false→H d x w→depsE d (V x) u o.after.toList→∃ args,(execOp (look a heads u) o).run P w=.ok (.enter f args) w ∧
   Calls P f args w fun e w'=>∃ x',e=.returned (V x' i)∧(∀ j,d j=true→V x' j=V x j)∧H (updB d i) x' w') (h:walkE P V H a heads rest (i + 1)):walkE P V H a heads (o :: rest) i:=
 ⟨fun d x u w h1 hh hd=>by
  obtain ⟨args,e1,e2⟩:=hy d x u w h1 hh hd
  unfold yieldsTo
  rw [e1]
  exact e2.mono fun e w' ⟨x',he,h2,h3⟩=>⟨_,he,x',rfl,h2,h3⟩,h⟩
theorem walkE_new {V:E→Nat→Value} {H:(Nat→Bool)→E→World→Prop} {a:Act} {heads:List Oper} {o:Oper} {rest:List Oper} {i:Nat}
  (hy:∀ d x u w,d i=false→H d x w→depsE d (V x) u o.after.toList→∃ w' x',(execOp (look a heads u) o).run P w=.ok (.value (V x' i)) w'∧(∀ j,d j=true→V x' j=V x j)∧H (updB d i) x' w') (h:walkE P V H a heads rest (i + 1)):walkE P V H a heads (o :: rest) i:=
 ⟨fun d x u w h1 hh hd=>by
  obtain ⟨w',x',e1,e2,e3⟩:=hy d x u w h1 hh hd
  unfold yieldsTo
  rw [e1]
  exact ⟨x',rfl,e2,e3⟩,h⟩
theorem walkE_store {V:E→Nat→Value} {H:(Nat→Bool)→E→World→Prop} {a:Act} {heads:List Oper} {o:Oper} {rest:List Oper} {i:Nat} (hV:∀ x,V x i=undef)
  (hy:∀ d x u w,d i=false→H d x w→depsE d (V x) u o.after.toList→∃ w',(execOp (look a heads u) o).run P w=.ok .skip w'∧H (updB d i) x w') (h:walkE P V H a heads rest (i + 1)):walkE P V H a heads (o :: rest) i:=
 ⟨fun d x u w h1 hh hd=>by
  obtain ⟨w',e1,e2⟩:=hy d x u w h1 hh hd
  unfold yieldsTo
  rw [e1]
  exact ⟨x,(hV x).symm,fun _ _=>rfl,e2⟩,h⟩
theorem wp_region_saysE {id:Nat} {a:Act} {w:World} {l:List Oper} (n:Nat) (V:E→Nat→Value) (H:(Nat→Bool)→E→World→Prop) (x0:E) (h0:H (fun _=>false) x0 w.drew)
  (hm:P.follows .mixedOrders=true) (hB:relyB .any l.toArray n=true) (hA:apartD (l.take n)=true) (hg:(l.take n).all (fun o=>o.guard.isNone)=true) (hF:fitsB a.tmps.size (l.take n)=true)
  (h:walkE P V H a (l.take n) (l.take n) 0) (hfin:∀ d x w',(∀ i,i < n→d i=true)→H d x w'→wpList P l.toArray Q (l.drop n) (putAll a (l.take n) 0 (V x)) w'):(Code.region id l.toArray true).wp P Q a w:=by
 have hnl:n < l.length:=by
  simp only [relyB,Bool.and_eq_true,decide_eq_true_eq] at hB
  simpa using hB.1.1.1.1
 have hback:backB .any l.toArray n=true:=by
  simp only [relyB,Bool.and_eq_true,decide_eq_true_eq] at hB
  exact hB.1.2
 refine wp_region_inv n hm hB (fun listed a' w'=>∃ d x u,(∀ j,j < n→d j=listed.getD j false)∧(∀ j,d j=true→j < n)∧a'=putAll a (l.take n) 0 u∧(∀ j,d j=true→u j=V x j)∧H d x w') ?_ ?_ ?_
 ·obtain ⟨u,hu⟩:=putAll_init a (l.take n)
  exact ⟨fun _=>false,x0,u,fun j _=>by rw [getD_replicate_false],by simp,hu.symm,by simp,h0⟩
 ·rintro i listed a' w' hin hr ⟨d,x,u,hdl,hdn,rfl,hu,hh⟩
  obtain ⟨hli,o,ho,hall⟩:=mem_ready.1 hr
  have ho':(l.take n)[i]? = some o:=by
   rw [List.getElem?_take,if_pos hin]
   simpa using ho
  have hgo:o.guard=none:=by
   have:=List.all_eq_true.1 hg o (List.mem_of_getElem? ho')
   simpa using this
  have hdi:d i=false:=by rw [hdl i hin];exact getD_both hli
  have hd:depsE d (V x) u o.after.toList:=depsE_mk _ fun e he hb=>by
   have hm':e∈o.after:=by simpa using he
   obtain ⟨o2,ho2,hlt⟩:=backB_spec hback hin
   obtain rfl:o=o2:=Option.some.inj (ho.symm.trans ho2)
   have hei:=hlt e hm' hb
   have h1:=hall e hm' hb
   have h2:d e.on=true:=by rw [hdl _ (by omega)];exact h1
   exact ⟨h2,hu _ h2⟩
  have hys:=walkE_at (l.take n) 0 h i o ho' d x u w' (by rw [Nat.zero_add];exact hdi) hh hd
  rw [Nat.zero_add] at hys
  unfold wpOp
  simp only [ho]
  have hw:Region.wanted o (yielded l.toArray (putAll a (l.take n) 0 u).tmps)=true:=by simp [Region.wanted,hgo]
  rw [if_pos hw]
  refine .inl (wp_of_yields (by rw [look_eval a u _ hF];exact hys) ?_)
  rintro v w'' ⟨x',rfl,hsame,hh'⟩
  refine ⟨updB d i,x',upd u i (V x' i),fun j hj=>?_,fun j hj=>?_,?_,fun j hj=>?_,hh'⟩
  ·by_cases hji:j=i
   ·subst hji
    rw [updB_self]
    have hsz:j < listed.size:=by
     rcases Nat.lt_or_ge j listed.size with hx | hx
     ·exact hx
     ·have:=hli
      simp [Array.getElem?_eq_none hx] at this
    simp [hsz]
   ·rw [updB_ne d hji,hdl j hj,getD_set_ne false (Ne.symm hji)]
  ·by_cases hji:j=i
   ·omega
   ·rw [updB_ne d hji] at hj
    exact hdn j hj
  ·have:=putAll_putD a u (V x' i) (l.take n) 0 hA i o ho'
   simpa using this
  ·by_cases hji:j=i
   ·subst hji
    simp [upd]
   ·rw [updB_ne d hji] at hj
    simp only [upd,if_neg hji]
    rw [hu j hj,hsame j hj]
 ·rintro a' w' ⟨d,x,u,hdl,hdn,rfl,hu,hh⟩
  have hall:∀ i,i < n→d i=true:=fun i hi=>by
   rw [hdl i hi]
   have:i < l.length:=by omega
   simp [doneN,List.getElem?_append,hi]
  rw [putAll_same a (u:=u) (u':=V x) (l.take n) 0 (fun i hi=>by
   rw [Nat.zero_add]
   exact hu i (hall i (by rw [List.length_take] at hi;omega)))]
  exact hfin d x w' hall hh
end
end
section
open Go
def lateB (md:Region.Mode) (o:Oper) (m p:Nat):Bool:=(List.range m).all fun j=>decide (j=p) || o.after.any fun e=>decide (e.on=j) && Region.binds md e
theorem lateB_spec {md:Region.Mode} {o:Oper} {m p j:Nat} (h:lateB md o m p=true) (hj:j < m) (hp:j≠p):∃ e∈o.after,e.on=j∧Region.binds md e=true:=by
 have h1:=List.all_eq_true.1 h j (List.mem_range.2 hj)
 simp only [Bool.or_eq_true,decide_eq_true_eq] at h1
 rcases h1 with h1 | h1
 ·exact absurd h1 hp
 ·rw [Array.any_eq_true'] at h1
  obtain ⟨e,he,h2⟩:=h1
  simp only [Bool.and_eq_true,decide_eq_true_eq] at h2
  exact ⟨e,he,h2⟩
section
variable {P:Program} {Q:Exit→Act→World→Prop}
def plainOp (P:Program) (o:Oper):Prop:=∀ (ρ:Operand→Value) (w:World) (n:Next) (w1:World),(execOp ρ o).run P w=.ok n w1→∃ v,n=.value v∧w1=w∧∀ w',(execOp ρ o).run P w'=.ok (.value v) w'
theorem plain_extract {o:Oper} {t:Operand} {k:Nat} (ho:o.op=.extract t k):plainOp P o:=by
 intro ρ w n w1 h
 unfold execOp at h ⊢
 rw [ho] at h
 simp only [ho]
 simp only [Instr.extract] at h ⊢
 generalize ρ t=x at h ⊢
 cases x with
 | tuple vs=>
  simp only at h ⊢
  cases hv:vs[k]? with
  | none=>rw [hv] at h;simp [stuck] at h
  | some v=>
   rw [hv] at h
   simp at h
   obtain ⟨rfl,rfl⟩:=h
   exact ⟨v,rfl,rfl,fun w'=>by simp⟩
 | _=>simp [stuck] at h
theorem wp_region_saysT {id:Nat} {a:Act} {w:World} {l:List Oper} (m p:Nat) (R:World→World→Prop) (hRt:∀ x y z,R x y→R y z→R x z) (W:World) (hW:R W w.drew)
  (hm:P.follows .mixedOrders=true) (hB:relyB .any l.toArray (m + 1)=true) (hA:apartB (l.take m)=true) (hg:(l.take m).all (fun o=>o.guard.isNone)=true) (hF:fitsB a.tmps.size (l.take m)=true)
  (s op:Oper) (hs:l[m]? = some s) (hsd:s.dst=none) (hsg:s.guard=none) (hE:lateB .any s m p=true) (hp:l[p]? = some op) (hpm:p < m) (hpl:plainOp P op)
  (hup:∀ u v,execOp (look a (l.take m) (upd u p v)) s=execOp (look a (l.take m) u) s)
  (h:walkK P .any R W a (l.take m) (fun φs=>∀ u w',R W w'→sayAll w' φs 0 u→∃ w2,(execOp (look a (l.take m) u) s).run P w'=.ok .skip w2∧wpList P l.toArray Q (l.drop (m + 1)) (putAll a (l.take m) 0 u) w2) (l.take m) []):(Code.region id l.toArray true).wp P Q a w:=by
 obtain ⟨φs,hfin,hlen,hst,hy⟩:=walkK_out _ _ h
 simp only [List.nil_append] at hfin hy
 have hml:m < l.length:=(List.getElem?_eq_some_iff.1 hs).1
 have hln:φs.length=m:=by rw [hlen];simp;omega
 have hback:backB .any l.toArray (m + 1)=true:=by
  simp only [relyB,Bool.and_eq_true,decide_eq_true_eq] at hB
  exact hB.1.2
 have hsays:∀ (u:Nat→Value) (x:World),(∀ (j:Nat) (φ:Says),φs[j]? = some φ→φ (u j) x)→sayAll x φs 0 u:=fun u x hx=>sayAll_mk φs 0 fun i φ hi=>by rw [Nat.zero_add];exact hx i φ hi
 have hlt:∀ {j:Nat} {φ:Says},φs[j]? = some φ→j < m:=fun {j φ} hj=>by
  rcases Nat.lt_or_ge j m with q | q
  ·exact q
  ·rw [List.getElem?_eq_none (by omega)] at hj;cases hj
 -- what one of the first m yields,where all that it waits for has come up
 have hstepAt:∀ (i:Nat) (o:Oper) (listed:Array Bool) (u:Nat→Value) (x:World),i < m→l[i]? = some o→(∀ e∈o.after,Region.binds .any e=true→listed.getD e.on false=true)→R W x→(∀ j φ,φs[j]? = some φ→listed.getD j false=true→φ (u j) x) →
   ∃ φ,φs[i]? = some φ∧yieldsTo P o (look a (l.take m) u) x fun v w'=>R x w'∧φ v w':=by
  intro i o listed u x hin ho hall hRW hsay
  have ho':(l.take m)[i]? = some o:=by rw [List.getElem?_take,if_pos hin];exact ho
  obtain ⟨φ,hφ,hor⟩:=hy i o ho'
  have hgo:o.guard=none:=by
   have:=List.all_eq_true.1 hg o (List.mem_of_getElem? ho')
   simpa using this
  have hd:depsOf .any (φs.take i) u x o.after.toList:=depsOf_mk _ fun e he hb=>by
   have hm':e∈o.after:=by simpa using he
   obtain ⟨o2,ho2,hlt2⟩:=backB_spec hback (show i < m + 1 by omega)
   rw [List.getElem?_toArray] at ho2
   obtain rfl:o=o2:=Option.some.inj (ho.symm.trans ho2)
   have hei:=hlt2 e hm' hb
   have h1:=hall e hm' hb
   cases hq:φs[e.on]? with
   | none=>simp [hei,hq]
   | some ψ=>
    have:=hsay e.on ψ hq h1
    simpa [List.getElem?_take,hei,hq] using this
  rcases hor with ⟨-,hstep⟩ | ⟨⟨j,b,ψ,hgs,-⟩,-⟩
  ·exact ⟨φ,hφ,hstep u x hRW hd⟩
  ·rw [hgo] at hgs;cases hgs
 -- an operation's step
 have hput:∀ (i:Nat) (o:Oper) (u:Nat→Value) (v:Value),i < m→l[i]? = some o→(putAll a (l.take m) 0 u).put o.dst v=putAll a (l.take m) 0 (upd u i v):=by
  intro i o u v hin ho
  have ho':(l.take m)[i]? = some o:=by rw [List.getElem?_take,if_pos hin];exact ho
  have:=putAll_put a u v (l.take m) 0 hA i o ho'
  simpa using this
 refine wp_region_inv (m + 1) hm hB (fun listed a' w'=>∃ u w1,a'=putAll a (l.take m) 0 u∧R W w1∧(∀ j φ,φs[j]? = some φ→listed.getD j false=true→φ (u j) w1) ∧
  ((listed.getD m false=false∧w'=w1)∨(listed.getD m false=true∧(∀ j,j < m→j≠p→listed.getD j false=true)∧(execOp (look a (l.take m) u) s).run P w1=.ok .skip w'))) ?_ ?_ ?_
 ·obtain ⟨u,hu⟩:=putAll_init a (l.take m)
  exact ⟨u,w.drew,hu.symm,hW,fun j φ _ hl=>(by rw [getD_replicate_false] at hl;cases hl),.inl ⟨getD_replicate_false _ _,rfl⟩⟩
 ·rintro i listed a' w' hin hr ⟨u,w1,rfl,hRW,hsay,hor⟩
  obtain ⟨hli,o,ho,hall⟩:=mem_ready.1 hr
  rw [List.getElem?_toArray] at ho
  have hli':listed.getD i false=false:=getD_both hli
  have hgo:o.guard=none:=by
   rcases Nat.lt_or_ge i m with q | q
   ·have ho':(l.take m)[i]? = some o:=by rw [List.getElem?_take,if_pos q];exact ho
    have:=List.all_eq_true.1 hg o (List.mem_of_getElem? ho')
    simpa using this
   ·obtain rfl:i=m:=by omega
    rw [hs] at ho
    injection ho with ho
    rw [← ho]
    exact hsg
  unfold wpOp
  rw [List.getElem?_toArray,ho]
  simp only
  have hw:Region.wanted o (yielded l.toArray (putAll a (l.take m) 0 u).tmps)=true:=by simp [Region.wanted,hgo]
  rw [if_pos hw]
  refine .inl ?_
  rcases Nat.lt_or_ge i m with him | him
  ·-- one of the first m
   obtain ⟨φ,hφ,hys⟩:=hstepAt i o listed u w1 him ho hall hRW hsay
   rcases hor with ⟨hlm,rfl⟩ | ⟨hlm,hrest,hex⟩
   ·refine wp_of_yields (by rw [look_eval a u _ hF];exact hys) ?_
    rintro v w'' ⟨hR,hv⟩
    refine ⟨upd u i v,w'',hput i o u v him ho,hRt _ _ _ hRW hR,fun j ψ hj hl=>?_,.inl ⟨by rw [getD_set_ne false (by omega)];exact hlm,rfl⟩⟩
    by_cases hji:j=i
    ·subst hji
     obtain rfl:ψ=φ:=Option.some.inj (hj.symm.trans hφ)
     simpa [upd] using hv
    ·rw [getD_set_ne false (Ne.symm hji)] at hl
     simp only [upd,if_neg hji]
     exact hst ψ (List.mem_of_getElem? hj) _ _ _ hR (hsay j ψ hj hl)
   ·-- behind the store: it reads no memory
    obtain rfl:i=p:=by
     by_cases q:i=p
     ·exact q
     ·rw [hrest i him q] at hli';cases hli'
    rw [hp] at ho
    injection ho with ho
    subst ho
    have hv:∃ v,(∀ x,(execOp (look a (l.take m) u) op).run P x=.ok (.value v) x)∧φ v w1:=by
     unfold yieldsTo at hys
     cases hrun:(execOp (look a (l.take m) u) op).run P w1 with
     | ok n w2=>
      obtain ⟨v,rfl,rfl,hx⟩:=hpl _ _ _ _ hrun
      rw [hrun] at hys
      exact ⟨v,hx,hys.2⟩
     | halt x w2=>rw [hrun] at hys;exact hys.elim
    obtain ⟨v,hx,hv⟩:=hv
    refine wp_of_yields (K:=fun v' w''=>v'=v∧w''=w') (by rw [look_eval a u _ hF];unfold yieldsTo;rw [hx w'];exact ⟨rfl,rfl⟩) ?_
    rintro v' w'' ⟨e1,e2⟩
    rw [e1,e2]
    refine ⟨upd u i v,w1,hput i op u v him hp,hRW,fun j ψ hj hl=>?_,.inr ⟨by rw [getD_set_ne false (by omega)];exact hlm,fun j h1 h2=>by rw [getD_set_ne false (Ne.symm h2)];exact hrest j h1 h2,by rw [hup];exact hex⟩⟩
    by_cases hji:j=i
    ·subst hji
     obtain rfl:ψ=φ:=Option.some.inj (hj.symm.trans hφ)
     simpa [upd] using hv
    ·rw [getD_set_ne false (Ne.symm hji)] at hl
     simp only [upd,if_neg hji]
     exact hsay j ψ hj hl
  ·-- the store
   obtain rfl:i=m:=by omega
   rw [hs] at ho
   injection ho with ho
   subst ho
   rcases hor with ⟨-,rfl⟩ | ⟨hlm,-,-⟩
   rotate_left
   ·rw [hlm] at hli';cases hli'
   have hrest:∀ j,j < i→j≠p→listed.getD j false=true:=fun j h1 h2=>by
    obtain ⟨e,he,rfl,hb⟩:=lateB_spec hE h1 h2
    exact hall e he hb
   have hex:∃ w2,(execOp (look a (l.take i) u) s).run P w'=.ok .skip w2:=by
    by_cases hlp:listed.getD p false=true
    ·obtain ⟨w2,h1,-⟩:=hfin u w' hRW (hsays u w' fun j φ hj=>hsay j φ hj (by
      by_cases q:j=p
      ·rw [q];exact hlp
      ·exact hrest j (hlt hj) q))
     exact ⟨w2,h1⟩
    ·obtain ⟨op2,hop2,hlt2⟩:=backB_spec hback (show p < i + 1 by omega)
     rw [List.getElem?_toArray,hp] at hop2
     injection hop2 with hop2
     subst hop2
     obtain ⟨φ,hφ,hys⟩:=hstepAt p op listed u w' hpm hp (fun e he hb=>by
      have:=hlt2 e he hb
      exact hrest e.on (by omega) (by omega)) hRW hsay
     have hv:∃ v,φ v w':=by
      unfold yieldsTo at hys
      cases hrun:(execOp (look a (l.take i) u) op).run P w' with
      | ok n w2=>
       obtain ⟨v,rfl,rfl,-⟩:=hpl _ _ _ _ hrun
       rw [hrun] at hys
       exact ⟨v,hys.2⟩
      | halt x w2=>rw [hrun] at hys;exact hys.elim
     obtain ⟨v,hv⟩:=hv
     obtain ⟨w2,h1,-⟩:=hfin (upd u p v) w' hRW (hsays _ w' fun j ψ hj=>by
      by_cases q:j=p
      ·subst q
       obtain rfl:ψ=φ:=Option.some.inj (hj.symm.trans hφ)
       simpa [upd] using hv
      ·simp only [upd,if_neg q]
       exact hsay j ψ hj (hrest j (hlt hj) q))
     rw [hup] at h1
     exact ⟨w2,h1⟩
   obtain ⟨w2,hex⟩:=hex
   refine wp_of_yields (K:=fun v' w''=>v'=undef∧w''=w2) (by rw [look_eval a u _ hF];unfold yieldsTo;rw [hex];exact ⟨rfl,rfl⟩) ?_
   rintro _ _ ⟨rfl,rfl⟩
   have hsz:i < listed.size:=by
    rcases Nat.lt_or_ge i listed.size with hx | hx
    ·exact hx
    ·simp [Array.getElem?_eq_none hx] at hli
   refine ⟨u,w',by rw [hsd];rfl,hRW,fun j ψ hj hl=>?_,.inr ⟨by simp [hsz],fun j h1 h2=>by rw [getD_set_ne false (by omega)];exact hrest j h1 h2,hex⟩⟩
   have:=hlt hj
   rw [getD_set_ne false (by omega)] at hl
   exact hsay j ψ hj hl
 ·rintro a' w' ⟨u,w1,rfl,hRW,hsay,hor⟩
  have hd:∀ j,j < m + 1→(doneN l.toArray.size (m + 1)).getD j false=true:=fun j hj=>by
   have:j < l.length:=by omega
   simp [doneN,List.getElem?_append,hj]
  rcases hor with ⟨h0,-⟩ | ⟨-,-,hex⟩
  ·rw [hd m (by omega)] at h0;cases h0
  ·obtain ⟨w2,h1,h2⟩:=hfin u w1 hRW (hsays u w1 fun j φ hj=>hsay j φ hj (hd j (by have:=hlt hj;omega)))
   rw [hex] at h1
   injection h1 with _ h1
   subst h1
   exact h2
theorem walkK_last {md:Region.Mode} {R:World→World→Prop} {W:World} {a:Act} {heads:List Oper} {fin:List Says→Prop} {φs:List Says} (h:fin φs):walkK P md R W a heads fin [] φs:=h
theorem sayAll_get {w:World} {u:Nat→Value}:∀ {φs:List Says} {k:Nat},sayAll w φs k u→∀ {j:Nat} {φ:Says},φs[j]? = some φ→φ (u (k + j)) w
 | [],_,_,j,φ,h=>by simp at h
 | ψ :: φs,k,hs,0,φ,h=>by
  simp at h
  subst h
  exact hs.1
 | ψ :: φs,k,hs,j + 1,φ,h=>by
  have:=sayAll_get hs.2 (j:=j) (φ:=φ) (by simpa using h)
  rwa [show k + 1 + j=k + (j + 1) by omega] at this
theorem sayAll_put {w:World} {u:Nat→Value} {φs:List Says} (h:sayAll w φs 0 u) (j:Nat) (c:Value) (hj:φs[j]? = some (isV c)):u j=c:=by
 have:=sayAll_get h hj
 rwa [Nat.zero_add] at this
end
end
end Go.Proofs.YtpaocjpjlogkgaaGreat
