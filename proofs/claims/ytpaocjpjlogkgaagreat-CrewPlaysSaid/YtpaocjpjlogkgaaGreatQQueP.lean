/-
  Words and contracts of this claim, 23 texts laid into one, each under its own remark. No conditions but those that stand at each.
-/
import Derived.Test.YtpaocjpjlogkgaaGreatRows
import Derived.Laws.RangeAny
import Derived.Lib.SmallJoins
import Derived.IntWalk
import Derived.WalkKit
namespace Go.Proofs.YtpaocjpjlogkgaaGreat
set_option maxRecDepth 100000
set_option maxHeartbeats 32000000
open Go
section
structure Wnt where
 seq:Int
 excl:Bool
 has:Bool
deriving DecidableEq
abbrev Keys:=List (Int × Bool)
def keyAt (K:Keys) (i:Nat):Int × Bool:=K[i]?.getD (0,false)
def freeK (K:Keys) (i:Nat):Bool:=(K.take i).all fun x=>!x.2
def hasK (K:Keys) (i:Nat):Bool:=decide (i=0) || freeK K (i + 1)
def grK (K:Keys):List Wnt:=(List.range K.length).map fun i=>⟨(keyAt K i).1,(keyAt K i).2,hasK K i⟩
def keysN (l:List Wnt):Keys:=l.map fun x=>(x.seq,x.excl)
def askN (l:List Wnt) (s:Int) (e:Bool):List Wnt:=grK (keysN l ++ [(s,e)])
def giveN (l:List Wnt) (s:Int):List Wnt:=grK ((keysN l).filter fun x=>decide (x.1≠s))
def hasS (l:List Wnt) (s:Int):Bool:=l.any fun x=>decide (x.seq=s) && x.has
theorem keyAt_lt {K:Keys} {i:Nat} (h:i < K.length):keyAt K i=K[i]:=by simp [keyAt,h]
theorem grK_length (K:Keys):(grK K).length=K.length:=by simp [grK]
theorem grK_at {K:Keys} {i:Nat} (h:i < K.length):(grK K)[i]? = some ⟨(keyAt K i).1,(keyAt K i).2,hasK K i⟩:=by simp [grK,h]
theorem keys_gr (K:Keys):keysN (grK K)=K:=by
 apply List.ext_getElem?
 intro i
 unfold keysN
 rw [List.getElem?_map]
 by_cases h:i < K.length
 ·rw [grK_at h,keyAt_lt h,List.getElem?_eq_getElem h]
  rfl
 ·rw [List.getElem?_eq_none (by rw [grK_length];omega),List.getElem?_eq_none (by omega)]
  rfl
theorem ask_gr (K:Keys) (s:Int) (e:Bool):askN (grK K) s e=grK (K ++ [(s,e)]):=by rw [askN,keys_gr]
theorem give_gr (K:Keys) (s:Int):giveN (grK K) s=grK (K.filter fun x=>decide (x.1≠s)):=by rw [giveN,keys_gr]
theorem gr_nil:grK []=[]:=rfl
theorem free_zero (K:Keys):freeK K 0=true:=rfl
theorem free_succ {K:Keys} {i:Nat} (h:i < K.length):freeK K (i + 1)=(freeK K i && !(keyAt K i).2):=by
 unfold freeK
 rw [List.take_succ_eq_append_getElem h,List.all_append,keyAt_lt h]
 simp
theorem has_zero (K:Keys):hasK K 0=true:=by simp [hasK]
theorem has_one {K:Keys} {i:Nat} (h:i < K.length):hasK K i=(decide (i=0) || (freeK K i && !(keyAt K i).2)):=by rw [hasK,free_succ h]
theorem has_succ {K:Keys} {i:Nat} (h:i + 1 < K.length):hasK K (i + 1)=(!(keyAt K (i + 1)).2 && hasK K i && !(keyAt K i).2):=by
 rw [has_one h,free_succ (show i < K.length by omega),has_one (show i < K.length by omega)]
 cases i with
 | zero=>simp [free_zero,Bool.and_comm]
 | succ i=>
  simp only [show decide (i + 1 + 1=0)=false by simp,show decide (i + 1=0)=false by simp,Bool.false_or]
  cases freeK K (i + 1) <;> cases (keyAt K (i + 1)).2 <;> cases (keyAt K (i + 1 + 1)).2 <;> rfl
theorem free_le {K:Keys} {i j:Nat} (hj:j≤i) (hi:i≤K.length) (h:freeK K i=true):freeK K j=true:=by
 induction i with
 | zero=>obtain rfl:j=0:=by omega
         exact h
 | succ i ih=>
  by_cases e:j=i + 1
  ·exact e ▸ h
  ·rw [free_succ (by omega)] at h
   exact ih (by omega) (by omega) (by cases hf:freeK K i <;> simp [hf] at h ⊢)
theorem hasS_gr (K:Keys) (s:Int):hasS (grK K) s=true↔∃ i,i < K.length∧(keyAt K i).1=s∧hasK K i=true:=by
 unfold hasS grK
 simp only [List.any_map,List.any_eq_true,List.mem_range,Function.comp_def,Bool.and_eq_true,decide_eq_true_eq]
theorem filter_apart {K:Keys} {s:Int} (h:∀ x∈K,x.1≠s):K.filter (fun x=>decide (x.1≠s))=K:=by
 rw [List.filter_eq_self]
 intro x hx
 simpa using h x hx
end
section
def isLetter (c:Nat):Prop:=97≤c∧c≤122
def isDigit (c:Nat):Prop:=48≤c∧c≤57
def isBlank (c:Nat):Prop:=c=32∨c=10∨c=9
instance (c:Nat):Decidable (isLetter c):=inferInstanceAs (Decidable (_∧_))
instance (c:Nat):Decidable (isDigit c):=inferInstanceAs (Decidable (_∧_))
instance (c:Nat):Decidable (isBlank c):=inferInstanceAs (Decidable (_∨_))
end
section
structure Ins where
 op:Int
 a:Int
 b:Int
def insAt (l:List Ins) (i:Nat):Ins:=l[i]?.getD ⟨0,0,0⟩
def takesN (op:Int):Nat:=if op=4∨op=5 then 2 else if op=1∨op=2∨op=3∨op=6∨op=13∨op=14 then 1 else 0
def jumpsN (op:Int):Prop:=op=13∨op=14
instance (op:Int):Decidable (jumpsN op):=inferInstanceAs (Decidable (_∨_))
def aimAt (l:List Ins) (i:Nat):Prop:=∃ k,k < i∧k < l.length∧jumpsN (insAt l k).op∧(k:Int) + 1 + (insAt l k).a=i
instance (l:List Ins) (i:Nat):Decidable (aimAt l i):=decidable_of_iff (∃ k,k < i∧(k < l.length∧jumpsN (insAt l k).op∧(k:Int) + 1 + (insAt l k).a=i)) Iff.rfl
def inI (x:Ins):Prop:=(-9223372036854775808≤x.a∧x.a≤9223372036854775807)∧(-9223372036854775808≤x.b∧x.b≤9223372036854775807)
theorem insAt_mem {l:List Ins} {i:Nat} (h:i < l.length):insAt l i∈l:=by
 rw [insAt,List.getElem?_eq_getElem h]
 exact List.getElem_mem _
end
section
open Go.RowKit
theorem takes_two (op:Int):takesN op=0∨takesN op=1∨takesN op=2:=by
 unfold takesN
 split
 ·exact .inr (.inr rfl)
 ·split
  ·exact .inr (.inl rfl)
  ·exact .inl rfl
def rightN (x:Ins):Prop:=(1≤x.op∧x.op≤17)∧(0 < takesN x.op∨x.a=0)∧(1 < takesN x.op∨x.b=0)
instance (x:Ins):Decidable (rightN x):=inferInstanceAs (Decidable (_∧_))
end
section
structure Cmd where
 reads:List Int
 writes:List Int
 args:List Int
 fuel:Int
 code:List Ins
def offN (op:Int):Nat:=if op=3∨op=5∨op=13∨op=15 then 1 else if 7≤op∧op≤12 then 2 else 0
def onN (op:Int):Nat:=if op=1∨op=2∨op=4∨op=6 then 1 else if 7≤op∧op≤12 then 1 else 0
def waysN (x:Ins):List Int:=if x.op=16∨x.op=17 then [] else if x.op=14 then [x.a] else if x.op=13 then [0,x.a] else [0]
def dAt (d:List Int) (i:Nat):Int:=d[i]?.getD (-1)
theorem dAt_set_same {d:List Int} {i:Nat} {v:Int} (h:i < d.length):dAt (d.set i v) i=v:=by simp [dAt,h]
theorem dAt_set_ne {d:List Int} {i j:Nat} {v:Int} (h:i≠j):dAt (d.set i v) j=dAt d j:=by simp [dAt,List.getElem?_set_ne h]
def wayD (len i:Nat) (v:Int):List Int→List Int→Except Nat (List Int)
 | [],d=>.ok d
 | w :: ws,d=>if w < 0∨(len:Int) - i - 1≤w then .error 6
  else if 0≤dAt d (i + 1 + w.toNat)∧dAt d (i + 1 + w.toNat)≠v then .error 7
  else wayD len i v ws (d.set (i + 1 + w.toNat) v)
def insD (l:List Ins) (i:Nat) (d:List Int):Except Nat (List Int):=
 if dAt d i < 0 then .ok d
 else if dAt d i < offN (insAt l i).op∨8 < dAt d i - offN (insAt l i).op + onN (insAt l i).op then .error 7
 else wayD l.length i (dAt d i - offN (insAt l i).op + onN (insAt l i).op) (waysN (insAt l i)) d
def goD (l:List Ins):Nat→Nat→List Int→Except Nat (List Int)
 | 0,_,d=>.ok d
 | n + 1,i,d=>match insD l i d with
  | .error e=>.error e
  | .ok d'=>goD l n (i + 1) d'
def startD0 (n:Nat):List Int:=(List.range n).map fun i=>if i=0 then 0 else -1
def depthsN (l:List Ins):Except Nat (List Int):=goD l l.length 0 (startD0 l.length)
theorem startD0_length (n:Nat):(startD0 n).length=n:=by simp [startD0]
theorem startD0_at {n i:Nat} (h:i < n):dAt (startD0 n) i=if i=0 then 0 else -1:=by simp [dAt,startD0,h]
def wayOk (len i:Nat) (v:Int) (d:List Int) (w:Int):Prop:=0≤w∧w < (len:Int) - i - 1∧dAt d (i + 1 + w.toNat)=v
def insOk (l:List Ins) (d:List Int) (i:Nat):Prop:=0≤dAt d i→(offN (insAt l i).op:Int)≤dAt d i∧dAt d i - offN (insAt l i).op + onN (insAt l i).op≤8∧∀ w∈waysN (insAt l i),wayOk l.length i (dAt d i - offN (insAt l i).op + onN (insAt l i).op) d w
structure Grew (i:Nat) (d d':List Int):Prop where
 len:d'.length=d.length
 low:∀ j,j≤i→dAt d' j=dAt d j
 kept:∀ j,0≤dAt d j→dAt d' j=dAt d j
theorem Grew.refl (i:Nat) (d:List Int):Grew i d d:=⟨rfl,fun _ _=>rfl,fun _ _=>rfl⟩
theorem Grew.trans {i:Nat} {a b c:List Int} (h:Grew i a b) (k:Grew i b c):Grew i a c:=
 ⟨k.len.trans h.len,fun j hj=>(k.low j hj).trans (h.low j hj),fun j hj=>(k.kept j (by rw [h.kept j hj];exact hj)).trans (h.kept j hj)⟩
theorem way_grew {len i:Nat} {v:Int} (hv:0≤v):∀ (ws:List Int) (d d':List Int),d.length=len→wayD len i v ws d=.ok d'→Grew i d d'∧∀ w∈ws,wayOk len i v d' w
 | [],d,d',_,h=>by
  simp only [wayD,Except.ok.injEq] at h
  subst h
  exact ⟨Grew.refl _ _,by simp⟩
 | w :: ws,d,d',hl,h=>by
  rw [wayD] at h
  split at h
  ·cases h
  ·split at h
   ·cases h
   ·rename_i h1 h2
    have hw:0≤w∧w < (len:Int) - i - 1:=by omega
    have hlt:i + 1 + w.toNat < d.length:=by omega
    have hg:Grew i d (d.set (i + 1 + w.toNat) v):=by
     refine ⟨by simp,fun j hj=>dAt_set_ne (by omega),fun j hj=>?_⟩
     by_cases e:i + 1 + w.toNat=j
     ·subst e
      rw [dAt_set_same hlt]
      exact Classical.byContradiction fun hne=>h2 ⟨hj,fun e=>hne e.symm⟩
     ·exact dAt_set_ne e
    obtain ⟨g2,hall⟩:=way_grew hv ws _ d' (by simp [hl]) h
    refine ⟨hg.trans g2,fun w' hw'=>?_⟩
    rcases List.mem_cons.1 hw' with rfl | hw'
    ·refine ⟨hw.1,hw.2,?_⟩
     rw [g2.kept _ (by rw [dAt_set_same hlt];exact hv),dAt_set_same hlt]
    ·exact hall w' hw'
theorem on_off (op:Int):offN op≤2∧onN op≤1:=by
 unfold offN onN
 refine ⟨?_,?_⟩
 iterate 2
  ·split
   ·omega
   ·split <;> omega
theorem ins_grew {l:List Ins} {i:Nat} {d d':List Int} (hl:d.length=l.length) (h:insD l i d=.ok d'):Grew i d d'∧insOk l d' i:=by
 rw [insD] at h
 split at h
 ·rename_i hn
  simp only [Except.ok.injEq] at h
  subst h
  exact ⟨Grew.refl _ _,fun h0=>by omega⟩
 ·split at h
  ·cases h
  ·rename_i h0 h1
   have hoff:(offN (insAt l i).op:Int)≤dAt d i:=by omega
   obtain ⟨hg,hall⟩:=way_grew (by omega) _ _ _ hl h
   refine ⟨hg,fun _=>?_⟩
   rw [hg.low i (Nat.le_refl _)]
   exact ⟨hoff,by omega,hall⟩
theorem insOk_grew {l:List Ins} {d d':List Int} {i j:Nat} (h:insOk l d i) (hg:Grew j d d') (hi:i≤j) (hv:∀ op:Int,offN op≤2):insOk l d' i:=by
 intro h0
 have e:=hg.low i hi
 rw [e] at h0 ⊢
 obtain ⟨h1,h2,h3⟩:=h h0
 refine ⟨h1,h2,fun w hw=>?_⟩
 obtain ⟨w1,w2,w3⟩:=h3 w hw
 have:=hv (insAt l i).op
 exact ⟨w1,w2,by rw [hg.kept _ (by rw [w3];omega),w3]⟩
theorem go_fine {l:List Ins}:∀ (n i:Nat) (d d':List Int),d.length=l.length→goD l n i d=.ok d'→(∀ j,j < i→insOk l d j)→d'.length=l.length∧(0 < i + n→dAt d' 0=dAt d 0)∧∀ j,j < i + n→insOk l d' j
 | 0,i,d,d',hl,h,hj=>by
  simp only [goD,Except.ok.injEq] at h
  subst h
  exact ⟨hl,fun _=>rfl,hj⟩
 | n + 1,i,d,d',hl,h,hj=>by
  rw [goD] at h
  cases hi:insD l i d with
  | error e=>rw [hi] at h;cases h
  | ok d1=>
   rw [hi] at h
   obtain ⟨hg,hok⟩:=ins_grew hl hi
   obtain ⟨r1,r2,r3⟩:=go_fine n (i + 1) d1 d' (hg.len.trans hl) h (fun j hji=>by
    rcases Nat.lt_or_ge j i with h1 | h1
    ·exact insOk_grew (hj j h1) hg (by omega) (fun op=>(on_off op).1)
    ·obtain rfl:j=i:=by omega
     exact hok)
   exact ⟨r1,fun _=>(r2 (by omega)).trans (hg.low 0 (by omega)),fun j hj'=>r3 j (by omega)⟩
theorem depths_fine {l:List Ins} {d:List Int} (h:depthsN l=.ok d):d.length=l.length∧(0 < l.length→dAt d 0=0)∧∀ i,i < l.length→insOk l d i:=by
 obtain ⟨h1,h2,h3⟩:=go_fine l.length 0 _ d (startD0_length _) h (fun j hj=>absurd hj (by omega))
 refine ⟨h1,fun hl=>?_,fun i hi=>h3 i (by omega)⟩
 rw [h2 (by omega),startD0_at hl]
 rfl
end
section
def risesN:List Int→Int→Prop
 | [],_=>True
 | x :: l,z=>z≤x∧risesN l (x + 1)
instance risesDec:(l:List Int)→(z:Int)→Decidable (risesN l z)
 | [],_=>inferInstanceAs (Decidable True)
 | x :: l,_=>have:=risesDec l (x + 1);inferInstanceAs (Decidable (_∧_))
def boundsN (c:Cmd) (x:Ins):Prop:=
 (x.op=2∨x.op=3→0≤x.a∧x.a < 4) ∧
 (x.op=4→0≤x.a∧x.a < (c.reads.length:Int) + c.writes.length∧0≤x.b∧x.b < 8) ∧
 (x.op=5→(c.reads.length:Int)≤x.a∧x.a < (c.reads.length:Int) + c.writes.length∧0≤x.b∧x.b < 8) ∧
 (x.op=6→0≤x.a∧x.a < (c.args.length:Int))
instance (c:Cmd) (x:Ins):Decidable (boundsN c x):=inferInstanceAs (Decidable (_∧_))
def emitsN (l:List Ins):Nat:=(l.filter fun x=>decide (x.op=15)).length
def fewN (c:Cmd):Prop:=c.reads.length + c.writes.length≤8∧c.args.length≤8∧1≤c.code.length∧c.code.length≤64∧1≤c.fuel∧c.fuel≤200
instance (c:Cmd):Decidable (fewN c):=inferInstanceAs (Decidable (_∧_))
def setsN (c:Cmd):Prop:=risesN c.reads 0∧risesN c.writes 0∧∀ x∈c.reads,x ∉ c.writes
instance (c:Cmd):Decidable (setsN c):=inferInstanceAs (Decidable (_∧_))
def opsN (c:Cmd):Prop:=∀ x∈c.code,rightN x∧boundsN c x
instance (c:Cmd):Decidable (opsN c):=inferInstanceAs (Decidable (∀ x∈_,_))
def checkN (c:Cmd):Nat:=
 if ¬ fewN c then 4 else if ¬ setsN c then 8 else if ¬ opsN c then 5 else if 8 < emitsN c.code then 4
 else match depthsN c.code with
  | .ok _=>0
  | .error e=>e
structure MayBe (c:Cmd):Prop where
 few:fewN c
 sets:setsN c
 ops:opsN c
 emits:emitsN c.code≤8
 depths:∃ d,depthsN c.code=.ok d
theorem wayD_err {len i:Nat} {v:Int}:∀ (ws d:List Int) (e:Nat),wayD len i v ws d=.error e→e=6∨e=7
 | [],_,_,h=>by cases h
 | w :: ws,d,e,h=>by
  rw [wayD] at h
  split at h
  ·injection h with h;omega
  ·split at h
   ·injection h with h;omega
   ·exact wayD_err ws _ e h
theorem insD_err {l:List Ins} {i:Nat} {d:List Int} {e:Nat} (h:insD l i d=.error e):e=6∨e=7:=by
 rw [insD] at h
 split at h
 ·cases h
 ·split at h
  ·injection h with h;omega
  ·exact wayD_err _ _ e h
theorem goD_err {l:List Ins}:∀ (n i:Nat) (d:List Int) (e:Nat),goD l n i d=.error e→e=6∨e=7
 | 0,_,_,_,h=>by cases h
 | n + 1,i,d,e,h=>by
  rw [goD] at h
  cases hi:insD l i d with
  | error e'=>rw [hi] at h;injection h with h;subst h;exact insD_err hi
  | ok d'=>rw [hi] at h;exact goD_err n _ _ e h
theorem check_zero (c:Cmd):checkN c=0↔MayBe c:=by
 constructor
 ·intro h
  unfold checkN at h
  split at h
  ·omega
  ·split at h
   ·omega
   ·split at h
    ·omega
    ·split at h
     ·omega
     ·rename_i h1 h2 h3 h4
      cases hd:depthsN c.code with
      | error e=>
       rw [hd] at h
       have:=goD_err _ _ _ e hd
       simp only at h
       omega
      | ok d=>exact ⟨Classical.byContradiction h1,Classical.byContradiction h2,Classical.byContradiction h3,by omega,d,hd⟩
 ·rintro ⟨h1,h2,h3,h4,d,hd⟩
  rw [checkN,if_neg (by simp [h1]),if_neg (by simp [h2]),if_neg (by simp [h3]),if_neg (by omega),hd]
end
section
open Go.RowKit
def getC (b:List Int) (i:Int):Int:=if 0≤i∧i < 8 then b[i.toNat]?.getD 0 else 0
def putC (b:List Int) (i n:Int):List Int:=if 0≤i∧i < 8 then b.set i.toNat n else b
theorem putC_length (b:List Int) (i n:Int):(putC b i n).length=b.length:=by
 unfold putC
 split <;> simp
end
section
open Go.RowKit
structure Mac where
 pc:Int
 fuel:Int
 stack:List Int
 regs:List Int
 out:List Int
 over:Bool
 told:Nat
abbrev Blks:=List (List Int)
def newM (c:Cmd):Mac:=⟨0,c.fuel,[],[0,0,0,0],[],false,0⟩
def overM (m:Mac) (e:Nat):Mac:={ m with over:=true,told:=e,out:=if e=0 then m.out else [] }
def twoN (op a b:Int):Option Int:=
 if op=7 then some (wrap64 (a + b)) else if op=8 then some (wrap64 (a - b)) else if op=9 then some (wrap64 (a * b))
 else if op=10 then (if b=0 then none else some (wrap64 (a.tdiv b)))
 else if op=11 then some (if a < b then 1 else 0) else some (if a=b then 1 else 0)
def topN (l:List Int):Int:=l[l.length - 1]?.getD 0
def nextTop (l:List Int):Int:=l[l.length - 2]?.getD 0
def popN (l:List Int) (k:Nat):List Int:=l.take (l.length - k)
theorem popN_length (l:List Int) (k:Nat):(popN l k).length=l.length - k:=by simp [popN]
def doM (c:Cmd) (x:Ins) (m:Mac) (own:Blks):Mac × Blks:=
 if x.op=1 then ({ m with stack:=m.stack ++ [x.a] },own)
 else if x.op=2 then ({ m with stack:=m.stack ++ [m.regs[x.a.toNat]?.getD 0] },own)
 else if x.op=4 then ({ m with stack:=m.stack ++ [getC (own[x.a.toNat]?.getD []) x.b] },own)
 else if x.op=6 then ({ m with stack:=m.stack ++ [c.args[x.a.toNat]?.getD 0] },own)
 else if x.op=14 then ({ m with pc:=m.pc + x.a },own)
 else if x.op=16 then (overM m 13,own)
 else if x.op=17 then (overM m 0,own)
 else if x.op=3 then ({ m with stack:=popN m.stack 1,regs:=m.regs.set x.a.toNat (topN m.stack) },own)
 else if x.op=5 then ({ m with stack:=popN m.stack 1 },own.set x.a.toNat (putC (own[x.a.toNat]?.getD []) x.b (topN m.stack)))
 else if x.op=13 then ({ m with stack:=popN m.stack 1,pc:=if topN m.stack=0 then m.pc + x.a else m.pc },own)
 else if x.op=15 then ({ m with stack:=popN m.stack 1,out:=m.out ++ [topN m.stack] },own)
 else match twoN x.op (nextTop m.stack) (topN m.stack) with
  | none=>(overM m 12,own)
  | some n=>({ m with stack:=popN m.stack 2 ++ [n] },own)
def stepM (c:Cmd) (m:Mac) (own:Blks):Mac × Blks:=
 if m.over=true then (m,own) else if m.fuel=0 then (overM m 11,own)
 else doM c (insAt c.code m.pc.toNat) { m with fuel:=m.fuel - 1,pc:=m.pc + 1 } own
theorem step_over {c:Cmd} {m:Mac} {own:Blks} (h:m.over=true):stepM c m own=(m,own):=by rw [stepM,if_pos h]
theorem step_empty {c:Cmd} {m:Mac} {own:Blks} (h:m.over=false) (hf:m.fuel=0):stepM c m own=(overM m 11,own):=by
 rw [stepM,if_neg (by rw [h];decide),if_pos hf]
theorem step_goes {c:Cmd} {m:Mac} {own:Blks} (h:m.over=false) (hf:m.fuel≠0):stepM c m own=doM c (insAt c.code m.pc.toNat) { m with fuel:=m.fuel - 1,pc:=m.pc + 1 } own:=by
 rw [stepM,if_neg (by rw [h];decide),if_neg hf]
def emitsFrom (l:List Ins) (i:Nat):Nat:=emitsN (l.drop i)
theorem emits_step {l:List Ins} {i:Nat} (h:i < l.length):emitsFrom l i=(if (insAt l i).op=15 then 1 else 0) + emitsFrom l (i + 1):=by
 unfold emitsFrom emitsN
 rw [List.drop_eq_getElem_cons h,show insAt l i=l[i] by simp [insAt,h]]
 by_cases e:(l[i]).op=15
 ·rw [List.filter_cons_of_pos (by simpa using e),if_pos e,List.length_cons]
  omega
 ·rw [List.filter_cons_of_neg (by simpa using e),if_neg e]
  omega
theorem emits_mono {l:List Ins} {i j:Nat} (h:i≤j):emitsFrom l j≤emitsFrom l i:=by
 unfold emitsFrom emitsN
 obtain ⟨k,rfl⟩:=Nat.exists_eq_add_of_le h
 rw [← List.drop_drop]
 exact List.Sublist.length_le (List.Sublist.filter _ (List.drop_sublist _ _))
structure MOk (c:Cmd) (d:List Int) (m:Mac) (own:Blks):Prop where
 at_:m.over=false→0≤m.pc∧m.pc < c.code.length∧dAt d m.pc.toNat=m.stack.length∧m.out.length + emitsFrom c.code m.pc.toNat≤8∧m.told=0
 fuel:0≤m.fuel
 deep:m.stack.length≤8
 regs:m.regs.length=4
 out:m.out.length≤8
 told:m.told≠0→m.out=[]
 cells:∀ b∈own,b.length=8
 many:own.length=c.reads.length + c.writes.length
end
section
open Go.RowKit
structure Goes (c:Cmd) (d:List Int) (m:Mac) (p:Int) (n:Nat) (o:Nat):Prop where
 le:m.pc + 1≤p
 lt:p < c.code.length
 deep:dAt d p.toNat=n
 out:o + emitsFrom c.code p.toNat≤8
section
variable {c:Cmd} {d:List Int} {m:Mac} {own:Blks}
theorem goes_way (hd:depthsN c.code=.ok d) (hm:MOk c d m own) (ho:m.over=false) {w:Int} (hw:w∈waysN (insAt c.code m.pc.toNat)) {n:Nat} (hn:(n:Int)=(m.stack.length:Int) - offN (insAt c.code m.pc.toNat).op + onN (insAt c.code m.pc.toNat).op)
  {o:Nat} (hout:o≤m.out.length + if (insAt c.code m.pc.toNat).op=15 then 1 else 0):Goes c d m (m.pc + 1 + w) n o:=by
 obtain ⟨h1,h2,h3,h4,_⟩:=hm.at_ ho
 obtain ⟨_,_,hok⟩:=depths_fine hd
 have hi:m.pc.toNat < c.code.length:=by omega
 obtain ⟨_,_,hall⟩:=hok m.pc.toNat hi (by rw [h3];omega)
 obtain ⟨w1,w2,w3⟩:=hall w hw
 have he:(m.pc + 1 + w).toNat=m.pc.toNat + 1 + w.toNat:=by omega
 refine ⟨by omega,by omega,by rw [he,w3,h3,hn],?_⟩
 have hs:=emits_step (l:=c.code) hi
 have hmono:=emits_mono (l:=c.code) (i:=m.pc.toNat + 1) (j:=(m.pc + 1 + w).toNat) (by omega)
 omega
theorem stack_room (hd:depthsN c.code=.ok d) (hm:MOk c d m own) (ho:m.over=false):offN (insAt c.code m.pc.toNat).op≤m.stack.length∧m.stack.length - offN (insAt c.code m.pc.toNat).op + onN (insAt c.code m.pc.toNat).op≤8:=by
 obtain ⟨h1,h2,h3,h4,_⟩:=hm.at_ ho
 obtain ⟨_,_,hok⟩:=depths_fine hd
 obtain ⟨g1,g2,_⟩:=hok m.pc.toNat (by omega) (by rw [h3];omega)
 rw [h3] at g1 g2
 omega
theorem over_ok (hm:MOk c d m own) {m':Mac} (hf:0≤m'.fuel) (hs:m'.stack=m.stack) (hr:m'.regs=m.regs) (ho:m'.out=m.out) (e:Nat):MOk c d (overM m' e) own:=by
 refine ⟨(fun h=>by cases h),hf,by rw [show (overM m' e).stack=m'.stack from rfl,hs];exact hm.deep,by rw [show (overM m' e).regs=m'.regs from rfl,hr];exact hm.regs,?_,?_,hm.cells,hm.many⟩
 ·show (if e=0 then m'.out else []).length≤8
  split
  ·rw [ho];exact hm.out
  ·simp
 ·intro h
  show (if e=0 then m'.out else [])=[]
  exact if_neg h
theorem next_ok (hm:MOk c d m own) {m':Mac} (hf:0≤m'.fuel) (hs:m'.stack.length≤8) (hr:m'.regs.length=4) (ht:m'.told=0) (hg:Goes c d m m'.pc m'.stack.length m'.out.length) (h0:0≤m.pc):MOk c d m' own:=
 ⟨fun _=>⟨by have:=hg.le;omega,hg.lt,hg.deep,hg.out,ht⟩,hf,hs,hr,by have:=hg.out;omega,fun h=>absurd ht h,hm.cells,hm.many⟩
end
structure Steps (c:Cmd) (d:List Int) (m:Mac) (own:Blks) (r:Mac × Blks):Prop where
 ok:MOk c d r.1 r.2
 fuel:r.1.fuel=m.fuel - 1
 pc:m.pc≤r.1.pc
 reads:∀ i,i < c.reads.length→r.2[i]? = own[i]?
theorem do_ok {c:Cmd} {d:List Int} {m:Mac} {own:Blks} (hc:MayBe c) (hd:depthsN c.code=.ok d) (hm:MOk c d m own) (ho:m.over=false) (hf:m.fuel≠0) :
  Steps c d m own (doM c (insAt c.code m.pc.toNat) { m with fuel:=m.fuel - 1,pc:=m.pc + 1 } own):=by
 obtain ⟨p0,p1,p2,p3,p4⟩:=hm.at_ ho
 have hfu:=hm.fuel
 have hi:m.pc.toNat < c.code.length:=by omega
 obtain ⟨hright,hbounds⟩:=hc.ops _ (insAt_mem hi)
 obtain ⟨r1,r2⟩:=stack_room hd hm ho
 have hgo:=fun (w:Int) (hw:w∈waysN (insAt c.code m.pc.toNat)) (n:Nat) hn (o:Nat) hout=>goes_way (n:=n) (o:=o) hd hm ho hw hn hout
 generalize insAt c.code m.pc.toNat=x at *
 obtain ⟨op,a,b⟩:=x
 obtain ⟨⟨o1,o2⟩,-,-⟩:=hright
 simp only at o1 o2 r1 r2 hgo
 have key:∀ m':Mac,m'.fuel=m.fuel - 1→m'.stack.length≤8→m'.regs.length=4→m'.told=m.told→Goes c d m m'.pc m'.stack.length m'.out.length→Steps c d m own (m',own):=fun m' h1 h2 h3 h4 h5=>
  ⟨next_ok hm (show 0≤m'.fuel by omega) h2 h3 (by rw [h4,p4]) h5 p0,h1,by have:=h5.le;simp only;omega,fun _ _=>rfl⟩
 have keyO:∀ e:Nat,Steps c d m own (overM { m with fuel:=m.fuel - 1,pc:=m.pc + 1 } e,own):=fun e=>
  ⟨over_ok (m':={ m with fuel:=m.fuel - 1,pc:=m.pc + 1 }) hm (show 0≤m.fuel - 1 by omega) rfl rfl rfl e,rfl,by show m.pc≤m.pc + 1;omega,fun _ _=>rfl⟩
 have hgo0:=hgo 0
 rw [Int.add_zero] at hgo0
 rcases (show op=1∨op=2∨op=3∨op=4∨op=5∨op=6∨op=13∨op=14∨op=15∨op=16∨op=17∨(7≤op∧op≤12) by omega) with rfl | rfl | rfl | rfl | rfl | rfl | rfl | rfl | rfl | rfl | rfl | h2
 iterate 2
  ·exact key _ rfl (by simpa [offN,onN] using r2) hm.regs rfl (hgo0 (by simp [waysN]) _ (by simp [offN,onN]) _ (by simp))
 ·have h1:1≤m.stack.length:=by simpa [offN] using r1
  exact key _ rfl (by simp only [popN_length];have:=hm.deep;omega) (by simpa using hm.regs) rfl (hgo0 (by simp [waysN]) _ (by simp only [popN_length];simp [offN,onN];omega) _ (by simp))
 ·exact key _ rfl (by simpa [offN,onN] using r2) hm.regs rfl (hgo0 (by simp [waysN]) _ (by simp [offN,onN]) _ (by simp))
 ·have h1:1≤m.stack.length:=by simpa [offN] using r1
  obtain ⟨-,-,hb,-⟩:=hbounds
  obtain ⟨b1,b2,b3,b4⟩:=hb rfl
  simp only at b1 b2 b3 b4
  have hmany:=hm.many
  have hlt:a.toNat < own.length:=by omega
  have hg:=hgo0 (by simp [waysN]) (popN m.stack 1).length (by rw [popN_length];simp [offN,onN];omega) m.out.length (by simp)
  refine ⟨?_,rfl,by show m.pc≤m.pc + 1;omega,fun i hir=>?_⟩
  ·refine ⟨fun _=>⟨by show 0≤m.pc + 1;omega,hg.lt,hg.deep,hg.out,p4⟩,by show 0≤m.fuel - 1;omega,by show (popN m.stack 1).length≤8;rw [popN_length];have:=hm.deep;omega,hm.regs,hm.out,fun h=>absurd p4 h,?_,?_⟩
   ·intro y hy
    rcases List.mem_or_eq_of_mem_set hy with hy | rfl
    ·exact hm.cells y hy
    ·rw [putC_length,List.getElem?_eq_getElem hlt]
     exact hm.cells _ (List.getElem_mem _)
   ·show (own.set _ _).length=_
    rw [List.length_set]
    exact hmany
  ·show (own.set a.toNat _)[i]? = _
   rw [List.getElem?_set_ne (by omega)]
 ·exact key _ rfl (by simpa [offN,onN] using r2) hm.regs rfl (hgo0 (by simp [waysN]) _ (by simp [offN,onN]) _ (by simp))
 ·have h1:1≤m.stack.length:=by simpa [offN] using r1
  have hlen:((popN m.stack 1).length:Int)=(m.stack.length:Int) - offN 13 + onN 13:=by rw [popN_length];simp [offN,onN];omega
  refine key _ rfl (by simp only [popN_length];have:=hm.deep;omega) hm.regs rfl ?_
  show Goes c d m (if topN m.stack=0 then m.pc + 1 + a else m.pc + 1) _ _
  split
  ·exact hgo a (by simp [waysN]) _ hlen _ (by simp)
  ·exact hgo0 (by simp [waysN]) _ hlen _ (by simp)
 ·exact key _ rfl hm.deep hm.regs rfl (hgo a (by simp [waysN]) _ (by simp [offN,onN]) _ (by simp))
 ·have h1:1≤m.stack.length:=by simpa [offN] using r1
  exact key _ rfl (by simp only [popN_length];have:=hm.deep;omega) hm.regs rfl (hgo0 (by simp [waysN]) _ (by simp only [popN_length];simp [offN,onN];omega) _ (by simp))
 ·exact keyO 13
 ·exact keyO 0
 ·have e:doM c ⟨op,a,b⟩ { m with fuel:=m.fuel - 1,pc:=m.pc + 1 } own=match twoN op (nextTop m.stack) (topN m.stack) with
    | none=>(overM { m with fuel:=m.fuel - 1,pc:=m.pc + 1 } 12,own)
    | some n=>({ m with fuel:=m.fuel - 1,pc:=m.pc + 1,stack:=popN m.stack 2 ++ [n] },own):=by
   unfold doM
   simp only
   rw [if_neg (by omega),if_neg (by omega),if_neg (by omega),if_neg (by omega),if_neg (by omega),if_neg (by omega),if_neg (by omega),if_neg (by omega),if_neg (by omega),if_neg (by omega),if_neg (by omega)] <;> rfl
  rw [e]
  have hoff:offN op=2:=by unfold offN;rw [if_neg (by omega),if_pos h2]
  have hon:onN op=1:=by unfold onN;rw [if_neg (by omega),if_pos h2]
  have hway:waysN ⟨op,a,b⟩=[0]:=by unfold waysN;simp only;rw [if_neg (by omega),if_neg (by omega),if_neg (by omega)]
  have h1:2≤m.stack.length:=by omega
  cases twoN op (nextTop m.stack) (topN m.stack) with
  | none=>exact keyO 12
  | some n=>
   have hl:(popN m.stack 2 ++ [n]).length=m.stack.length - 1:=by rw [List.length_append,popN_length,List.length_singleton];omega
   exact key _ rfl (by simp only [hl];have:=hm.deep;omega) hm.regs rfl (hgo0 (by rw [hway];simp) _ (by simp only [hl];omega) _ (by simp))
def stepsM (c:Cmd):Nat→Mac × Blks→Mac × Blks
 | 0,r=>r
 | n + 1,r=>stepsM c n (stepM c r.1 r.2)
theorem new_ok {c:Cmd} {d:List Int} {own:Blks} (hc:MayBe c) (hd:depthsN c.code=.ok d) (hn:own.length=c.reads.length + c.writes.length) (h8:∀ b∈own,b.length=8):MOk c d (newM c) own:=by
 obtain ⟨f1,f2,f3,f4,f5,f6⟩:=hc.few
 obtain ⟨_,h0,_⟩:=depths_fine hd
 refine ⟨fun _=>⟨by simp [newM],by simp only [newM];omega,?_,?_,rfl⟩,by simp only [newM];omega,by simp [newM],by simp [newM],by simp [newM],(fun h=>absurd rfl h),h8,hn⟩
 ·show dAt d 0=((0:Nat):Int)
  rw [h0 (by omega)]
  rfl
 ·show 0 + emitsN (c.code.drop 0)≤8
  rw [List.drop_zero]
  have:=hc.emits
  omega
theorem step_ok {c:Cmd} {d:List Int} {m:Mac} {own:Blks} (hc:MayBe c) (hd:depthsN c.code=.ok d) (hm:MOk c d m own) :
  MOk c d (stepM c m own).1 (stepM c m own).2∧m.pc≤(stepM c m own).1.pc∧(∀ i,i < c.reads.length→(stepM c m own).2[i]? = own[i]?) ∧
   (m.over=false→(stepM c m own).1.fuel=m.fuel - 1∨((stepM c m own).1.told=11∧m.fuel=0∧(stepM c m own).1.over=true)):=by
 cases ho:m.over with
 | true=>
  rw [step_over ho]
  exact ⟨hm,Int.le_refl _,fun _ _=>rfl,fun h=>by cases h⟩
 | false=>
  by_cases hf:m.fuel=0
  ·rw [step_empty ho hf]
   exact ⟨over_ok hm hm.fuel rfl rfl rfl 11,Int.le_refl _,fun _ _=>rfl,fun _=>.inr ⟨rfl,hf,rfl⟩⟩
  ·rw [step_goes ho hf]
   obtain ⟨h1,h2,h3,h4⟩:=do_ok hc hd hm ho hf
   exact ⟨h1,h3,h4,fun _=>.inl h2⟩
theorem do_fuel (c:Cmd) (x:Ins) (m:Mac) (own:Blks) (f:Int):doM c x { m with fuel:=f } own=({ (doM c x m own).1 with fuel:=f },(doM c x m own).2):=by
 by_cases h1:x.op=1
 ·simp [doM,h1]
 by_cases h2:x.op=2
 ·simp [doM,h2]
 by_cases h4:x.op=4
 ·simp [doM,h4]
 by_cases h6:x.op=6
 ·simp [doM,h6]
 by_cases h14:x.op=14
 ·simp [doM,h14]
 by_cases h16:x.op=16
 ·simp [doM,overM,h16]
 by_cases h17:x.op=17
 ·simp [doM,overM,h17]
 by_cases h3:x.op=3
 ·simp [doM,h3]
 by_cases h5:x.op=5
 ·simp [doM,h5]
 by_cases h13:x.op=13
 ·simp [doM,h13]
 by_cases h15:x.op=15
 ·simp [doM,h15]
 simp only [doM,if_neg h1,if_neg h2,if_neg h4,if_neg h6,if_neg h14,if_neg h16,if_neg h17,if_neg h3,if_neg h5,if_neg h13,if_neg h15]
 cases twoN x.op (nextTop m.stack) (topN m.stack) <;> rfl
end
section
open Go.RowKit
theorem steps_add (c:Cmd):∀ (a b:Nat) (r:Mac × Blks),stepsM c (a + b) r=stepsM c b (stepsM c a r)
 | 0,b,r=>by rw [Nat.zero_add];rfl
 | a + 1,b,r=>by
  rw [show a + 1 + b=(a + b) + 1 by omega]
  exact steps_add c a b _
theorem steps_succ (c:Cmd) (n:Nat) (r:Mac × Blks):stepsM c (n + 1) r=stepM c (stepsM c n r).1 (stepsM c n r).2:=steps_add c n 1 r
theorem steps_over {c:Cmd} {r:Mac × Blks} (h:r.1.over=true):∀ n,stepsM c n r=r
 | 0=>rfl
 | n + 1=>by
  show stepsM c n (stepM c r.1 r.2)=r
  rw [step_over h]
  exact steps_over h n
theorem steps_ok {c:Cmd} {d:List Int} (hc:MayBe c) (hd:depthsN c.code=.ok d) {r:Mac × Blks} (h:MOk c d r.1 r.2):∀ n,MOk c d (stepsM c n r).1 (stepsM c n r).2
 | 0=>h
 | n + 1=>by
  rw [steps_succ]
  exact (step_ok hc hd (steps_ok hc hd h n)).1
theorem over_same {c:Cmd} {r:Mac × Blks} {a b:Nat} (ha:(stepsM c a r).1.over=true) (hb:(stepsM c b r).1.over=true):stepsM c a r=stepsM c b r:=by
 rcases Nat.le_total a b with h | h
 ·obtain ⟨k,rfl⟩:=Nat.exists_eq_add_of_le h
  rw [steps_add,steps_over ha]
 ·obtain ⟨k,rfl⟩:=Nat.exists_eq_add_of_le h
  rw [steps_add,steps_over hb]
structure Ends (c:Cmd) (r:Mac × Blks) (n:Nat):Prop where
 over:(stepsM c n r).1.over=true
 first:∀ k,k < n→(stepsM c k r).1.over=false
theorem Ends.step {c:Cmd} {r:Mac × Blks} {n:Nat} (ho:r.1.over=false) (h:Ends c (stepM c r.1 r.2) n):Ends c r (n + 1):=by
 refine ⟨h.over,fun k hk=>?_⟩
 cases k with
 | zero=>exact ho
 | succ k=>exact h.first k (by omega)
theorem ends {c:Cmd} {d:List Int} (hc:MayBe c) (hd:depthsN c.code=.ok d):∀ (f:Nat) (r:Mac × Blks),MOk c d r.1 r.2→r.1.fuel=f→∃ n,n≤f + 1∧Ends c r n
 | f,r,h,hf=>by
  cases ho:r.1.over with
  | true=>exact ⟨0,by omega,ho,fun k hk=>absurd hk (by omega)⟩
  | false=>
   obtain ⟨h1,-,-,h2⟩:=step_ok hc hd h
   cases ho':(stepM c r.1 r.2).1.over with
   | true=>exact ⟨1,by omega,Ends.step ho ⟨ho',fun k hk=>absurd hk (by omega)⟩⟩
   | false=>
    rcases h2 ho with h2 | ⟨-,-,h2⟩
    ·cases f with
     | zero=>have:=h1.fuel;omega
     | succ f=>
      obtain ⟨n,hn,he⟩:=ends hc hd f (stepM c r.1 r.2) h1 (by omega)
      exact ⟨n + 1,by omega,Ends.step ho he⟩
    ·rw [ho'] at h2
     cases h2
theorem do_fuel_is (c:Cmd) (x:Ins) (m:Mac) (own:Blks):(doM c x m own).1.fuel=m.fuel:=by
 have h:=do_fuel c x m own m.fuel
 rw [show { m with fuel:=m.fuel }=m from rfl] at h
 rw [h]
end
section
structure Ent where
 cells:List Int
 seq:Int
deriving DecidableEq
def entZ:Ent:=⟨[0,0,0,0,0,0,0,0],0⟩
structure Mrk where
 on:Bool
 old:List Ent
 kept:List Bool
def keepsS (m:Mrk) (l:List Ent) (i:Int):Prop:=m.on=true∧0≤i∧i < l.length∧i < m.kept.length∧m.kept[i.toNat]? = some false
instance (m:Mrk) (l:List Ent) (i:Int):Decidable (keepsS m l i):=by unfold keepsS;infer_instance
def keepS (m:Mrk) (l:List Ent) (i:Int):Mrk:=if keepsS m l i then ⟨m.on,m.old.set i.toNat (l[i.toNat]?.getD entZ),m.kept.set i.toNat true⟩ else m
theorem keepS_on (m:Mrk) (l:List Ent) (i:Int):(keepS m l i).on=m.on:=by
 unfold keepS
 split <;> rfl
end
section
def blocksN (c:Cmd):List Int:=c.reads ++ c.writes
def loadT (l:List Ent) (c:Cmd):Blks:=(blocksN c).map fun i=>(l[i.toNat]?.getD entZ).cells
def wAt (c:Cmd) (i:Nat):Nat:=(c.writes[i]?.getD 0).toNat
def stT (l:List Ent) (c:Cmd) (own:Blks) (s:Int):Nat→List Ent
 | 0=>l
 | i + 1=>(stT l c own s i).set (wAt c i) ⟨own[c.reads.length + i]?.getD [],s⟩
def storeT (l:List Ent) (c:Cmd) (own:Blks) (s:Int):List Ent:=stT l c own s c.writes.length
def fitsT (c:Cmd) (n:Nat):Prop:=(∀ x∈c.reads,x < n)∧∀ x∈c.writes,x < n
theorem risesT_ge:∀ {l:List Int} {z:Int},risesN l z→∀ x∈l,z≤x
 | [],_,_,x,hx=>by simp at hx
 | y :: l,z,h,x,hx=>by
  rcases List.mem_cons.1 hx with rfl | hx
  ·exact h.1
  ·have:=risesT_ge h.2 x hx
   have:=h.1
   omega
theorem risesT_lt:∀ {l:List Int} {z:Int},risesN l z→∀ {i j:Nat} (hij:i < j) (hj:j < l.length),l[i]'(by omega) < l[j]
 | [],_,_,i,j,_,hj=>by simp at hj
 | y :: l,z,h,i,j,hij,hj=>by
  obtain ⟨j,rfl⟩:∃ k,j=k + 1:=⟨j - 1,by omega⟩
  cases i with
  | zero=>
   have:=risesT_ge h.2 (l[j]'(by simpa using hj)) (List.getElem_mem _)
   simp only [List.getElem_cons_zero,List.getElem_cons_succ]
   omega
  | succ i=>
   simp only [List.getElem_cons_succ]
   exact risesT_lt h.2 (by omega) (by simpa using hj)
theorem wAt_ne {c:Cmd} (h:setsN c) {i j:Nat} (hi:i < c.writes.length) (hj:j < c.writes.length) (e:i≠j):wAt c i≠wAt c j:=by
 have key:∀ {i j:Nat},i < j→(hj:j < c.writes.length)→wAt c i≠wAt c j:=fun {i j} hij hj=>by
  have h1:=risesT_lt h.2.1 hij hj
  have h2:=risesT_ge h.2.1 (c.writes[i]'(by omega)) (List.getElem_mem _)
  unfold wAt
  rw [List.getElem?_eq_getElem (by omega),List.getElem?_eq_getElem hj]
  simp only [Option.getD_some]
  omega
 rcases Nat.lt_or_gt_of_ne e with g | g
 ·exact key g hj
 ·exact (key g hi).symm
theorem wAt_lt {c:Cmd} {n:Nat} (h:setsN c) (hf:fitsT c n) {i:Nat} (hi:i < c.writes.length):wAt c i < n:=by
 have h1:=risesT_ge h.2.1 c.writes[i] (List.getElem_mem _)
 have h2:=hf.2 c.writes[i] (List.getElem_mem _)
 unfold wAt
 rw [List.getElem?_eq_getElem hi]
 simp only [Option.getD_some]
 omega
theorem wAt_mem {c:Cmd} {j:Nat} (hj:(j:Int)∈c.writes):∃ i,i < c.writes.length∧wAt c i=j:=by
 obtain ⟨i,hi,e⟩:=List.getElem_of_mem hj
 exact ⟨i,hi,by unfold wAt;rw [List.getElem?_eq_getElem hi,Option.getD_some,e];rfl⟩
theorem wAt_cast {c:Cmd} (h:setsN c) {i:Nat} (hi:i < c.writes.length):((wAt c i:Nat):Int)=c.writes[i]:=by
 have h1:=risesT_ge h.2.1 c.writes[i] (List.getElem_mem _)
 unfold wAt
 rw [List.getElem?_eq_getElem hi]
 simp only [Option.getD_some]
 omega
section
variable {l:List Ent} {c:Cmd} {own:Blks} {s:Int}
theorem st_length:∀ i,(stT l c own s i).length=l.length
 | 0=>rfl
 | i + 1=>by rw [stT,List.length_set,st_length i]
theorem st_other {j:Nat}:∀ i,(∀ k,k < i→wAt c k≠j)→(stT l c own s i)[j]? = l[j]?
 | 0,_=>rfl
 | i + 1,h=>by
  rw [stT,List.getElem?_set_ne (h i (by omega))]
  exact st_other i (fun k hk=>h k (by omega))
theorem st_at (h:setsN c) {k:Nat} (hl:wAt c k < l.length):∀ i,k < i→i≤c.writes.length→(stT l c own s i)[wAt c k]? = some ⟨own[c.reads.length + k]?.getD [],s⟩
 | 0,hk,_=>by omega
 | i + 1,hk,hi=>by
  rw [stT]
  by_cases e:k=i
  ·rw [e] at hl ⊢
   rw [List.getElem?_set_self (by rw [st_length];exact hl)]
  ·rw [List.getElem?_set_ne (wAt_ne h (by omega) (by omega) (by omega))]
   exact st_at h hl i (by omega) (by omega)
theorem store_length:(storeT l c own s).length=l.length:=st_length _
theorem store_writes (h:setsN c) (hf:fitsT c l.length) {k:Nat} (hk:k < c.writes.length):(storeT l c own s)[wAt c k]? = some ⟨own[c.reads.length + k]?.getD [],s⟩:=st_at h (wAt_lt h hf hk) _ hk (Nat.le_refl _)
theorem store_other (h:setsN c) {j:Nat} (hj:(j:Int) ∉ c.writes):(storeT l c own s)[j]? = l[j]?:=st_other _ fun k hk e=>hj (by rw [← e,wAt_cast h hk];exact List.getElem_mem _)
theorem load_length:(loadT l c).length=c.reads.length + c.writes.length:=by simp [loadT,blocksN]
theorem load_same {m:List Ent} (h:∀ x∈blocksN c,l[x.toNat]? = m[x.toNat]?):loadT l c=loadT m c:=by
 unfold loadT
 apply List.map_congr_left
 intro x hx
 rw [h x hx]
end
def applyT (l:List Ent) (c:Cmd) (s:Int) (r:Mac × Blks):List Ent:=if r.1.told=0 then storeT l c r.2 s else l
theorem apply_length (l:List Ent) (c:Cmd) (s:Int) (r:Mac × Blks):(applyT l c s r).length=l.length:=by
 unfold applyT
 split
 ·exact store_length
 ·rfl
end
section
theorem hasS_split (K:Keys) (s:Int):hasS (grK K) s=true↔∃ pre e post,K=pre ++ (s,e) :: post∧(pre=[]∨(e=false∧∀ x∈pre,x.2=false)):=by
 rw [hasS_gr]
 constructor
 ·rintro ⟨i,hi,hs,hh⟩
  rw [has_one hi,Bool.or_eq_true,decide_eq_true_eq,Bool.and_eq_true] at hh
  refine ⟨K.take i,(keyAt K i).2,K.drop (i + 1),?_,?_⟩
  ·rw [← hs,show ((keyAt K i).1,(keyAt K i).2)=K[i] by rw [keyAt_lt hi],← List.drop_eq_getElem_cons hi,List.take_append_drop]
  ·rcases hh with rfl | ⟨h1,h2⟩
   ·exact .inl rfl
   ·refine .inr ⟨by simpa using h2,fun x hx=>?_⟩
    unfold freeK at h1
    rw [List.all_eq_true] at h1
    simpa using h1 x hx
 ·rintro ⟨pre,e,post,rfl,h⟩
  have hat:keyAt (pre ++ (s,e) :: post) pre.length=(s,e):=by
   unfold keyAt
   rw [List.getElem?_append_right (Nat.le_refl _),Nat.sub_self]
   rfl
  refine ⟨pre.length,by simp,by rw [hat],?_⟩
  rw [has_one (by simp),hat]
  rcases h with rfl | ⟨rfl,h⟩
  ·rfl
  ·rw [Bool.or_eq_true]
   refine .inr ?_
   unfold freeK
   rw [List.take_left,Bool.not_false,Bool.and_true,List.all_eq_true]
   intro x hx
   simpa using h x hx
theorem has_less {K:Keys} {s t:Int} (h:s≠t) (hh:hasS (grK K) s=true):hasS (grK (K.filter fun x=>decide (x.1≠t))) s=true:=by
 rw [hasS_split] at hh ⊢
 obtain ⟨pre,e,post,rfl,hp⟩:=hh
 refine ⟨pre.filter fun x=>decide (x.1≠t),e,post.filter fun x=>decide (x.1≠t),?_,?_⟩
 ·rw [List.filter_append,List.filter_cons_of_pos (by simpa using h)]
 ·rcases hp with rfl | ⟨he,hp⟩
  ·exact .inl rfl
  ·exact .inr ⟨he,fun x hx=>hp x (List.mem_filter.1 hx).1⟩
def lockOf (c:Cmd) (b:Nat):Option Bool:=if (b:Int)∈c.reads then some false else if (b:Int)∈c.writes then some true else none
abbrev Who:=List (Int × Cmd)
def wantOf (x:Int × Cmd) (b:Nat):Keys:=match lockOf x.2 b with
 | none=>[]
 | some e=>[(x.1,e)]
def lineOf (w:Who) (b:Nat):Keys:=w.flatMap fun x=>wantOf x b
theorem line_more (w:Who) (x:Int × Cmd) (b:Nat):lineOf (w ++ [x]) b=lineOf w b ++ wantOf x b:=by
 simp [lineOf,List.flatMap_append]
theorem line_less (w:Who) (s:Int) (b:Nat):lineOf (w.filter fun x=>decide (x.1≠s)) b=(lineOf w b).filter fun x=>decide (x.1≠s):=by
 unfold lineOf
 induction w with
 | nil=>rfl
 | cons x w ih=>
  by_cases h:x.1=s
  ·rw [List.filter_cons_of_neg (by simpa using h),ih,List.flatMap_cons,List.filter_append]
   have:(wantOf x b).filter (fun x=>decide (x.1≠s))=[]:=by
    unfold wantOf
    split
    ·rfl
    ·rw [List.filter_cons_of_neg (by simpa using h)]
     rfl
   rw [this,List.nil_append]
  ·rw [List.filter_cons_of_pos (by simpa using h),List.flatMap_cons,List.flatMap_cons,ih,List.filter_append]
   have:(wantOf x b).filter (fun x=>decide (x.1≠s))=wantOf x b:=by
    unfold wantOf
    split
    ·rfl
    ·rw [List.filter_cons_of_pos (by simpa using h)]
     rfl
   rw [this]
theorem line_mem {w:Who} {b:Nat} {k:Int × Bool} (h:k∈lineOf w b):∃ x∈w,x.1=k.1∧lockOf x.2 b=some k.2:=by
 obtain ⟨x,hx,hk⟩:=List.mem_flatMap.1 h
 unfold wantOf at hk
 split at hk
 ·simp at hk
 ·next e he=>
  rw [List.mem_singleton] at hk
  exact ⟨x,hx,by rw [hk],by rw [he,hk]⟩
theorem mem_line {w:Who} {b:Nat} {x:Int × Cmd} {e:Bool} (hx:x∈w) (h:lockOf x.2 b=some e):(x.1,e)∈lineOf w b:=by
 refine List.mem_flatMap.2 ⟨x,hx,?_⟩
 unfold wantOf
 rw [h]
 exact List.mem_singleton.2 rfl
theorem lock_some {c:Cmd} {b:Nat} (h:(b:Int)∈blocksN c):∃ e,lockOf c b=some e:=by
 unfold lockOf
 split
 ·exact ⟨_,rfl⟩
 ·next hr=>
  have:(b:Int)∈c.writes:=(List.mem_append.1 h).resolve_left hr
  rw [if_pos this]
  exact ⟨_,rfl⟩
theorem lock_none {c:Cmd} {b:Nat} (h:(b:Int) ∉ blocksN c):lockOf c b=none:=by
 unfold lockOf
 rw [if_neg (fun g=>h (List.mem_append_left _ g)),if_neg (fun g=>h (List.mem_append_right _ g))]
theorem lock_write {c:Cmd} (hc:setsN c) {b:Nat} (h:(b:Int)∈c.writes):lockOf c b=some true:=by
 unfold lockOf
 rw [if_neg (fun g=>hc.2.2 _ g h),if_pos h]
def readyN (w:Who) (s:Int) (c:Cmd):Prop:=∀ b:Nat,(b:Int)∈blocksN c→hasS (grK (lineOf w b)) s=true
theorem ready_less {w:Who} {t s:Int} {c:Cmd} (h:s≠t) (hr:readyN w s c):readyN (w.filter fun x=>decide (x.1≠t)) s c:=fun b hb=>by
 rw [line_less]
 exact has_less h (hr b hb)
theorem line_other {w:Who} {s:Int} {c:Cmd} (hw:∀ x∈w,x.1=s→x.2=c) {b:Nat} (hb:(b:Int) ∉ blocksN c):lineOf (w.filter fun x=>decide (x.1≠s)) b=lineOf w b:=by
 rw [line_less]
 refine filter_apart fun k hk e=>?_
 obtain ⟨x,hx,e1,e2⟩:=line_mem hk
 rw [hw x hx (by rw [e1,e]),lock_none hb] at e2
 cases e2
end
section
structure Tsk where
 seq:Int
 cmd:Cmd
 m:Mac
 own:Blks
 worker:Int
def findP (l:List Tsk) (s:Int):Option Nat:=l.findIdx? fun t=>decide (t.seq=s)
def ofP (l:List Tsk) (w:Int):Option Nat:=l.findIdx? fun t=>decide (0≤w∧t.worker=w)
def withoutP (l:List Tsk) (i:Nat):List Tsk:=l.take i ++ l.drop (i + 1)
def whoP (l:List Tsk):Who:=l.map fun t=>(t.seq,t.cmd)
def readyB (w:Who) (s:Int) (c:Cmd):Bool:=(blocksN c).all fun b=>hasS (grK (lineOf w b.toNat)) s
theorem blocks_nonneg {c:Cmd} (h:setsN c) {x:Int} (hx:x∈blocksN c):0≤x:=by
 rcases List.mem_append.1 hx with hx | hx
 ·exact risesT_ge h.1 x hx
 ·exact risesT_ge h.2.1 x hx
theorem readyB_iff {w:Who} {s:Int} {c:Cmd} (h:setsN c):readyB w s c=true↔readyN w s c:=by
 unfold readyB readyN
 rw [List.all_eq_true]
 constructor
 ·intro q b hb
  have:=q _ hb
  rwa [Int.toNat_natCast] at this
 ·intro q x hx
  obtain ⟨b,rfl⟩:=Int.eq_ofNat_of_zero_le (blocks_nonneg h hx)
  rw [Int.toNat_natCast]
  exact q b hx
theorem whoP_set {l:List Tsk} {i:Nat} {t u:Tsk} (h:l[i]? = some t) (h1:u.seq=t.seq) (h2:u.cmd=t.cmd):whoP (l.set i u)=whoP l:=by
 unfold whoP
 apply List.ext_getElem?
 intro j
 rw [List.getElem?_map,List.getElem?_map]
 by_cases e:i=j
 ·subst e
  have hi:i < l.length:=(List.getElem?_eq_some_iff.1 h).1
  rw [List.getElem?_set_self hi,h]
  simp [h1,h2]
 ·rw [List.getElem?_set_ne e]
def risesW (w:Who):Prop:=w.Pairwise fun a b=>a.1 < b.1
theorem rises_one {w:Who} (h:risesW w) {x y:Int × Cmd} (hx:x∈w) (hy:y∈w) (e:x.1=y.1):x=y:=by
 unfold risesW at h
 induction w with
 | nil=>simp at hx
 | cons z w ih=>
  rw [List.pairwise_cons] at h
  rcases List.mem_cons.1 hx with hx | hx <;> rcases List.mem_cons.1 hy with hy | hy
  ·rw [hx,hy]
  ·have:=h.1 y hy
   rw [hx] at e
   omega
  ·have:=h.1 x hx
   rw [hy] at e
   omega
  ·exact ih h.2 hx hy
theorem whoP_without {l:List Tsk} (h:risesW (whoP l)) {i:Nat} {t:Tsk} (ht:l[i]? = some t):whoP (withoutP l i)=(whoP l).filter fun x=>decide (x.1≠t.seq):=by
 obtain ⟨hi,hit⟩:=List.getElem?_eq_some_iff.1 ht
 have hs:l=l.take i ++ t :: l.drop (i + 1):=by
  conv=>lhs;rw [← List.take_append_drop i l,List.drop_eq_getElem_cons hi,hit]
 have hw:whoP l=whoP (l.take i) ++ (t.seq,t.cmd) :: whoP (l.drop (i + 1)):=by
  conv=>lhs;rw [hs]
  simp [whoP]
 have hr:=h
 unfold risesW at hr
 rw [hw,List.pairwise_append,List.pairwise_cons] at hr
 obtain ⟨-,⟨h2,-⟩,h3⟩:=hr
 have f1:(whoP (l.take i)).filter (fun x=>decide (x.1≠t.seq))=whoP (l.take i):=by
  rw [List.filter_eq_self]
  intro x hx
  have:=h3 x hx (t.seq,t.cmd) (List.mem_cons_self ..)
  simp only at this
  simp
  omega
 have f2:(whoP (l.drop (i + 1))).filter (fun x=>decide (x.1≠t.seq))=whoP (l.drop (i + 1)):=by
  rw [List.filter_eq_self]
  intro x hx
  have:=h2 x hx
  simp only at this
  simp
  omega
 rw [hw,List.filter_append,List.filter_cons_of_neg (by simp),f1,f2]
 simp [whoP,withoutP]
theorem whoP_mem {l:List Tsk} {t:Tsk} (h:t∈l):(t.seq,t.cmd)∈whoP l:=List.mem_map.2 ⟨t,h,rfl⟩
def cmd0:Cmd:=⟨[],[],[],0,[]⟩
def cmAt (cs:List Cmd) (k:Nat):Cmd:=cs[k]?.getD cmd0
theorem cmAt_lt {cs:List Cmd} {k:Nat} (h:k < cs.length):cmAt cs k=cs[k]:=by simp [cmAt,h]
theorem cmAt_mem {cs:List Cmd} {k:Nat} (h:k < cs.length):cmAt cs k∈cs:=by
 rw [cmAt_lt h]
 exact List.getElem_mem _
def wholeM (c:Cmd) (own:Blks):Mac × Blks:=stepsM c (c.fuel.toNat + 1) (newM c,own)
def serT (cs:List Cmd) (b0:List Ent):Nat→List Ent
 | 0=>b0
 | k + 1=>applyT (serT cs b0 k) (cmAt cs k) ((k:Int) + 1) (wholeM (cmAt cs k) (loadT (serT cs b0 k) (cmAt cs k)))
structure Rst where
 seq:Int
 told:Nat
 out:List Int
def resT (cs:List Cmd) (b0:List Ent) (k:Nat):Rst:=
 ⟨(k:Int) + 1,(wholeM (cmAt cs k) (loadT (serT cs b0 k) (cmAt cs k))).1.told,(wholeM (cmAt cs k) (loadT (serT cs b0 k) (cmAt cs k))).1.out⟩
theorem ser_length (cs:List Cmd) (b0:List Ent):∀ k,(serT cs b0 k).length=b0.length
 | 0=>rfl
 | k + 1=>by rw [serT,apply_length,ser_length cs b0 k]
def goodT (l:List Ent):Prop:=∀ e∈l,e.cells.length=8
theorem load_good {l:List Ent} {c:Cmd} (h:goodT l) (hs:setsN c) (hf:fitsT c l.length):∀ b∈loadT l c,b.length=8:=by
 intro b hb
 obtain ⟨x,hx,rfl⟩:=List.mem_map.1 hb
 have h0:=blocks_nonneg hs hx
 have hl:x < l.length:=by
  rcases List.mem_append.1 hx with hx | hx
  ·exact hf.1 x hx
  ·exact hf.2 x hx
 rw [List.getElem?_eq_getElem (show x.toNat < l.length by omega)]
 exact h _ (List.getElem_mem _)
theorem store_good {l:List Ent} {c:Cmd} {own:Blks} {s:Int} (h:goodT l) (h8:∀ b∈own,b.length=8) (hn:own.length=c.reads.length + c.writes.length):goodT (storeT l c own s):=by
 have key:∀ i,i≤c.writes.length→goodT (stT l c own s i):=by
  intro i
  induction i with
  | zero=>exact fun _=>h
  | succ i ih=>
   intro hi e he
   rw [stT] at he
   rcases List.mem_or_eq_of_mem_set he with he | rfl
   ·exact ih (by omega) e he
   ·show (own[c.reads.length + i]?.getD []).length=8
    rw [List.getElem?_eq_getElem (by omega)]
    exact h8 _ (List.getElem_mem _)
 exact key _ (Nat.le_refl _)
theorem whole_is {c:Cmd} {own:Blks} (hm:MayBe c) (hn:own.length=c.reads.length + c.writes.length) (h8:∀ b∈own,b.length=8) :
  (wholeM c own).1.over=true∧(∀ b∈(wholeM c own).2,b.length=8)∧(wholeM c own).2.length=c.reads.length + c.writes.length:=by
 obtain ⟨d,hd⟩:=hm.depths
 obtain ⟨-,-,-,-,f5,f6⟩:=hm.few
 have h0:=new_ok hm hd hn h8
 obtain ⟨n,hn1,he⟩:=ends hm hd c.fuel.toNat (newM c,own) h0 (by show c.fuel=_;omega)
 have hk:=steps_ok hm hd (r:=(newM c,own)) h0 (c.fuel.toNat + 1)
 refine ⟨?_,hk.cells,hk.many⟩
 obtain ⟨j,hj⟩:=Nat.exists_eq_add_of_le hn1
 unfold wholeM
 rw [hj,steps_add,steps_over he.over]
 exact he.over
theorem whole_over {c:Cmd} {own:Blks} (hm:MayBe c) (hn:own.length=c.reads.length + c.writes.length) (h8:∀ b∈own,b.length=8) {k:Nat} (h:(stepsM c k (newM c,own)).1.over=true):stepsM c k (newM c,own)=wholeM c own:=
 over_same h (whole_is hm hn h8).1
theorem ser_good {cs:List Cmd} {b0:List Ent} (hcs:∀ c∈cs,MayBe c∧fitsT c b0.length) (h:goodT b0):∀ k,k≤cs.length→goodT (serT cs b0 k)
 | 0,_=>h
 | k + 1,hk=>by
  have ih:=ser_good hcs h k (by omega)
  obtain ⟨hm,hf⟩:=hcs _ (cmAt_mem (show k < cs.length by omega))
  rw [← ser_length cs b0 k] at hf
  obtain ⟨-,w2,w3⟩:=whole_is hm (load_length (l:=serT cs b0 k)) (load_good ih hm.sets hf)
  rw [serT,applyT]
  split
  ·exact store_good ih w2 w3
  ·exact ih
theorem ser_other {cs:List Cmd} {b0:List Ent} (hcs:∀ c∈cs,MayBe c∧fitsT c b0.length) {b i:Nat}:∀ j,i≤j→j≤cs.length→(∀ k,i≤k→k < j→(b:Int) ∉ (cmAt cs k).writes)→(serT cs b0 j)[b]? = (serT cs b0 i)[b]?
 | j,hij,hj,h=>by
  by_cases e:i=j
  ·rw [e]
  ·obtain ⟨k,rfl⟩:∃ k,j=k + 1:=⟨j - 1,by omega⟩
   rw [serT,applyT]
   have ih:=ser_other hcs (b:=b) (i:=i) k (by omega) (by omega) (fun q h1 h2=>h q h1 (by omega))
   split
   ·rw [store_other (hcs _ (cmAt_mem (show k < cs.length by omega))).1.sets (h k (by omega) (by omega))]
    exact ih
   ·exact ih
end
section
def idxP {α:Type} (p:α→Bool) (l:List α):Int:=if l.findIdx p < l.length then ((l.findIdx p:Nat):Int) else -1
theorem findIdx_at {α:Type} (p:α→Bool):∀ (l:List α) (i:Nat),i≤l.length→(∀ j x,j < i→l[j]? = some x→p x=false)→(∀ x,l[i]? = some x→p x=true)→l.findIdx p=i
 | [],i,hi,_,_=>by simp at hi;simp [hi]
 | y :: l,0,_,_,h=>by
  have:=h y rfl
  simp [List.findIdx_cons,this]
 | y :: l,i + 1,hi,h1,h2=>by
  have hy:=h1 0 y (by omega) rfl
  have ih:=findIdx_at p l i (by simpa using hi) (fun j x hj hx=>h1 (j + 1) x (by omega) (by simpa using hx)) (fun x hx=>h2 x (by simpa using hx))
  simp [List.findIdx_cons,hy,ih]
theorem idxP_at {α:Type} {p:α→Bool} {l:List α} {i:Nat} {x:α} (hx:l[i]? = some x) (hp:p x=true) (h:∀ j y,j < i→l[j]? = some y→p y=false):idxP p l=(i:Int):=by
 have hi:i < l.length:=by
  rcases Nat.lt_or_ge i l.length with h | h
  ·exact h
  ·rw [List.getElem?_eq_none h] at hx;cases hx
 have:=findIdx_at p l i (by omega) h (fun y hy=>by rw [hx] at hy;injection hy with hy;rw [← hy];exact hp)
 unfold idxP
 rw [this,if_pos hi]
theorem idxP_none {α:Type} {p:α→Bool} {l:List α} (h:∀ j y,j < l.length→l[j]? = some y→p y=false):idxP p l=-1:=by
 have:=findIdx_at p l l.length (Nat.le_refl _) h (fun y hy=>by rw [List.getElem?_eq_none (Nat.le_refl _)] at hy;cases hy)
 unfold idxP
 rw [this,if_neg (by omega)]
theorem idxP_is {α:Type} (p:α→Bool) (l:List α):(idxP p l=-1∧∀ x∈l,p x=false)∨∃ i x,idxP p l=((i:Nat):Int)∧i < l.length∧l[i]? = some x∧p x=true∧∀ j y,j < i→l[j]? = some y→p y=false:=by
 induction l with
 | nil=>exact .inl ⟨rfl,by simp⟩
 | cons y l ih=>
  cases hy:p y with
  | true=>exact .inr ⟨0,y,idxP_at (i:=0) rfl hy (by omega),by simp,rfl,hy,by omega⟩
  | false=>
   rcases ih with ⟨-,h⟩ | ⟨i,x,-,h2,h3,h4,h5⟩
   ·have ha:∀ x∈y :: l,p x=false:=fun x hx=>by
     rcases List.mem_cons.1 hx with rfl | hx
     ·exact hy
     ·exact h x hx
    exact .inl ⟨idxP_none fun j z _ hz=>ha z (List.mem_of_getElem? hz),ha⟩
   ·have h5':∀ j z,j < i + 1→(y :: l)[j]? = some z→p z=false:=fun j z hj hz=>by
     cases j with
     | zero=>simp at hz;rw [← hz];exact hy
     | succ j=>exact h5 j z (by omega) (by simpa using hz)
    exact .inr ⟨i + 1,x,idxP_at (i:=i + 1) (by simpa using h3) h4 h5',by simpa using h2,by simpa using h3,h4,h5'⟩
theorem idxP_any {α:Type} (p:α→Bool) (l:List α):decide (0≤idxP p l)=l.any p:=by
 rcases idxP_is p l with ⟨h1,h2⟩ | ⟨i,x,h1,-,h3,h4,-⟩
 ·rw [h1,List.any_eq_false.2 (fun x hx=>by rw [h2 x hx];decide)]
  rfl
 ·rw [h1,List.any_eq_true.2 ⟨x,List.mem_of_getElem? h3,h4⟩]
  exact decide_eq_true (by omega)
def havW (l:List Wnt):Nat:=if idxP Wnt.excl l < 0 then l.length else max (idxP Wnt.excl l).toNat 1
theorem havW_le (l:List Wnt):havW l≤l.length:=by
 unfold havW
 rcases idxP_is Wnt.excl l with ⟨h1,h2⟩ | ⟨i,x,h1,h2,-⟩
 ·rw [h1,if_pos (by omega)]
  exact Nat.le_refl _
 ·rw [h1,if_neg (by omega),Int.toNat_natCast]
  omega
theorem keyAt_keys {l:List Wnt} {i:Nat} {x:Wnt} (h:l[i]? = some x):keyAt (keysN l) i=(x.seq,x.excl):=by
 unfold keyAt keysN
 rw [List.getElem?_map,h]
 rfl
theorem keys_length (l:List Wnt):(keysN l).length=l.length:=by simp [keysN]
theorem free_of {l:List Wnt}:∀ {i:Nat},i≤l.length→(∀ j y,j < i→l[j]? = some y→y.excl=false)→freeK (keysN l) i=true
 | 0,_,_=>rfl
 | i + 1,hi,h=>by
  have hx:l[i]? = some l[i]:=List.getElem?_eq_getElem (by omega)
  rw [free_succ (by rw [keys_length];omega),free_of (i:=i) (by omega) (fun j y hj hy=>h j y (by omega) hy),keyAt_keys hx,h i _ (by omega) hx]
  rfl
theorem hav_has {l:List Wnt} {i:Nat} (hi:i < l.length):hasK (keysN l) i=decide (i < havW l):=by
 unfold havW
 have hi':i < (keysN l).length:=by rw [keys_length];exact hi
 rcases idxP_is Wnt.excl l with ⟨h1,h2⟩ | ⟨k,x,h1,h2,h3,h4,h5⟩
 ·rw [h1,if_pos (by omega)]
  unfold hasK
  rw [free_of (by omega) fun j y _ hy=>h2 y (List.mem_of_getElem? hy),Bool.or_true]
  exact (decide_eq_true hi).symm
 ·rw [h1,if_neg (by omega),Int.toNat_natCast]
  by_cases hik:i < k
  ·unfold hasK
   rw [free_of (by omega) fun j y hj hy=>h5 j y (by omega) hy,Bool.or_true]
   exact (decide_eq_true (by omega)).symm
  ·by_cases h0:i=0
   ·rw [h0,has_zero]
    exact (decide_eq_true (by omega)).symm
   ·rw [has_one hi',decide_eq_false h0,Bool.false_or]
    have hf:(freeK (keysN l) i && !(keyAt (keysN l) i).2)=false:=by
     by_cases he:i=k
     ·subst he
      rw [keyAt_keys h3,h4]
      simp
     ·cases hf:freeK (keysN l) i with
      | false=>rfl
      | true=>
       have:=free_le (show k + 1≤i by omega) (by omega) hf
       rw [free_succ (by rw [keys_length];omega),keyAt_keys h3,h4] at this
       simp at this
    rw [hf]
    exact (decide_eq_false (by omega)).symm
theorem hav_one {l:List Wnt} (h:0 < l.length):0 < havW l:=by
 have h1:=hav_has h
 rw [has_zero] at h1
 exact of_decide_eq_true h1.symm
def toldW (l:List Wnt) (i:Nat):List Wnt:=(grK (keysN l)).take i ++ l.drop i
theorem gr_length (l:List Wnt):(grK (keysN l)).length=l.length:=by rw [grK_length,keys_length]
theorem gr_at {l:List Wnt} {i:Nat} {x:Wnt} (hx:l[i]? = some x):(grK (keysN l))[i]? = some ⟨x.seq,x.excl,decide (i < havW l)⟩:=by
 have hi:i < l.length:=by
  rcases Nat.lt_or_ge i l.length with h | h
  ·exact h
  ·rw [List.getElem?_eq_none h] at hx;cases hx
 rw [grK_at (by rw [keys_length];exact hi),keyAt_keys hx,hav_has hi]
theorem toldW_zero (l:List Wnt):toldW l 0=l:=by simp [toldW]
theorem toldW_all (l:List Wnt):toldW l l.length=grK (keysN l):=by
 unfold toldW
 rw [List.drop_length,List.append_nil,List.take_of_length_le (by rw [gr_length];exact Nat.le_refl _)]
theorem toldW_at {l:List Wnt} {i:Nat} {x:Wnt} (hx:l[i]? = some x):(toldW l i)[i]? = some x:=by
 have hi:i < l.length:=by
  rcases Nat.lt_or_ge i l.length with h | h
  ·exact h
  ·rw [List.getElem?_eq_none h] at hx;cases hx
 unfold toldW
 have hl:((grK (keysN l)).take i).length=i:=by rw [List.length_take,gr_length];omega
 rw [List.getElem?_append_right (by omega),hl,Nat.sub_self,List.getElem?_drop,Nat.add_zero,hx]
theorem toldW_succ {l:List Wnt} {i:Nat} {x:Wnt} (hx:l[i]? = some x):(toldW l i).set i ⟨x.seq,x.excl,decide (i < havW l)⟩=toldW l (i + 1):=by
 have hi:i < l.length:=by
  rcases Nat.lt_or_ge i l.length with h | h
  ·exact h
  ·rw [List.getElem?_eq_none h] at hx;cases hx
 have hl:((grK (keysN l)).take i).length=i:=by rw [List.length_take,gr_length];omega
 have hg:=gr_at hx
 have hd:l.drop i=x :: l.drop (i + 1):=by
  rw [List.getElem?_eq_getElem hi] at hx
  injection hx with hx
  rw [← hx]
  exact List.drop_eq_getElem_cons hi
 unfold toldW
 rw [hd,List.set_append_right _ _ (by omega),hl,Nat.sub_self,List.set_cons_zero,List.take_add_one,hg,List.append_assoc]
 rfl
def hasO (l:List Wnt) (s:Int):Bool:=(l.take (havW l)).any fun x=>decide (x.seq=s)
theorem hasO_eq (l:List Wnt) (s:Int):hasO l s=hasS (grK (keysN l)) s:=by
 rw [Bool.eq_iff_iff,hasS_gr]
 unfold hasO
 rw [List.any_eq_true]
 constructor
 ·rintro ⟨x,hx,hs⟩
  obtain ⟨i,hi⟩:=List.getElem?_of_mem hx
  have hlt:i < havW l:=by
   rcases Nat.lt_or_ge i (havW l) with h | h
   ·exact h
   ·rw [List.getElem?_eq_none (by rw [List.length_take];omega)] at hi;cases hi
  have hl:=havW_le l
  rw [List.getElem?_take,if_pos hlt] at hi
  refine ⟨i,by rw [keys_length];omega,?_,?_⟩
  ·rw [keyAt_keys hi]
   exact of_decide_eq_true hs
  ·rw [hav_has (by omega)]
   exact decide_eq_true hlt
 ·rintro ⟨i,hi,hs,hh⟩
  rw [keys_length] at hi
  have hx:l[i]? = some l[i]:=List.getElem?_eq_getElem hi
  rw [hav_has hi] at hh
  have hlt:=of_decide_eq_true hh
  rw [keyAt_keys hx] at hs
  refine ⟨l[i],?_,decide_eq_true hs⟩
  refine List.mem_of_getElem? (i:=i) ?_
  rw [List.getElem?_take,if_pos hlt,hx]
theorem hasO_gr (K:Keys) (s:Int):hasO (grK K) s=hasS (grK K) s:=by rw [hasO_eq,keys_gr]
def goneW (l:List Wnt) (s:Int):List Wnt:=l.filter fun x=>decide (x.seq≠s)
theorem give_gone (l:List Wnt) (s:Int):grK (keysN (goneW l s))=giveN l s:=by
 unfold giveN goneW keysN
 rw [List.filter_map]
 rfl
theorem ask_more (l:List Wnt) (s:Int) (e h:Bool):grK (keysN (l ++ [⟨s,e,h⟩]))=askN l s e:=by
 unfold askN keysN
 rw [List.map_append]
 rfl
theorem askN_length (l:List Wnt) (s:Int) (e:Bool):(askN l s e).length=l.length + 1:=by unfold askN;rw [grK_length];simp [keysN]
theorem giveN_length (l:List Wnt) (s:Int):(giveN l s).length≤l.length:=by
 unfold giveN
 rw [grK_length]
 exact Nat.le_trans (List.length_filter_le _ _) (by simp [keysN])
theorem askN_told (l:List Wnt) (s:Int) (e:Bool):grK (keysN (l ++ [⟨s,e,false⟩]))=askN l s e:=ask_more l s e false
end
section
abbrev Lks:=List (List Wnt)
def lkAt (L:Lks) (b:Nat):List Wnt:=L[b]?.getD []
def turnL (f:List Wnt→List Wnt) (L:Lks) (b:Int):Lks:=L.set b.toNat (f (lkAt L b.toNat))
def turnsL (f:List Wnt→List Wnt) (bs:List Int) (L:Lks):Nat→Lks
 | 0=>L
 | k + 1=>turnL f (turnsL f bs L k) (bs[k]?.getD 0)
theorem turns_length (f:List Wnt→List Wnt) (bs:List Int) (L:Lks):∀ k,(turnsL f bs L k).length=L.length
 | 0=>rfl
 | k + 1=>by rw [turnsL,turnL,List.length_set,turns_length f bs L k]
theorem turns_at (f:List Wnt→List Wnt) {bs:List Int} (L:Lks) {z:Int} (hr:risesN bs z) (hz:0≤z):∀ k,k≤bs.length→∀ b:Nat,b < L.length→lkAt (turnsL f bs L k) b=if (b:Int)∈bs.take k then f (lkAt L b) else lkAt L b
 | 0,_,b,_=>by simp [turnsL]
 | k + 1,hk,b,hb=>by
  have ih:=turns_at f L hr hz k (by omega)
  have hx:bs[k]? = some bs[k]:=List.getElem?_eq_getElem (by omega)
  have h0:=risesT_ge hr bs[k] (List.getElem_mem _)
  rw [turnsL,turnL,hx,Option.getD_some]
  have hin:(b:Int)∈bs.take (k + 1)↔(b:Int)∈bs.take k∨(b:Int)=bs[k]:=by
   rw [List.take_add_one,hx,List.mem_append]
   simp
  by_cases e:bs[k].toNat=b
  ·have hb':(b:Int)=bs[k]:=by omega
   have hno:(b:Int) ∉ bs.take k:=by
    intro hm
    obtain ⟨i,hi,he⟩:=List.getElem_of_mem hm
    rw [List.length_take] at hi
    rw [List.getElem_take] at he
    have:=risesT_lt hr (show i < k by omega) (by omega)
    omega
   have h1:=ih b hb
   rw [if_neg hno] at h1
   rw [if_pos (hin.2 (.inr hb')),e]
   unfold lkAt at h1 ⊢
   rw [List.getElem?_set_self (by rw [turns_length];exact hb),Option.getD_some,h1]
  ·have hiff:((b:Int)∈bs.take (k + 1))=((b:Int)∈bs.take k):=by
    rw [hin]
    apply propext
    constructor
    ·rintro (h | h)
     ·exact h
     ·omega
    ·exact Or.inl
   simp only [hiff]
   rw [← ih b hb]
   unfold lkAt
   rw [List.getElem?_set_ne e]
def asksL (L:Lks) (c:Cmd) (s:Int):Lks:=turnsL (fun l=>askN l s true) c.writes (turnsL (fun l=>askN l s false) c.reads L c.reads.length) c.writes.length
def givesL (L:Lks) (c:Cmd) (s:Int):Lks:=turnsL (fun l=>giveN l s) c.writes (turnsL (fun l=>giveN l s) c.reads L c.reads.length) c.writes.length
def readyL (L:Lks) (c:Cmd) (s:Int):Bool:=(blocksN c).all fun b=>hasS (lkAt L b.toNat) s
theorem asks_length (L:Lks) (c:Cmd) (s:Int):(asksL L c s).length=L.length:=by unfold asksL;rw [turns_length,turns_length]
theorem gives_length (L:Lks) (c:Cmd) (s:Int):(givesL L c s).length=L.length:=by unfold givesL;rw [turns_length,turns_length]
theorem asks_at (L:Lks) {c:Cmd} (hc:setsN c) (s:Int) {b:Nat} (hb:b < L.length):lkAt (asksL L c s) b=match lockOf c b with
  | none=>lkAt L b
  | some e=>askN (lkAt L b) s e:=by
 unfold asksL
 rw [turns_at _ _ hc.2.1 (by omega) _ (Nat.le_refl _) b (by rw [turns_length];exact hb),turns_at _ _ hc.1 (by omega) _ (Nat.le_refl _) b hb,List.take_length,List.take_length]
 unfold lockOf
 by_cases h1:(b:Int)∈c.reads
 ·have h2:=hc.2.2 _ h1
  simp [h1,h2]
 ·by_cases h2:(b:Int)∈c.writes <;> simp [h1,h2]
theorem gives_at (L:Lks) {c:Cmd} (hc:setsN c) (s:Int) {b:Nat} (hb:b < L.length):lkAt (givesL L c s) b=match lockOf c b with
  | none=>lkAt L b
  | some _=>giveN (lkAt L b) s:=by
 unfold givesL
 rw [turns_at _ _ hc.2.1 (by omega) _ (Nat.le_refl _) b (by rw [turns_length];exact hb),turns_at _ _ hc.1 (by omega) _ (Nat.le_refl _) b hb,List.take_length,List.take_length]
 unfold lockOf
 by_cases h1:(b:Int)∈c.reads
 ·have h2:=hc.2.2 _ h1
  simp [h1,h2]
 ·by_cases h2:(b:Int)∈c.writes <;> simp [h1,h2]
def lksW (w:Who) (n:Nat):Lks:=(List.range n).map fun b=>grK (lineOf w b)
theorem lksW_length (w:Who) (n:Nat):(lksW w n).length=n:=by simp [lksW]
theorem lksW_at (w:Who) {n b:Nat} (h:b < n):lkAt (lksW w n) b=grK (lineOf w b):=by simp [lkAt,lksW,h]
theorem lks_ext {L M:Lks} (hl:L.length=M.length) (h:∀ b,b < L.length→lkAt L b=lkAt M b):L=M:=by
 apply List.ext_getElem hl
 intro b h1 h2
 have:=h b h1
 unfold lkAt at this
 rwa [List.getElem?_eq_getElem h1,List.getElem?_eq_getElem h2,Option.getD_some,Option.getD_some] at this
theorem lks_nil (n:Nat):lksW [] n=List.replicate n []:=by
 apply List.ext_getElem?
 intro i
 by_cases h:i < n
 ·simp [lksW,h,lineOf,gr_nil]
 ·simp [lksW,h]
theorem asks_W (w:Who) (n:Nat) {c:Cmd} (hc:setsN c) (s:Int):asksL (lksW w n) c s=lksW (w ++ [(s,c)]) n:=by
 refine lks_ext (by rw [asks_length,lksW_length,lksW_length]) fun b hb=>?_
 rw [asks_length,lksW_length] at hb
 rw [asks_at _ hc s (by rw [lksW_length];exact hb),lksW_at _ hb,lksW_at _ hb,line_more]
 unfold wantOf
 simp only
 cases lockOf c b with
 | none=>rw [List.append_nil]
 | some e=>
  simp only
  rw [ask_gr]
theorem gives_W {w:Who} (n:Nat) {c:Cmd} (hc:setsN c) {s:Int} (hw:∀ x∈w,x.1=s→x.2=c):givesL (lksW w n) c s=lksW (w.filter fun x=>decide (x.1≠s)) n:=by
 refine lks_ext (by rw [gives_length,lksW_length,lksW_length]) fun b hb=>?_
 rw [gives_length,lksW_length] at hb
 rw [gives_at _ hc s (by rw [lksW_length];exact hb),lksW_at _ hb,lksW_at _ hb]
 by_cases hm:(b:Int)∈blocksN c
 ·obtain ⟨e,he⟩:=lock_some hm
  rw [he]
  simp only
  rw [give_gr,line_less]
 ·rw [lock_none hm]
  simp only
  rw [line_other hw hm]
end
section
def pendW (w:Who) (k:Nat):Prop:=∃ x∈w,x.1=(k:Int) + 1
def clash (c d:Cmd) (b:Nat):Prop:=((b:Int)∈c.writes∧(b:Int)∈blocksN d)∨((b:Int)∈d.writes∧(b:Int)∈blocksN c)
structure Shape (cs:List Cmd) (b0:List Ent) (w:Who) (bl:List Ent) (rs:List Rst):Prop where
 inc:risesW w
 of:∀ x∈w,∃ k,k < cs.length∧x=((k:Int) + 1,cmAt cs k)
 apart:∀ k j,pendW w k→k < j→j < cs.length→¬ pendW w j→∀ b,¬ clash (cmAt cs k) (cmAt cs j) b
 len:bl.length=b0.length
 blocks:∀ b j:Nat,j≤cs.length→(∀ k,pendW w k→(b:Int)∈(cmAt cs k).writes→j≤k)→(∀ i,j≤i→i < cs.length→¬ pendW w i→(b:Int) ∉ (cmAt cs i).writes)→bl[b]? = (serT cs b0 j)[b]?
 res:∀ r∈rs,∃ k,k < cs.length∧¬ pendW w k∧r=resT cs b0 k
 all:∀ k,k < cs.length→¬ pendW w k→resT cs b0 k∈rs
 many:rs.length + w.length=cs.length
theorem Shape.pend {cs:List Cmd} {b0:List Ent} {w:Who} {bl:List Ent} {rs:List Rst} (h:Shape cs b0 w bl rs) {k:Nat} (hk:pendW w k):k < cs.length∧((k:Int) + 1,cmAt cs k)∈w:=by
 obtain ⟨x,hx,he⟩:=hk
 obtain ⟨j,hj,rfl⟩:=h.of x hx
 simp only at he
 obtain rfl:j=k:=by omega
 exact ⟨hj,hx⟩
def startW (cs:List Cmd):Who:=(List.range cs.length).map fun k:Nat=>((k:Int) + 1,cmAt cs k)
theorem pend_start {cs:List Cmd} {k:Nat} (h:k < cs.length):pendW (startW cs) k:=⟨_,List.mem_map.2 ⟨k,by simpa using h,rfl⟩,rfl⟩
theorem shape_start {cs:List Cmd} {b0:List Ent} (hcs:∀ c∈cs,MayBe c∧fitsT c b0.length):Shape cs b0 (startW cs) b0 []:=by
 refine ⟨?_,fun x hx=>?_,fun k j _ _ hj hn=>absurd (pend_start hj) hn,rfl,fun b j hj h1 _=>?_,fun r hr=>by simp at hr,fun k hk hn=>absurd (pend_start hk) hn,by simp [startW]⟩
 ·unfold risesW startW
  rw [List.pairwise_map]
  exact (List.pairwise_lt_range (n:=cs.length)).imp fun h=>by omega
 ·obtain ⟨k,hk,rfl⟩:=List.mem_map.1 hx
  exact ⟨k,by simpa using hk,rfl⟩
 ·exact (ser_other hcs (b:=b) (i:=0) j (Nat.zero_le _) hj (fun k _ hk hb=>by
   have:=h1 k (pend_start (by omega)) hb
   omega)).symm
theorem want_le (x:Int × Cmd) (b:Nat):(wantOf x b).Pairwise (fun p q=>p.1 < q.1)∧∀ k∈wantOf x b,k.1=x.1:=by
 unfold wantOf
 cases lockOf x.2 b with
 | none=>exact ⟨List.Pairwise.nil,fun k hk=>by simp at hk⟩
 | some e=>exact ⟨List.pairwise_singleton _ _,fun k hk=>by rw [List.mem_singleton] at hk;rw [hk]⟩
theorem line_rises {w:Who} (h:risesW w) (b:Nat):(lineOf w b).Pairwise (fun p q=>p.1 < q.1):=by
 unfold risesW at h
 induction w with
 | nil=>exact List.Pairwise.nil
 | cons x w ih=>
  rw [List.pairwise_cons] at h
  unfold lineOf
  rw [List.flatMap_cons,List.pairwise_append]
  refine ⟨(want_le x b).1,ih h.2,fun p hp q hq=>?_⟩
  rw [(want_le x b).2 p hp]
  obtain ⟨y,hy,e,_⟩:=line_mem (w:=w) (b:=b) hq
  rw [← e]
  exact h.1 y hy
section
variable {cs:List Cmd} {b0:List Ent} {w:Who} {bl:List Ent} {rs:List Rst}
theorem Shape.ahead (h:Shape cs b0 w bl rs) (hcs:∀ c∈cs,MayBe c∧fitsT c b0.length) {k:Nat} (hk:pendW w k) (hr:readyN w ((k:Int) + 1) (cmAt cs k)) {u:Nat} (hu:pendW w u) (huk:u < k) (b:Nat):¬ clash (cmAt cs u) (cmAt cs k) b:=by
 intro hc
 obtain ⟨k1,k2⟩:=h.pend hk
 obtain ⟨u1,u2⟩:=h.pend hu
 have sk:=(hcs _ (cmAt_mem k1)).1.sets
 have su:=(hcs _ (cmAt_mem u1)).1.sets
 have hbk:(b:Int)∈blocksN (cmAt cs k):=by
  rcases hc with ⟨_,h2⟩ | ⟨h2,_⟩
  ·exact h2
  ·exact List.mem_append_right _ h2
 have hbu:(b:Int)∈blocksN (cmAt cs u):=by
  rcases hc with ⟨h2,_⟩ | ⟨_,h2⟩
  ·exact List.mem_append_right _ h2
  ·exact h2
 have hh:=hr b hbk
 rw [hasS_split] at hh
 obtain ⟨pre,e,post,hl,hp⟩:=hh
 obtain ⟨eu,heu⟩:=lock_some hbu
 have hmu:=mem_line (b:=b) u2 heu
 have hrise:=line_rises h.inc b
 have hin:((u:Int) + 1,eu)∈pre:=by
  rw [hl] at hmu hrise
  rw [List.pairwise_append,List.pairwise_cons] at hrise
  rcases List.mem_append.1 hmu with g | g
  ·exact g
  ·exfalso
   rcases List.mem_cons.1 g with g | g
   ·injection g with g1 _
    simp only at g1
    omega
   ·have:=hrise.2.1.1 _ g
    simp only at this
    omega
 have hme:((k:Int) + 1,e)∈lineOf w b:=by rw [hl];simp
 obtain ⟨y,hy,e1,e2⟩:=line_mem hme
 obtain ⟨j,hj,rfl⟩:=h.of y hy
 simp only at e1 e2
 obtain rfl:j=k:=by omega
 rcases hp with rfl | ⟨rfl,hp⟩
 ·simp at hin
 ·have hfu:=hp _ hin
  simp only at hfu
  subst hfu
  rcases hc with ⟨g,_⟩ | ⟨g,_⟩
  ·rw [lock_write su g] at heu
   cases heu
  ·rw [lock_write sk g] at e2
   cases e2
theorem Shape.loaded (h:Shape cs b0 w bl rs) (hcs:∀ c∈cs,MayBe c∧fitsT c b0.length) {k:Nat} (hk:pendW w k) (hr:readyN w ((k:Int) + 1) (cmAt cs k)) {b:Nat} (hb:(b:Int)∈blocksN (cmAt cs k)):bl[b]? = (serT cs b0 k)[b]?:=by
 obtain ⟨k1,k2⟩:=h.pend hk
 refine h.blocks b k (by omega) (fun u hu hw=>?_) (fun i hi hil hn hw=>?_)
 ·rcases Nat.lt_or_ge u k with g | g
  ·exact absurd (.inl ⟨hw,hb⟩) (h.ahead hcs hk hr hu g b)
  ·exact g
 ·have hne:i≠k:=fun e=>hn (e ▸ hk)
  exact h.apart k i hk (by omega) hil hn b (.inr ⟨hw,hb⟩)
theorem Shape.loads (h:Shape cs b0 w bl rs) (hcs:∀ c∈cs,MayBe c∧fitsT c b0.length) {k:Nat} (hk:pendW w k) (hr:readyN w ((k:Int) + 1) (cmAt cs k)):loadT bl (cmAt cs k)=loadT (serT cs b0 k) (cmAt cs k):=by
 obtain ⟨k1,-⟩:=h.pend hk
 refine load_same fun x hx=>?_
 obtain ⟨b,rfl⟩:=Int.eq_ofNat_of_zero_le (blocks_nonneg (hcs _ (cmAt_mem k1)).1.sets hx)
 rw [Int.toNat_natCast]
 exact h.loaded hcs hk hr hx
theorem pend_less {k j:Nat}:pendW (w.filter fun x=>decide (x.1≠(k:Int) + 1)) j↔pendW w j∧j≠k:=by
 unfold pendW
 constructor
 ·rintro ⟨x,hx,e⟩
  obtain ⟨h1,h2⟩:=List.mem_filter.1 hx
  exact ⟨⟨x,h1,e⟩,fun q=>by simp at h2;omega⟩
 ·rintro ⟨⟨x,hx,e⟩,hne⟩
  exact ⟨x,List.mem_filter.2 ⟨hx,by simp;omega⟩,e⟩
theorem less_length (h:risesW w) {x:Int × Cmd} (hx:x∈w):(w.filter fun y=>decide (y.1≠x.1)).length + 1=w.length:=by
 obtain ⟨pre,post,rfl⟩:=List.append_of_mem hx
 unfold risesW at h
 rw [List.pairwise_append,List.pairwise_cons] at h
 have f1:pre.filter (fun y=>decide (y.1≠x.1))=pre:=by
  rw [List.filter_eq_self]
  intro y hy
  have:=h.2.2 y hy x (List.mem_cons_self ..)
  simp
  omega
 have f2:post.filter (fun y=>decide (y.1≠x.1))=post:=by
  rw [List.filter_eq_self]
  intro y hy
  have:=h.2.1.1 y hy
  simp
  omega
 rw [List.filter_append,List.filter_cons_of_neg (by simp),f1,f2]
 simp
 omega
theorem Shape.done (h:Shape cs b0 w bl rs) (hcs:∀ c∈cs,MayBe c∧fitsT c b0.length) {k:Nat} (hk:pendW w k) (hr:readyN w ((k:Int) + 1) (cmAt cs k)) :
  Shape cs b0 (w.filter fun x=>decide (x.1≠(k:Int) + 1)) (applyT bl (cmAt cs k) ((k:Int) + 1) (wholeM (cmAt cs k) (loadT (serT cs b0 k) (cmAt cs k)))) (rs ++ [resT cs b0 k]):=by
 obtain ⟨k1,k2⟩:=h.pend hk
 have sk:=(hcs _ (cmAt_mem k1)).1.sets
 have fk:=(hcs _ (cmAt_mem k1)).2
 refine ⟨?_,fun x hx=>h.of x (List.mem_filter.1 hx).1,fun u j hu huj hj hn b=>?_,by rw [apply_length];exact h.len,fun b j hj h1 h2=>?_,fun r hr'=>?_,fun j hj hn=>?_,?_⟩
 ·exact List.Pairwise.filter _ h.inc
 ·rw [pend_less] at hu hn
  by_cases e:j=k
  ·rw [e]
   exact h.ahead hcs hk hr hu.1 (by omega) b
  ·exact h.apart u j hu.1 huj hj (fun q=>hn ⟨q,e⟩) b
 ·by_cases hb:(b:Int)∈(cmAt cs k).writes
  ·-- it writes the block
   have hjk:k + 1≤j:=by
    rcases Nat.lt_or_ge k j with g | g
    ·exact g
    ·exact absurd hb (h2 k g k1 (fun q=>(pend_less.1 q).2 rfl))
   have hbb:(b:Int)∈blocksN (cmAt cs k):=List.mem_append_right _ hb
   have hser:(serT cs b0 j)[b]? = (serT cs b0 (k + 1))[b]?:=ser_other hcs (b:=b) (i:=k + 1) j hjk hj (fun i hi hij hw=>by
    by_cases hp:pendW w i
    ·have:=h1 i (pend_less.2 ⟨hp,by omega⟩) hw
     omega
    ·exact h.apart k i hk (by omega) (by omega) hp b (.inr ⟨hw,hbb⟩))
   rw [hser,serT]
   unfold applyT
   obtain ⟨i,hi,rfl⟩:=wAt_mem hb
   split
   ·rw [store_writes sk (by rw [h.len];exact fk) hi,store_writes sk (by rw [ser_length];exact fk) hi]
   ·exact h.loaded hcs hk hr hbb
  ·-- it doesn't
   have hold:bl[b]? = (serT cs b0 j)[b]?:=h.blocks b j hj (fun u hu hw=>by
    by_cases e:u=k
    ·rw [e] at hw
     exact absurd hw hb
    ·exact h1 u (pend_less.2 ⟨hu,e⟩) hw) (fun i hi hil hn=>h2 i hi hil (fun q=>hn (pend_less.1 q).1))
   rw [← hold]
   unfold applyT
   split
   ·exact store_other sk hb
   ·rfl
 ·rcases List.mem_append.1 hr' with g | g
  ·obtain ⟨j,hj,hn,e⟩:=h.res r g
   exact ⟨j,hj,fun q=>hn (pend_less.1 q).1,e⟩
  ·rw [List.mem_singleton] at g
   exact ⟨k,k1,fun q=>(pend_less.1 q).2 rfl,g⟩
 ·by_cases e:j=k
  ·rw [e]
   simp
  ·exact List.mem_append_left _ (h.all j hj (fun q=>hn (pend_less.2 ⟨q,e⟩)))
 ·have e:=less_length h.inc k2
  simp only at e
  have:=h.many
  simp only [List.length_append,List.length_singleton]
  omega
end
end
section
structure Crw where
 blocks:List Ent
 tasks:List Tsk
 results:List Rst
 mark:Mrk
def tskZ:Tsk:=⟨0,cmd0,newM cmd0,[],0⟩
def tskAt (l:List Tsk) (i:Nat):Tsk:=l[i]?.getD tskZ
def keepsC (m:Mrk) (bl:List Ent) (ws:List Int):Mrk:=ws.foldl (fun m b=>keepS m bl b) m
def endC (x:Crw) (t:Tsk) (i:Nat):Crw:=
 ⟨if t.m.told=0 then storeT x.blocks t.cmd t.own t.seq else x.blocks,withoutP x.tasks i,x.results ++ [⟨t.seq,t.m.told,t.m.out⟩],if t.m.told=0 then keepsC x.mark x.blocks t.cmd.writes else x.mark⟩
def pickC (x:Crw) (workers worker seq:Int):Crw × Int:=
 if worker < 0∨workers≤worker then (x,1)
 else if (ofP x.tasks worker).isSome then (x,15)
 else match findP x.tasks seq with
  | none=>(x,16)
  | some i=>
   if 0≤(tskAt x.tasks i).worker∨readyB (whoP x.tasks) seq (tskAt x.tasks i).cmd=false then (x,16)
   else ({ x with tasks:=x.tasks.set i { tskAt x.tasks i with worker:=worker,own:=loadT x.blocks (tskAt x.tasks i).cmd } },0)
def goT (t:Tsk):Tsk:={ t with m:=(stepM t.cmd t.m t.own).1,own:=(stepM t.cmd t.m t.own).2 }
def stepC (x:Crw) (workers worker:Int):Crw × Int:=
 if worker < 0∨workers≤worker then (x,1)
 else match ofP x.tasks worker with
  | none=>(x,16)
  | some i=>
   if (goT (tskAt x.tasks i)).m.over=true then (endC { x with tasks:=x.tasks.set i (goT (tskAt x.tasks i)) } (goT (tskAt x.tasks i)) i,0)
   else ({ x with tasks:=x.tasks.set i (goT (tskAt x.tasks i)) },0)
theorem tskAt_lt {l:List Tsk} {i:Nat} (h:i < l.length):l[i]? = some (tskAt l i):=by simp [tskAt,h]
theorem findP_some {l:List Tsk} {s:Int} {i:Nat} (h:findP l s=some i):i < l.length∧(tskAt l i).seq=s:=by
 unfold findP at h
 rw [List.findIdx?_eq_some_iff_getElem] at h
 obtain ⟨hi,hp,-⟩:=h
 refine ⟨hi,?_⟩
 simp only [tskAt,List.getElem?_eq_getElem hi,Option.getD_some]
 simpa using hp
theorem ofP_some {l:List Tsk} {w:Int} {i:Nat} (h:ofP l w=some i):i < l.length∧0≤w∧(tskAt l i).worker=w:=by
 unfold ofP at h
 rw [List.findIdx?_eq_some_iff_getElem] at h
 obtain ⟨hi,hp,-⟩:=h
 have hp:=of_decide_eq_true hp
 refine ⟨hi,hp.1,?_⟩
 simp only [tskAt,List.getElem?_eq_getElem hi,Option.getD_some]
 exact hp.2
theorem ofP_none {l:List Tsk} {w:Int} (h:ofP l w=none) (hw:0≤w):∀ t∈l,t.worker≠w:=by
 intro t ht e
 unfold ofP at h
 rw [List.findIdx?_eq_none_iff] at h
 have:=h t ht
 simp [hw,e] at this
theorem without_set (l:List Tsk) (i:Nat) (u:Tsk):withoutP (l.set i u) i=withoutP l i:=by
 unfold withoutP
 rw [List.take_set,List.drop_set,if_pos (by omega),List.set_eq_of_length_le (by simp;omega)]
theorem without_mem {l:List Tsk} {i:Nat} {t:Tsk} (h:t∈withoutP l i):t∈l:=by
 rcases List.mem_append.1 h with h | h
 ·exact List.mem_of_mem_take h
 ·exact List.mem_of_mem_drop h
structure CInv (cs:List Cmd) (b0:List Ent) (workers:Int) (x:Crw):Prop where
 shape:Shape cs b0 (whoP x.tasks) x.blocks x.results
 runs:∀ t∈x.tasks,0≤t.worker→readyN (whoP x.tasks) t.seq t.cmd∧∃ k q:Nat,t.seq=(k:Int) + 1∧stepsM t.cmd q (newM t.cmd,loadT (serT cs b0 k) t.cmd)=(t.m,t.own)∧t.m.over=false
 idle:∀ t∈x.tasks,t.worker < 0→t.m=newM t.cmd
 have_:∀ t∈x.tasks,t.worker < workers
 one:x.tasks.Pairwise fun a b=>0≤a.worker→a.worker≠b.worker
section
variable {cs:List Cmd} {b0:List Ent} {workers:Int} {x:Crw}
theorem CInv.task (h:CInv cs b0 workers x) {t:Tsk} (ht:t∈x.tasks):∃ k,k < cs.length∧t.seq=(k:Int) + 1∧t.cmd=cmAt cs k∧pendW (whoP x.tasks) k:=by
 obtain ⟨k,hk,e⟩:=h.shape.of _ (whoP_mem ht)
 injection e with e1 e2
 exact ⟨k,hk,e1,e2,_,whoP_mem ht,e1⟩
theorem one_set {l:List Tsk} {i:Nat} {t u:Tsk} (h:l.Pairwise fun a b=>0≤a.worker→a.worker≠b.worker) (ht:l[i]? = some t) (hu:u.worker=t.worker∨∀ y∈l,y.worker≠u.worker) :
  (l.set i u).Pairwise fun a b=>0≤a.worker→a.worker≠b.worker:=by
 have hi:=(List.getElem?_eq_some_iff.1 ht).1
 have hti:=(List.getElem?_eq_some_iff.1 ht).2
 rw [List.pairwise_iff_getElem] at h ⊢
 intro p q hp hq hpq h0
 rw [List.length_set] at hp hq
 rw [List.getElem_set] at h0 ⊢
 rw [List.getElem_set]
 by_cases e1:i=p
 ·rw [if_pos e1] at h0 ⊢
  rw [if_neg (show ¬ i=q by omega)]
  rcases hu with hu | hu
  ·rw [hu] at h0 ⊢
   have:=h p q hp hq hpq
   subst e1
   rw [hti] at this
   exact this h0
  ·exact fun e=>hu _ (List.getElem_mem hq) e.symm
 ·rw [if_neg e1] at h0 ⊢
  by_cases e2:i=q
  ·rw [if_pos e2]
   rcases hu with hu | hu
   ·rw [hu]
    have:=h p q hp hq hpq h0
    subst e2
    rw [hti] at this
    exact this
   ·exact hu _ (List.getElem_mem hp)
  ·rw [if_neg e2]
   exact h p q hp hq hpq h0
theorem CInv.pick (h:CInv cs b0 workers x) (hcs:∀ c∈cs,MayBe c∧fitsT c b0.length) {worker seq:Int} (h0:(pickC x workers worker seq).2=0):CInv cs b0 workers (pickC x workers worker seq).1:=by
 unfold pickC at h0 ⊢
 split at h0
 ·cases h0
 next hw=>
 rw [if_neg hw]
 split at h0
 ·cases h0
 next ho=>
 rw [if_neg ho]
 split at h0
 ·cases h0
 next i hf=>
 split at h0
 ·cases h0
 next hr=>
 rw [if_neg hr]
 obtain ⟨hi,hs⟩:=findP_some hf
 have hat:=tskAt_lt hi
 have hmem:tskAt x.tasks i∈x.tasks:=List.mem_of_getElem? hat
 have hno:ofP x.tasks worker=none:=by
  cases q:ofP x.tasks worker with
  | none=>rfl
  | some j=>rw [q] at ho;exact absurd rfl ho
 have hw0:0≤worker:=by omega
 obtain ⟨k,k1,k2,k3,k4⟩:=h.task hmem
 have hsets:=(hcs _ (cmAt_mem k1)).1.sets
 have hready:readyN (whoP x.tasks) ((k:Int) + 1) (cmAt cs k):=by
  have:readyB (whoP x.tasks) seq (tskAt x.tasks i).cmd=true:=by
   cases q:readyB (whoP x.tasks) seq (tskAt x.tasks i).cmd with
   | true=>rfl
   | false=>exact absurd (.inr q) hr
  rw [← hs,k2,k3,readyB_iff hsets] at this
  exact this
 have hwho:whoP (x.tasks.set i { tskAt x.tasks i with worker:=worker,own:=loadT x.blocks (tskAt x.tasks i).cmd })=whoP x.tasks:=whoP_set hat rfl rfl
 refine ⟨?_,fun t ht hw1=>?_,fun t ht hw1=>?_,fun t ht=>?_,?_⟩
 ·rw [hwho]
  exact h.shape
 ·rw [hwho]
  rcases List.mem_or_eq_of_mem_set ht with ht | rfl
  ·exact h.runs t ht hw1
  ·refine ⟨?_,k,0,k2,?_,?_⟩
   ·show readyN _ (tskAt x.tasks i).seq (tskAt x.tasks i).cmd
    rw [k2,k3]
    exact hready
   ·show (newM (tskAt x.tasks i).cmd,loadT (serT cs b0 k) (tskAt x.tasks i).cmd)=((tskAt x.tasks i).m,loadT x.blocks (tskAt x.tasks i).cmd)
    rw [h.idle _ hmem (by omega),k3,h.shape.loads hcs k4 hready]
   ·show (tskAt x.tasks i).m.over=false
    rw [h.idle _ hmem (by omega)]
    rfl
 ·rcases List.mem_or_eq_of_mem_set ht with ht | rfl
  ·exact h.idle t ht hw1
  ·exact absurd hw1 (by show ¬ worker < 0;omega)
 ·rcases List.mem_or_eq_of_mem_set ht with ht | rfl
  ·exact h.have_ t ht
  ·show worker < workers
   omega
 ·exact one_set h.one hat (.inr (ofP_none hno hw0))
theorem pick_no (worker seq:Int) (h0:(pickC x workers worker seq).2≠0):(pickC x workers worker seq).1=x:=by
 unfold pickC at h0 ⊢
 split
 ·rfl
 next hw=>
 rw [if_neg hw] at h0
 split
 ·rfl
 next ho=>
 rw [if_neg ho] at h0
 split
 ·rfl
 next i hf=>
 rw [hf] at h0
 simp only at h0
 split
 ·rfl
 next hr=>
 rw [if_neg hr] at h0
 exact absurd rfl h0
theorem step_no (worker:Int) (h0:(stepC x workers worker).2≠0):(stepC x workers worker).1=x:=by
 unfold stepC at h0 ⊢
 split
 ·rfl
 next hw=>
 rw [if_neg hw] at h0
 split
 ·rfl
 next i hf=>
 rw [hf] at h0
 simp only at h0
 split at h0 <;> exact absurd rfl h0
theorem CInv.step (h:CInv cs b0 workers x) (hcs:∀ c∈cs,MayBe c∧fitsT c b0.length) (hg:goodT b0) {worker:Int} (h0:(stepC x workers worker).2=0):CInv cs b0 workers (stepC x workers worker).1:=by
 unfold stepC at h0 ⊢
 split at h0
 ·cases h0
 next hw=>
 rw [if_neg hw]
 split at h0
 ·cases h0
 next i hf=>
 clear h0
 obtain ⟨hi,hw0,hwi⟩:=ofP_some hf
 have hat:=tskAt_lt hi
 have hmem:tskAt x.tasks i∈x.tasks:=List.mem_of_getElem? hat
 obtain ⟨k,k1,k2,k3,k4⟩:=h.task hmem
 obtain ⟨hm,hfit⟩:=hcs _ (cmAt_mem k1)
 obtain ⟨hready,k',q,e1,e2,e3⟩:=h.runs _ hmem (by omega)
 obtain rfl:k'=k:=by omega
 have hgo:(stepsM (tskAt x.tasks i).cmd (q + 1) (newM (tskAt x.tasks i).cmd,loadT (serT cs b0 k') (tskAt x.tasks i).cmd))=((goT (tskAt x.tasks i)).m,(goT (tskAt x.tasks i)).own):=by
  rw [steps_succ,e2]
  rfl
 have hwho:whoP (x.tasks.set i (goT (tskAt x.tasks i)))=whoP x.tasks:=whoP_set hat rfl rfl
 rw [k2,k3] at hready
 by_cases hov:(goT (tskAt x.tasks i)).m.over=true
 ·rw [if_pos hov]
  have hwh:((goT (tskAt x.tasks i)).m,(goT (tskAt x.tasks i)).own)=wholeM (cmAt cs k') (loadT (serT cs b0 k') (cmAt cs k')):=by
   rw [← hgo,k3]
   refine whole_over hm load_length (load_good (ser_good hcs hg k' (by omega)) hm.sets (by rw [ser_length];exact hfit)) ?_
   rw [← k3,hgo]
   exact hov
  have hw2:whoP (withoutP (x.tasks.set i (goT (tskAt x.tasks i))) i)=(whoP x.tasks).filter fun y=>decide (y.1≠(k':Int) + 1):=by
   rw [without_set,whoP_without h.shape.inc hat,k2]
  have hdone:=h.shape.done hcs k4 hready
  have hne:∀ t∈withoutP (x.tasks.set i (goT (tskAt x.tasks i))) i,t∈x.tasks∧t.seq≠(k':Int) + 1:=fun t ht=>by
   have h1:=whoP_mem ht
   rw [hw2] at h1
   have h2:=(List.mem_filter.1 h1).2
   rw [without_set] at ht
   exact ⟨without_mem ht,by simpa using h2⟩
  refine ⟨?_,fun t ht hw1=>?_,fun t ht hw1=>h.idle t (hne t ht).1 hw1,fun t ht=>h.have_ t (hne t ht).1,?_⟩
  ·show Shape cs b0 (whoP (withoutP (x.tasks.set i (goT (tskAt x.tasks i))) i)) (if (goT (tskAt x.tasks i)).m.told=0 then storeT x.blocks (tskAt x.tasks i).cmd (goT (tskAt x.tasks i)).own (tskAt x.tasks i).seq else x.blocks) (x.results ++ [⟨(tskAt x.tasks i).seq,(goT (tskAt x.tasks i)).m.told,(goT (tskAt x.tasks i)).m.out⟩])
   rw [hw2,k2,k3]
   unfold applyT resT at hdone
   rw [← hwh] at hdone
   exact hdone
  ·obtain ⟨g1,g2⟩:=hne t ht
   obtain ⟨r1,r2⟩:=h.runs t g1 hw1
   refine ⟨?_,r2⟩
   show readyN (whoP (withoutP (x.tasks.set i (goT (tskAt x.tasks i))) i)) t.seq t.cmd
   rw [hw2]
   exact ready_less g2 r1
  ·show (withoutP (x.tasks.set i (goT (tskAt x.tasks i))) i).Pairwise _
   rw [without_set]
   refine List.Pairwise.sublist ?_ h.one
   unfold withoutP
   conv=>rhs;rw [← List.take_append_drop i x.tasks]
   exact List.Sublist.append (List.Sublist.refl _) (by
    rw [← List.drop_drop]
    exact List.drop_sublist _ _)
 ·rw [if_neg hov]
  have hov:=Bool.eq_false_iff.2 hov
  refine ⟨?_,fun t ht hw1=>?_,fun t ht hw1=>?_,fun t ht=>?_,?_⟩
  ·rw [hwho]
   exact h.shape
  ·rw [hwho]
   rcases List.mem_or_eq_of_mem_set ht with ht | rfl
   ·exact h.runs t ht hw1
   ·refine ⟨?_,k',q + 1,k2,hgo,hov⟩
    show readyN _ (tskAt x.tasks i).seq (tskAt x.tasks i).cmd
    rw [k2,k3]
    exact hready
  ·rcases List.mem_or_eq_of_mem_set ht with ht | rfl
   ·exact h.idle t ht hw1
   ·exact absurd hw1 (by show ¬ (tskAt x.tasks i).worker < 0;omega)
  ·rcases List.mem_or_eq_of_mem_set ht with ht | rfl
   ·exact h.have_ t ht
   ·show (tskAt x.tasks i).worker < workers
    exact h.have_ _ hmem
  ·exact one_set h.one hat (.inl rfl)
end
end
section
section
variable {cs:List Cmd} {b0:List Ent} {workers:Int} {x:Crw}
theorem CInv.mok (h:CInv cs b0 workers x) (hcs:∀ c∈cs,MayBe c∧fitsT c b0.length) (hg:goodT b0) {t:Tsk} (ht:t∈x.tasks) (hw:0≤t.worker):∃ d,depthsN t.cmd.code=.ok d∧MayBe t.cmd∧MOk t.cmd d t.m t.own∧t.m.over=false:=by
 obtain ⟨k,k1,k2,k3,-⟩:=h.task ht
 obtain ⟨hm,hf⟩:=hcs _ (cmAt_mem k1)
 obtain ⟨-,k',q,e1,e2,e3⟩:=h.runs t ht hw
 obtain rfl:k'=k:=by omega
 obtain ⟨d,hd⟩:=hm.depths
 have h8:=load_good (ser_good hcs hg k' (by omega)) hm.sets (by rw [ser_length];exact hf)
 have:=steps_ok hm hd (r:=(newM (cmAt cs k'),loadT (serT cs b0 k') (cmAt cs k'))) (new_ok hm hd load_length h8) q
 rw [k3] at e2 ⊢
 rw [e2] at this
 exact ⟨d,hd,hm,this,e3⟩
def addAll (cs:List Cmd):List Tsk:=(List.range cs.length).map fun k:Nat=>⟨(k:Int) + 1,cmAt cs k,newM (cmAt cs k),[],-1⟩
theorem who_start (cs:List Cmd):whoP (addAll cs)=startW cs:=by simp [whoP,addAll,startW]
theorem inv_start (hcs:∀ c∈cs,MayBe c∧fitsT c b0.length) (hw:0≤workers) (mk:Mrk):CInv cs b0 workers ⟨b0,addAll cs,[],mk⟩:=by
 have hall:∀ t∈addAll cs,t.worker=-1∧t.m=newM t.cmd:=fun t ht=>by
  obtain ⟨k,-,rfl⟩:=List.mem_map.1 ht
  exact ⟨rfl,rfl⟩
 refine ⟨by show Shape cs b0 (whoP (addAll cs)) b0 [];rw [who_start];exact shape_start hcs,fun t ht h0=>?_,fun t ht _=>(hall t ht).2,fun t ht=>?_,?_⟩
 iterate 2
  ·have:=(hall t ht).1
   omega
 ·rw [List.pairwise_iff_getElem]
  intro i j hi hj _ h0
  have:=(hall _ (List.getElem_mem hi)).1
  omega
end
end
section
open Go.RowKit
structure FitI (c:Cmd) (x:Ins) (m:Mac) (own:Blks):Prop where
 op:1≤x.op∧x.op≤17
 reg:x.op=2∨x.op=3→0≤x.a∧x.a < 4
 blk:x.op=4∨x.op=5→0≤x.a∧x.a < own.length
 arg:x.op=6→0≤x.a∧x.a < c.args.length
 way:x.op=13∨x.op=14→0≤x.a∧x.a≤1000
 off:offN x.op≤m.stack.length
structure Fit (c:Cmd) (m:Mac) (own:Blks):Prop where
 fuel:0≤m.fuel∧m.fuel≤1000
 deep:m.stack.length≤100
 outs:m.out.length≤100
 regs:m.regs.length=4
 cells:∀ b∈own,b.length=8
 many:own.length≤100
 goes:m.over=false→m.fuel≠0→0≤m.pc∧m.pc < c.code.length∧c.code.length≤1000∧FitI c (insAt c.code m.pc.toNat) m own
theorem fit_of {c:Cmd} {d:List Int} {m:Mac} {own:Blks} (hc:MayBe c) (hd:depthsN c.code=.ok d) (hm:MOk c d m own) (hf:m.fuel≤1000):Fit c m own:=by
 obtain ⟨f1,f2,f3,f4,f5,f6⟩:=hc.few
 refine ⟨⟨hm.fuel,hf⟩,by have:=hm.deep;omega,by have:=hm.out;omega,hm.regs,hm.cells,by have:=hm.many;omega,fun ho _=>?_⟩
 obtain ⟨p0,p1,p2,p3,p4⟩:=hm.at_ ho
 have hi:m.pc.toNat < c.code.length:=by omega
 obtain ⟨hright,b1,b2,b3,b4⟩:=hc.ops _ (insAt_mem hi)
 obtain ⟨r1,r2⟩:=stack_room hd hm ho
 obtain ⟨_,_,hok⟩:=depths_fine hd
 obtain ⟨_,_,hall⟩:=hok m.pc.toNat hi (by rw [p2];omega)
 have hmany:=hm.many
 refine ⟨p0,p1,by omega,hright.1,b1,fun h=>?_,b4,fun h=>?_,r1⟩
 ·rcases h with h | h
  ·have:=b2 h
   omega
  ·have:=b3 h
   omega
 ·have hw:(insAt c.code m.pc.toNat).a∈waysN (insAt c.code m.pc.toNat):=by
   unfold waysN
   rcases h with h | h
   ·rw [if_neg (by omega),if_neg (by omega),if_pos h];simp
   ·rw [if_neg (by omega),if_pos h];simp
  obtain ⟨w1,w2,_⟩:=hall _ hw
  omega
theorem step_fuel_le {c:Cmd} {m:Mac} {own:Blks}:(stepM c m own).1.fuel≤m.fuel:=by
 cases ho:m.over with
 | true=>rw [step_over ho];exact Int.le_refl _
 | false=>
  by_cases hf:m.fuel=0
  ·rw [step_empty ho hf];exact Int.le_refl _
  ·rw [step_goes ho hf,do_fuel_is]
   show m.fuel - 1≤m.fuel
   omega
end
section
section
variable {m:Mrk} {x l:List Ent}
end
section
variable {cs:List Cmd} {b0:List Ent} {workers:Int} {x:Crw}
end
def wroteT (cs:List Cmd) (b0:List Ent) (b k:Nat):Prop:=(resT cs b0 k).told=0∧(b:Int)∈(cmAt cs k).writes
instance (cs:List Cmd) (b0:List Ent) (b k:Nat):Decidable (wroteT cs b0 b k):=by unfold wroteT;infer_instance
def lastT (cs:List Cmd) (b0:List Ent) (b:Nat):Nat→Int
 | 0=>0
 | k + 1=>if wroteT cs b0 b k then (k:Int) + 1 else lastT cs b0 b k
theorem last_le (cs:List Cmd) (b0:List Ent) (b:Nat):∀ n,0≤lastT cs b0 b n∧lastT cs b0 b n≤n
 | 0=>⟨Int.le_refl _,Int.le_refl _⟩
 | k + 1=>by
  have:=last_le cs b0 b k
  unfold lastT
  split <;> omega
theorem stepsFuelLe {c:Cmd} (r:Mac × Blks):∀ n,(stepsM c n r).1.fuel≤r.1.fuel
 | 0=>Int.le_refl _
 | n + 1=>by
  rw [steps_succ]
  exact Int.le_trans step_fuel_le (stepsFuelLe r n)
end
section
theorem idxP_find {α:Type} (p:α→Bool) (l:List α):idxP p l=match l.findIdx? p with
  | some i=>(i:Int)
  | none=>-1:=by
 unfold idxP
 rw [List.findIdx?_eq_guard_findIdx_lt]
 by_cases h:l.findIdx p < l.length
 ·rw [if_pos h]
  simp [h]
 ·rw [if_neg h]
  simp [Option.guard,h]
theorem idx_find (l:List Tsk) (s:Int):idxP (fun t:Tsk=>decide (t.seq=s)) l=match findP l s with
  | some i=>(i:Int)
  | none=>-1:=idxP_find _ _
theorem idx_of (l:List Tsk) (w:Int):idxP (fun t:Tsk=>decide (0≤w∧t.worker=w)) l=match ofP l w with
  | some i=>(i:Int)
  | none=>-1:=idxP_find _ _
theorem readyB_L {w:Who} {s:Int} {c:Cmd} {n:Nat} (hs:setsN c) (hf:fitsT c n):readyL (lksW w n) c s=readyB w s c:=by
 unfold readyL readyB
 have hb:∀ x∈blocksN c,x.toNat < n:=fun x hx=>by
  have h0:=blocks_nonneg hs hx
  rcases List.mem_append.1 hx with q | q
  ·have:=hf.1 x q;omega
  ·have:=hf.2 x q;omega
 rw [Bool.eq_iff_iff,List.all_eq_true,List.all_eq_true]
 constructor
 ·intro h x hx
  have:=h x hx
  rwa [lksW_at w (hb x hx)] at this
 ·intro h x hx
  rw [lksW_at w (hb x hx)]
  exact h x hx
end
section
theorem op_cases (op:Int):op < 1∨17 < op∨op=1∨op=2∨op=3∨op=4∨op=5∨op=6∨op=7∨op=8∨op=9∨op=10∨op=11∨op=12∨op=13∨op=14∨op=15∨op=16∨op=17:=by omega
theorem offN_low {op:Int} (h:op < 1):offN op=0:=by unfold offN;rw [if_neg (by omega),if_neg (by omega)]
theorem offN_high {op:Int} (h:17 < op):offN op=0:=by unfold offN;rw [if_neg (by omega),if_neg (by omega)]
theorem onN_low {op:Int} (h:op < 1):onN op=0:=by unfold onN;rw [if_neg (by omega),if_neg (by omega)]
theorem onN_high {op:Int} (h:17 < op):onN op=0:=by unfold onN;rw [if_neg (by omega),if_neg (by omega)]
theorem drop_cons {l:List Int} {k:Nat} (h:k < l.length):l.drop k=(l[k]?.getD 0) :: l.drop (k + 1):=by
 rw [List.drop_eq_getElem_cons h]
 simp [h]
theorem drop_consI {l:List Int} {k:Nat} (h:k < l.length):l.drop k=(l[k]?.getD 0) :: l.drop (k + 1):=by
 rw [List.drop_eq_getElem_cons h]
 simp [h]
theorem emitsN_step (l:List Ins) (i:Nat) (h:i < l.length):emitsN (l.take (i + 1))=emitsN (l.take i) + if (insAt l i).op=15 then 1 else 0:=by
 rw [List.take_add_one,List.getElem?_eq_getElem h]
 simp only [Option.toList_some,emitsN,List.filter_append,List.length_append,insAt,List.getElem?_eq_getElem h,Option.getD_some]
 by_cases e:(l[i]'h).op=15 <;> simp [e]
theorem emitsN_take_le (l:List Ins) (i:Nat):emitsN (l.take i)≤l.length:=
 Nat.le_trans (List.length_filter_le _ _) (by rw [List.length_take];omega)
theorem ways_end (x:Ins) (h:x.op=16∨x.op=17):waysN x=[]:=by rw [waysN,if_pos h]
theorem ways_go (x:Ins) (h:x.op=14):waysN x=[x.a]:=by rw [waysN,if_neg (by omega),if_pos h]
theorem ways_skip (x:Ins) (h:x.op=13):waysN x=[0,x.a]:=by rw [waysN,if_neg (by omega),if_neg (by omega),if_pos h]
theorem ways_else (x:Ins) (h:x.op≠13∧x.op≠14∧x.op≠16∧x.op≠17):waysN x=[0]:=by rw [waysN,if_neg (by omega),if_neg (by omega),if_neg (by omega)]
theorem wayCases (op:Int):op=16∨op=17∨op=14∨op=13∨(op≠13∧op≠14∧op≠16∧op≠17):=by omega
def boundsL (nr nw na:Nat) (x:Ins):Prop:=
 (x.op=2∨x.op=3→0≤x.a∧x.a < 4) ∧
 (x.op=4→0≤x.a∧x.a < (nr:Int) + nw∧0≤x.b∧x.b < 8) ∧
 (x.op=5→(nr:Int)≤x.a∧x.a < (nr:Int) + nw∧0≤x.b∧x.b < 8) ∧
 (x.op=6→0≤x.a∧x.a < (na:Int))
instance (nr nw na:Nat) (x:Ins):Decidable (boundsL nr nw na x):=inferInstanceAs (Decidable (_∧_))
end
end Go.Proofs.YtpaocjpjlogkgaaGreat
