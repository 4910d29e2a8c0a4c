/-
  A drawn statement that hands a crew on beside an error's number; the turns of three workers, as numbers. No conditions but those that stand there.
-/
import Derived.Test.YtpaocjpjlogkgaaQPooV
import Derived.Test.YtpaocjpjlogkgaaQQueP
import Derived.Test.YtpaocjpjlogkgaaQRely
import Derived.Test.YtpaocjpjlogkgaaQAddr
namespace Go.Proofs.Ytpaocjpjlogkgaa
open Go Go.RowKit

/-- a crew and an error's number, as a word of what an operation leaves. -/
def errV (n no : Nat) (H : Hd) (X : Crw) (z0 : CwL) (S : Nat) (r : Int) : Says := fun v w => ∃ z, v = .tuple #[.agg (cwA n no H z), .int .i64 r] ∧ CwIs n no X w z ∧ ∀ G, G < S → CwOff G n no z0 → CwOff G n no z
theorem errV_keep {n no : Nat} {H : Hd} {X : Crw} {z0 : CwL} {S : Nat} {r : Int} (v : Value) (x y : World) (hb : Below x.heap.size x y) (h : errV n no H X z0 S r v x) : errV n no H X z0 S r v y := by
  obtain ⟨z, e, hI, ho⟩ := h
  exact ⟨z, e, hI.below hb, ho⟩
theorem cwV_keep {n no : Nat} {H : Hd} {X : Crw} {z0 : CwL} {S : Nat} (v : Value) (x y : World) (hb : Below x.heap.size x y) (h : cwV n no H X z0 S v x) : cwV n no H X z0 S v y := by
  obtain ⟨z, e, hI, ho⟩ := h
  exact ⟨z, e, hI.below hb, ho⟩
theorem CwErr.says {n no : Nat} {H : Hd} {X : Crw} {z0 : CwL} {S : Nat} {r : Int} {w w' : World} {e : Ending} (h : CwErr n no H X z0 r w e w') (hS : S ≤ w.heap.size) : ∃ v, e = .returned v ∧ Below w.heap.size w w' ∧ errV n no H X z0 S r v w' := by
  obtain ⟨z, he, hI, hb, ho⟩ := h
  exact ⟨_, he, hb, z, rfl, hI, fun G hG => ho G (Nat.lt_of_lt_of_le hG hS)⟩
/-- a crew stored whole. -/
theorem exec_st_cw {ρ : Operand → Value} {o : Oper} {w : World} (g : Nat) {cs : Array Value} (hk : Bk w g 34 cs) (hs : cs.size = 13) {n no : Nat} {H : Hd} {z : CwL} (x y : Operand) (ho : o.op = .store 34 x y) (hx : ρ x = .pointer (some ⟨g, 0, none⟩)) (hy : ρ y = .agg (cwA n no H z)) :
    (execOp ρ o).run Try.prog w = .ok .skip (w.setRow g (cwA n no H z)) := by
  unfold execOp
  simp only [ho, hx, hy, Instr.storeAt, Instr.sureAddr, Sem.run_bind, Sem.run_pure, Result.andThen_ok, run_storeVar_row w g _ 34 cs (cwA n no H z) hk infoCrw hs (cwA_one n no H z)]

/-! ### turns -/
theorem readies_same {L : List Tsk} {n : Nat} (h : goodL n L) : readiesL (lksW (whoP L) n) L = readiesP L (whoP L) := by
  unfold readiesL readiesP
  congr 1
  apply List.filter_congr
  intro t ht
  rw [readyB_L (h t ht).1.sets (h t ht).2]
/-- the last one of the first j who has a task; k, if none has. -/
def lastJ (L : List Tsk) (k : Int) : Nat → Int
  | 0 => k
  | j + 1 => if (ofP L (j : Int)).isSome then (j : Int) else lastJ L k j
theorem lastJ_three (L : List Tsk) (k : Int) : lastJ L k 3 = lastW L k := rfl
theorem goP_step {ts : List Nat} {f n : Nat} {X : Crw} (hx : X.tasks ≠ []) (h0 : (turnP X (kAt ts n)).2 = 0) : goP ts (f + 1) n X = goP ts f (n + 1) (turnP X (kAt ts n)).1 := by
  conv => lhs; unfold goP
  rw [if_neg hx, if_pos h0]
theorem goP_none {ts : List Nat} {f n : Nat} {X : Crw} (hx : X.tasks = []) : goP ts f n X = (X, (n : Int)) := by
  cases f with
  | zero => rfl
  | succ f => unfold goP; rw [if_pos hx]
theorem turn_step {X : Crw} {k : Nat} {j : Nat} (h : ofP X.tasks ((k % 3 : Nat) : Int) = some j) : turnP X k = stepC X 3 ((k % 3 : Nat) : Int) := by
  unfold turnP
  rw [h]
  rfl
theorem turn_last {X : Crw} {k : Nat} (h : ofP X.tasks ((k % 3 : Nat) : Int) = none) (hr : readiesP X.tasks (whoP X.tasks) = []) : turnP X k = stepC X 3 (lastJ X.tasks ((k % 3 : Nat) : Int) 3) := by
  unfold turnP
  rw [h, lastJ_three]
  simp only [Option.isSome_none]
  rw [if_neg (by decide), if_pos hr]
theorem turn_pick {X : Crw} {k : Nat} (h : ofP X.tasks ((k % 3 : Nat) : Int) = none) (hr : readiesP X.tasks (whoP X.tasks) ≠ []) : turnP X k = pickC X 3 ((k % 3 : Nat) : Int) ((readiesP X.tasks (whoP X.tasks))[k % (readiesP X.tasks (whoP X.tasks)).length]?.getD 0) := by
  unfold turnP
  rw [h]
  simp only [Option.isSome_none]
  rw [if_neg (by decide), if_neg hr]
/-- turns told by bytes. -/
def tsN (l : List Int) : List Nat := l.map Int.toNat
theorem kAt_in {l : List Int} {n : Nat} {x : Int} (hx : l[n]? = some x) : kAt (tsN l) n = x.toNat := by
  unfold kAt tsN
  rw [List.getElem?_map, hx]
  rfl
theorem kAt_out {l : List Int} {n : Nat} (h : l.length ≤ n) : kAt (tsN l) n = n := by
  unfold kAt tsN
  rw [List.getElem?_map, List.getElem?_eq_none h]
  rfl

theorem tmod_nat (K m : Nat) : (K : Int).tmod (m : Int) = ((K % m : Nat) : Int) := rfl
theorem tmod_three (K : Nat) : (K : Int).tmod 3 = ((K % 3 : Nat) : Int) := rfl
theorem wrap_nat {K : Nat} (h : K ≤ 1000000) : wrap64 (K : Int) = (K : Int) := by
  unfold wrap64
  omega

theorem lastJ_some {L : List Tsk} {k : Int} {j q : Nat} (h : ofP L (j : Int) = some q) : lastJ L k (j + 1) = (j : Int) := by
  unfold lastJ
  rw [h]
  rfl
theorem lastJ_none {L : List Tsk} {k : Int} {j : Nat} (h : ofP L (j : Int) = none) : lastJ L k (j + 1) = lastJ L k j := by
  rw [show lastJ L k (j + 1) = if (ofP L (j : Int)).isSome then (j : Int) else lastJ L k j from rfl, h]
  rfl

end Go.Proofs.Ytpaocjpjlogkgaa
