/-
  Instructions as bytes, on plain numbers: there and back. No conditions but those that stand there.
-/
import Derived.Test.YtgoamkneenmbgaaAsmP
import Derived.Test.YtgoamkneenmbgaaLayQ
namespace Go.Proofs.Ytgoamkneenmbgaa
open Go.RowKit

theorem takes_two (op : Int) : takesN op = 0 ∨ takesN op = 1 ∨ takesN op = 2 := by
  unfold takesN
  split
  · exact .inr (.inr rfl)
  · split
    · exact .inr (.inl rfl)
    · exact .inl rfl

/-! ### what was read stands there -/
theorem byte_fine {s : ByteArray} {p : Nat} (h : (byteR s ⟨(p : Int), false⟩).bad = false) : (bL s)[p]? = some (byteV s ⟨(p : Int), false⟩) ∧ byteR s ⟨(p : Int), false⟩ = ⟨((p + 1 : Nat) : Int), false⟩ := by
  have hp : p < s.size := by
    rcases Nat.lt_or_ge p s.size with h1 | h1
    · exact h1
    · rw [byteR_no (ok_far s (p : Int) (by omega))] at h
      cases h
  refine ⟨by rw [byteV_of hp, bL_get s p hp], by rw [byteR_of hp]; simp⟩

theorem it_fine {s : ByteArray} {p : Nat} : ∀ k, (itR s k ⟨(p : Int), false⟩).bad = false → itR s k ⟨(p : Int), false⟩ = ⟨((p + k : Nat) : Int), false⟩
  | 0, _ => rfl
  | k + 1, h => by
    have hk : (itR s k ⟨(p : Int), false⟩).bad = false := by
      cases hb : (itR s k ⟨(p : Int), false⟩).bad with
      | false => rfl
      | true => rw [itR, byteR_bad hb, hb] at h; cases h
    have ih := it_fine k hk
    rw [itR, ih] at h ⊢
    rw [(byte_fine h).2]
    rfl

theorem itR_bad_le {s : ByteArray} {r : Rd} {k : Nat} : ∀ m, k ≤ m → (itR s m r).bad = false → (itR s k r).bad = false := by
  intro m hm h
  cases hb : (itR s k r).bad with
  | false => rfl
  | true =>
    obtain ⟨d, rfl⟩ := Nat.exists_eq_add_of_le hm
    have key : ∀ d, (itR s (k + d) r).bad = true := by
      intro d
      induction d with
      | zero => exact hb
      | succ d ih => rw [← Nat.add_assoc, itR, byteR_bad ih]; exact ih
    rw [key d] at h
    cases h

theorem itU_pow (s : ByteArray) (r : Rd) : ∀ k, k ≤ 8 → itU s k r < 256 ^ k
  | 0, _ => by simp [itU]
  | k + 1, hk => by
    have ih := itU_pow s r k (by omega)
    have hb := byteV_lt s (itR s k r)
    have h1 : itU s k r * 256 % 18446744073709551616 ≤ itU s k r * 256 := Nat.mod_le _ _
    rw [itU, Nat.pow_succ]
    omega

theorem itU_step (s : ByteArray) (r : Rd) (k : Nat) (h : k < 8) : itU s (k + 1) r = itU s k r * 256 + byteV s (itR s k r) := by
  have h1 := itU_pow s r k (by omega)
  have h2 : 256 ^ k ≤ 256 ^ 7 := Nat.pow_le_pow_right (by omega) (by omega)
  rw [itU, Nat.mod_eq_of_lt]
  have h3 : (256 : Nat) ^ 7 = 72057594037927936 := by decide
  omega

theorem itU_div (s : ByteArray) (r : Rd) (k : Nat) : ∀ d, k + d ≤ 8 → itU s (k + d) r / 256 ^ d = itU s k r
  | 0, _ => by simp
  | d + 1, h => by
    have hb := byteV_lt s (itR s (k + d) r)
    rw [← Nat.add_assoc, itU_step s r (k + d) (by omega), Nat.pow_succ, Nat.mul_comm (256 ^ d), ← Nat.div_div_eq_div_mul, show (itU s (k + d) r * 256 + byteV s (itR s (k + d) r)) / 256 = itU s (k + d) r by omega, itU_div s r k d (by omega)]

theorem uOf_sgn (u : Nat) (h : u < 18446744073709551616) : uOf (sgn u) = u := by
  unfold uOf sgn wrap64
  omega

theorem sgn_in (u : Nat) : -9223372036854775808 ≤ sgn u ∧ sgn u ≤ 9223372036854775807 := by
  unfold sgn wrap64
  omega

/-- a number that was read stands there. -/
theorem num_fine {s : ByteArray} {p : Nat} (h : (numR s ⟨(p : Int), false⟩).bad = false) :
    numR s ⟨(p : Int), false⟩ = ⟨((p + 8 : Nat) : Int), false⟩ ∧ Stands s p (numV s ⟨(p : Int), false⟩) ∧ (-9223372036854775808 ≤ numV s ⟨(p : Int), false⟩ ∧ numV s ⟨(p : Int), false⟩ ≤ 9223372036854775807) := by
  have hV : numV s ⟨(p : Int), false⟩ = sgn (itU s 8 ⟨(p : Int), false⟩) := by rw [numV, if_neg (by rw [h]; decide)]
  refine ⟨it_fine 8 h, fun k hk => ?_, by rw [hV]; exact sgn_in _⟩
  have hk1 := it_fine k (itR_bad_le 8 (by omega) h)
  have hk2 : (byteR s ⟨((p + k : Nat) : Int), false⟩).bad = false := by
    have := itR_bad_le (k := k + 1) 8 (by omega) h
    rw [itR, hk1] at this
    exact this
  rw [(byte_fine hk2).1, hV, byteN, uOf_sgn _ (itU_lt s 8 _)]
  have h1 := itU_div s ⟨(p : Int), false⟩ (k + 1) (8 - (k + 1)) (by omega)
  rw [show k + 1 + (8 - (k + 1)) = 8 by omega, show 8 - (k + 1) = 7 - k by omega] at h1
  rw [Nat.pow_mul, show (2 : Nat) ^ 8 = 256 from rfl, h1, itU_step s _ k hk, hk1]
  have hb := byteV_lt s ⟨((p + k : Nat) : Int), false⟩
  congr 1
  omega

/-! ### instructions -/
def rightN (x : Ins) : Prop := (1 ≤ x.op ∧ x.op ≤ 17) ∧ (0 < takesN x.op ∨ x.a = 0) ∧ (1 < takesN x.op ∨ x.b = 0)
instance (x : Ins) : Decidable (rightN x) := inferInstanceAs (Decidable (_ ∧ _))

def insB (x : Ins) : List Nat := x.op.toNat :: ((if 0 < takesN x.op then numB x.a else []) ++ (if 1 < takesN x.op then numB x.b else []))
def printN (l : List Ins) : List Nat := l.flatMap insB

theorem insB_length (x : Ins) : (insB x).length = 1 + 8 * takesN x.op := by
  have h : takesN x.op ≤ 2 := by unfold takesN; split <;> (try split) <;> omega
  rw [insB, List.length_cons, List.length_append]
  split <;> split <;> simp [numB_length] <;> omega

theorem printN_length (l : List Ins) : (printN l).length = (l.map fun x => 1 + 8 * takesN x.op).sum := by
  induction l with
  | nil => rfl
  | cons x l ih => rw [printN, List.flatMap_cons, List.length_append, insB_length, List.map_cons, List.sum_cons, ← ih]; rfl

theorem insB_lt {x : Ins} (h : rightN x) : ∀ b ∈ insB x, b < 256 := by
  intro b hb
  obtain ⟨h1, -, -⟩ := h
  rcases List.mem_cons.1 hb with rfl | hb
  · omega
  · rcases List.mem_append.1 hb with hb | hb
    · split at hb
      · exact numB_lt _ b hb
      · cases hb
    · split at hb
      · exact numB_lt _ b hb
      · cases hb

theorem printN_lt {l : List Ins} (h : ∀ x ∈ l, rightN x) : ∀ b ∈ printN l, b < 256 := by
  intro b hb
  obtain ⟨x, hx, hb⟩ := List.mem_flatMap.1 hb
  exact insB_lt (h x hx) b hb

/-- the next instruction, as it stands there. -/
def insV (s : ByteArray) (r : Rd) : Ins := ⟨(byteV s r : Int), if 0 < takesN (byteV s r : Int) then numV s (byteR s r) else 0, if 1 < takesN (byteV s r : Int) then numV s (numR s (byteR s r)) else 0⟩
def insR (s : ByteArray) (r : Rd) : Rd := if 1 < takesN (byteV s r : Int) then numR s (numR s (byteR s r)) else if 0 < takesN (byteV s r : Int) then numR s (byteR s r) else byteR s r

/-- so many more, behind those that there are. -/
def rdI (s : ByteArray) : Nat → Rd → List Ins → Option (List Ins) × Rd
  | 0, r, out => (some out, r)
  | n + 1, r, out => if (insR s r).bad = true ∨ ¬ rightN (insV s r) then (none, ⟨(insR s r).at_, true⟩) else rdI s n (insR s r) (out ++ [insV s r])

theorem rdI_no {s : ByteArray} {n : Nat} {r : Rd} {out : List Ins} (h : (insR s r).bad = true ∨ ¬ rightN (insV s r)) : rdI s (n + 1) r out = (none, ⟨(insR s r).at_, true⟩) := by rw [rdI, if_pos h]
theorem rdI_yes {s : ByteArray} {n : Nat} {r : Rd} {out : List Ins} (h : (insR s r).bad = false) (h' : rightN (insV s r)) : rdI s (n + 1) r out = rdI s n (insR s r) (out ++ [insV s r]) := by
  rw [rdI, if_neg (by rw [h]; simp [h'])]

/-- the bytes stand there. -/
def StandsL (s : ByteArray) (p : Nat) (l : List Nat) : Prop := ∀ k, k < l.length → (bL s)[p + k]? = l[k]?

theorem StandsL.left {s : ByteArray} {p : Nat} {l m : List Nat} (h : StandsL s p (l ++ m)) : StandsL s p l := fun k hk => by
  rw [h k (by rw [List.length_append]; omega), List.getElem?_append_left hk]
theorem StandsL.right {s : ByteArray} {p : Nat} {l m : List Nat} (h : StandsL s p (l ++ m)) : StandsL s (p + l.length) m := fun k hk => by
  rw [Nat.add_assoc, h (l.length + k) (by rw [List.length_append]; omega), List.getElem?_append_right (by omega), Nat.add_sub_cancel_left]
theorem StandsL.append {s : ByteArray} {p : Nat} {l m : List Nat} (h : StandsL s p l) (h' : StandsL s (p + l.length) m) : StandsL s p (l ++ m) := fun k hk => by
  rw [List.length_append] at hk
  by_cases hl : k < l.length
  · rw [h k hl, List.getElem?_append_left hl]
  · have := h' (k - l.length) (by omega)
    rw [show p + l.length + (k - l.length) = p + k by omega] at this
    rw [this, List.getElem?_append_right (by omega)]
theorem StandsL.head {s : ByteArray} {p b : Nat} {l : List Nat} (h : StandsL s p (b :: l)) : (bL s)[p]? = some b := h 0 (by simp)
theorem StandsL.tail {s : ByteArray} {p b : Nat} {l : List Nat} (h : StandsL s p (b :: l)) : StandsL s (p + 1) l := fun k hk => by
  have := h (k + 1) (by simpa using hk)
  rw [show p + (k + 1) = p + 1 + k by omega] at this
  simpa using this
theorem StandsL.cons {s : ByteArray} {p b : Nat} {l : List Nat} (h : (bL s)[p]? = some b) (h' : StandsL s (p + 1) l) : StandsL s p (b :: l) := fun k hk => by
  cases k with
  | zero => exact h
  | succ k =>
    have := h' k (by simpa using hk)
    rw [show p + 1 + k = p + (k + 1) by omega] at this
    simpa using this
theorem stands_num {s : ByteArray} {p : Nat} {n : Int} (h : StandsL s p (numB n)) : Stands s p n := fun k hk => by
  rw [h k (by rw [numB_length]; exact hk), numB_at n k hk]
theorem num_stands {s : ByteArray} {p : Nat} {n : Int} (h : Stands s p n) : StandsL s p (numB n) := fun k hk => by
  rw [numB_length] at hk
  rw [h k hk, numB_at n k hk]

/-- an instruction that stands there is read. -/
theorem ins_back {s : ByteArray} {p : Nat} {x : Ins} (hx : rightN x) (hi : inI x) (h : StandsL s p (insB x)) : insV s ⟨(p : Int), false⟩ = x ∧ insR s ⟨(p : Int), false⟩ = ⟨((p + (insB x).length : Nat) : Int), false⟩ := by
  obtain ⟨⟨o1, o2⟩, ha, hb⟩ := hx
  obtain ⟨ia, ib⟩ := hi
  obtain ⟨op, a, b⟩ := x
  simp only at o1 o2 ha hb ia ib
  obtain ⟨h1, h2⟩ := byte_there h.head
  have hop : ((op.toNat : Nat) : Int) = op := by omega
  have ht := h.tail
  simp only at h1 ht
  have hlen := insB_length ⟨op, a, b⟩
  simp only at hlen
  have htl : takesN op ≤ 2 := by unfold takesN; split <;> (try split) <;> omega
  unfold insV insR
  rw [h1, h2, hop]
  by_cases t0 : 0 < takesN op
  · rw [if_pos t0] at ht
    obtain ⟨n1, n2⟩ := num_back (stands_num ht.left) ia
    by_cases t1 : 1 < takesN op
    · rw [if_pos t1] at ht
      have ht2 := ht.right
      rw [numB_length] at ht2
      obtain ⟨m1, m2⟩ := num_back (stands_num ht2) ib
      rw [if_pos t0, if_pos t1, if_pos t1, n1, n2, m1, m2]
      refine ⟨rfl, ?_⟩
      rw [hlen, show takesN op = 2 by omega]
    · have hb0 : b = 0 := by omega
      rw [if_pos t0, if_neg t1, if_neg t1, if_pos t0, n1, n2, hb0]
      refine ⟨rfl, ?_⟩
      subst hb0
      rw [hlen, show takesN op = 1 by omega]
  · have t1 : ¬ 1 < takesN op := by omega
    have ha0 : a = 0 := by omega
    have hb0 : b = 0 := by omega
    rw [if_neg t0, if_neg t1, if_neg t1, if_neg t0, ha0, hb0]
    refine ⟨rfl, ?_⟩
    subst ha0
    subst hb0
    rw [hlen, show takesN op = 0 by omega]

/-- there and back. -/
theorem rd_back {s : ByteArray} : ∀ (l : List Ins) (p : Nat) (out : List Ins), (∀ x ∈ l, rightN x ∧ inI x) → StandsL s p (printN l) → rdI s l.length ⟨(p : Int), false⟩ out = (some (out ++ l), ⟨((p + (printN l).length : Nat) : Int), false⟩)
  | [], p, out, _, _ => by simp [rdI, printN]
  | x :: l, p, out, h, hs => by
    obtain ⟨hx, hi⟩ := h x (by simp)
    rw [show printN (x :: l) = insB x ++ printN l from List.flatMap_cons] at hs ⊢
    obtain ⟨h1, h2⟩ := ins_back hx hi hs.left
    rw [List.length_cons, rdI_yes (by rw [h2]) (by rw [h1]; exact hx), h1, h2, rd_back l _ _ (fun y hy => h y (by simp [hy])) hs.right, List.append_assoc, List.length_append]
    simp only [List.singleton_append, Nat.add_assoc]

theorem byteR_keeps {s : ByteArray} {r : Rd} (h : (byteR s r).bad = false) : r.bad = false := by
  cases hb : r.bad with
  | false => rfl
  | true => rw [byteR_bad hb, hb] at h; cases h
theorem numR_keeps {s : ByteArray} {r : Rd} (h : (numR s r).bad = false) : r.bad = false := by
  cases hb : r.bad with
  | false => rfl
  | true => rw [numR, itR_bad hb, hb] at h; cases h

/-- what was read stands there. -/
theorem ins_fine {s : ByteArray} {p : Nat} (h : (insR s ⟨(p : Int), false⟩).bad = false) :
    insR s ⟨(p : Int), false⟩ = ⟨((p + (insB (insV s ⟨(p : Int), false⟩)).length : Nat) : Int), false⟩ ∧ StandsL s p (insB (insV s ⟨(p : Int), false⟩)) ∧ inI (insV s ⟨(p : Int), false⟩) := by
  have hlen := insB_length (insV s ⟨(p : Int), false⟩)
  rw [hlen]
  unfold insR at h ⊢
  have hop : (insV s ⟨(p : Int), false⟩).op = (byteV s ⟨(p : Int), false⟩ : Int) := rfl
  rw [hop]
  have htl : takesN (byteV s ⟨(p : Int), false⟩ : Int) ≤ 2 := by unfold takesN; split <;> (try split) <;> omega
  by_cases t1 : 1 < takesN (byteV s ⟨(p : Int), false⟩ : Int)
  · have t0 : 0 < takesN (byteV s ⟨(p : Int), false⟩ : Int) := by omega
    rw [if_pos t1] at h ⊢
    have hn := numR_keeps h
    obtain ⟨b1, b2⟩ := byte_fine (numR_keeps hn)
    rw [b2] at hn h ⊢
    obtain ⟨n1, n2, n3⟩ := num_fine hn
    rw [n1] at h ⊢
    obtain ⟨m1, m2, m3⟩ := num_fine h
    have hA : (insV s ⟨(p : Int), false⟩).a = numV s ⟨((p + 1 : Nat) : Int), false⟩ := by unfold insV; simp only; rw [if_pos t0, b2]
    have hB : (insV s ⟨(p : Int), false⟩).b = numV s ⟨((p + 1 + 8 : Nat) : Int), false⟩ := by unfold insV; simp only; rw [if_pos t1, b2, n1]
    refine ⟨by rw [m1, show takesN (byteV s ⟨(p : Int), false⟩ : Int) = 2 by omega], ?_, by rw [inI, hA, hB]; exact ⟨n3, m3⟩⟩
    unfold insB
    rw [hop, if_pos t0, if_pos t1, hA, hB]
    refine .cons (by simpa using b1) (.append (num_stands n2) ?_)
    rw [numB_length]
    exact num_stands m2
  · rw [if_neg t1] at h ⊢
    have hB : (insV s ⟨(p : Int), false⟩).b = 0 := by unfold insV; simp only; rw [if_neg t1]
    by_cases t0 : 0 < takesN (byteV s ⟨(p : Int), false⟩ : Int)
    · rw [if_pos t0] at h ⊢
      obtain ⟨b1, b2⟩ := byte_fine (numR_keeps h)
      rw [b2] at h ⊢
      obtain ⟨n1, n2, n3⟩ := num_fine h
      have hA : (insV s ⟨(p : Int), false⟩).a = numV s ⟨((p + 1 : Nat) : Int), false⟩ := by unfold insV; simp only; rw [if_pos t0, b2]
      refine ⟨by rw [n1, show takesN (byteV s ⟨(p : Int), false⟩ : Int) = 1 by omega], ?_, by rw [inI, hA, hB]; exact ⟨n3, by omega, by omega⟩⟩
      unfold insB
      rw [hop, if_pos t0, if_neg t1, hA, List.append_nil]
      exact .cons (by simpa using b1) (num_stands n2)
    · rw [if_neg t0] at h ⊢
      obtain ⟨b1, b2⟩ := byte_fine h
      have hA : (insV s ⟨(p : Int), false⟩).a = 0 := by unfold insV; simp only; rw [if_neg t0]
      refine ⟨by rw [b2, show takesN (byteV s ⟨(p : Int), false⟩ : Int) = 0 by omega], ?_, by rw [inI, hA, hB]; exact ⟨⟨by omega, by omega⟩, by omega, by omega⟩⟩
      unfold insB
      rw [hop, if_neg t0, if_neg t1]
      exact .cons (by simpa using b1) (fun k hk => by simp at hk)

theorem rd_fine {s : ByteArray} : ∀ (n p : Nat) (out m : List Ins) (r : Rd), rdI s n ⟨(p : Int), false⟩ out = (some m, r) →
    ∃ l, m = out ++ l ∧ l.length = n ∧ (∀ x ∈ l, rightN x ∧ inI x) ∧ StandsL s p (printN l) ∧ r = ⟨((p + (printN l).length : Nat) : Int), false⟩
  | 0, p, out, m, r, h => by
    simp only [rdI, Prod.mk.injEq, Option.some.injEq] at h
    obtain ⟨rfl, rfl⟩ := h
    exact ⟨[], by simp, rfl, by simp, fun k hk => by simp [printN] at hk, by simp [printN]⟩
  | n + 1, p, out, m, r, h => by
    by_cases hc : (insR s ⟨(p : Int), false⟩).bad = true ∨ ¬ rightN (insV s ⟨(p : Int), false⟩)
    · rw [rdI_no hc] at h
      cases h
    · have hb : (insR s ⟨(p : Int), false⟩).bad = false := by
        cases hb : (insR s ⟨(p : Int), false⟩).bad with
        | false => rfl
        | true => exact absurd (.inl hb) hc
      have hr : rightN (insV s ⟨(p : Int), false⟩) := Classical.byContradiction fun e => hc (.inr e)
      rw [rdI_yes hb hr] at h
      obtain ⟨h1, h2, h3⟩ := ins_fine hb
      rw [h1] at h
      obtain ⟨l, rfl, hl, hall, hst, rfl⟩ := rd_fine n _ _ _ _ h
      refine ⟨insV s ⟨(p : Int), false⟩ :: l, by simp, by simp [hl], ?_, ?_, ?_⟩
      · intro x hx
        rcases List.mem_cons.1 hx with rfl | hx
        · exact ⟨hr, h3⟩
        · exact hall x hx
      · exact .append h2 hst
      · rw [show printN (insV s ⟨(p : Int), false⟩ :: l) = insB (insV s ⟨(p : Int), false⟩) ++ printN l from List.flatMap_cons, List.length_append, Nat.add_assoc]

end Go.Proofs.Ytgoamkneenmbgaa
