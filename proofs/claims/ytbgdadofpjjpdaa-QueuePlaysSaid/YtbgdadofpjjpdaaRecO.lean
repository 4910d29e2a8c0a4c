/-
  A slice that reads record by record. It names no function and no type of the program. No conditions but those that stand there.
-/
import Derived.Test.YtbgdadofpjjpdaaRecW
import Derived.Test.YtbgdadofpjjpdaaAddr
namespace Go.Proofs.Ytbgdadofpjjpdaa
open Go.RowKit

theorem sl_recs {α : Type} {f : α → List Value} {k : Nat} (hf : ∀ x, (f x).length = k) (hk : 0 < k) {w : World} {a : Addr} {n c : Nat} (F : Nat → α) (hl : n ≤ c) (h : ∀ i, i < n → ∀ j, j < k → w.cell? (a.add (i * k + j)) = (f (F i))[j]?) :
    Sl w k (some a) n c (((List.range n).map F).flatMap f) := by
  have hlen : ((List.range n).map F).length = n := by simp
  refine ⟨by rw [recs_length hf, hlen], hl, fun h => (by cases h), fun hn => ?_⟩
  obtain ⟨v, hv⟩ : ∃ v, (f (F 0))[0]? = some v := ⟨_, List.getElem?_eq_getElem (by rw [hf]; exact hk)⟩
  have h0 := (h 0 hn 0 hk).trans hv
  rw [Nat.zero_mul, Nat.zero_add, show a.add 0 = a from rfl] at h0
  obtain ⟨b, off, rfl, hlt⟩ := addr_plain h0
  refine ⟨b, off, rfl, hlt, fun m hm => ?_⟩
  have hp : m / k < n := Nat.div_lt_of_lt_mul (by rw [Nat.mul_comm]; exact hm)
  have hq : m % k < k := Nat.mod_lt _ hk
  have e : m / k * k + m % k = m := by rw [Nat.mul_comm]; exact Nat.div_add_mod m k
  have h1 := h (m / k) hp (m % k) hq
  have h2 := recs_at hf ((List.range n).map F) (m / k) (F (m / k)) (by rw [List.getElem?_map, List.getElem?_range hp]; rfl) (m % k) hq
  rw [e] at h1 h2
  rw [Addr.add_lit] at h1
  rw [h1, h2]

end Go.Proofs.Ytbgdadofpjjpdaa
