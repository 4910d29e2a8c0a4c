/-
  Two devices' variables side by side; what New answers of every number up to 200, sector's and the reference's. No conditions.
-/
import Derived.Test.YthcfncpkeldapaaRefF
import Derived.Test.YthcfncpkeldapaaSame
import Derived.Test.YthcfncpkeldapaaKept
namespace Go.Proofs.Ythcfncpkeldapaa
open Go.RowKit

/-- The device that New answers. -/
def devD (n : Int) : Dk := if n < 0 then ⟨[], [], false, 0⟩ else newD n.toNat

/-- The error that New answers. -/
def errD (n : Int) : Int := if n < 0 then 1 else 0

theorem devD_ok (n : Int) (h : n ≤ 200) : (devD n).ok := by
  unfold devD
  split
  · exact ⟨by simp, by simp, by simp, by simp, by simp⟩
  · exact newD_ok _ (by omega)

theorem devD_loose (n : Int) : (devD n).loose = [] := by
  unfold devD
  split <;> rfl

theorem IsDk.zero (w : World) : IsDk w (.agg #[.slice none 0 0, .slice none 0 0, .bool false, .int .i64 0]) ⟨[], [], false, 0⟩ :=
  ⟨none, 0, none, 0, rfl, Sl.nil _ _, Sl.nil _ _, Ty.zero, Ty.zero⟩

theorem new_dev (n : Int) (w : World) (h : n ≤ 200) :
    Calls Try.prog 12 #[.int .i64 n] w fun e w' => ∃ v, e = .returned (.tuple #[v, .int .i64 (errD n)]) ∧ IsDk w' v (devD n) ∧ Below w.heap.size w w' := by
  unfold devD errD
  by_cases h0 : n < 0
  · simp only [if_pos h0]
    exact (new_no n w (.inl h0)).mono fun e w' ⟨he, hb⟩ => ⟨_, he, IsDk.zero _, hb⟩
  · simp only [if_neg h0]
    obtain ⟨k, rfl⟩ := Int.eq_ofNat_of_zero_le (show 0 ≤ n by omega)
    exact new_yes k w (by omega)

theorem rnew_dev (n : Int) (w : World) (h : n ≤ 200) :
    Calls Try.prog 13 #[.int .i64 n] w fun e w' => ∃ v, e = .returned (.tuple #[v, .int .i64 (errD n)]) ∧ IsDk w' v (devD n) ∧ Below w.heap.size w w' := by
  unfold devD errD
  by_cases h0 : n < 0
  · simp only [if_pos h0]
    exact (rnew_no n w (.inl h0)).mono fun e w' ⟨he, hb⟩ => ⟨_, he, IsDk.zero _, hb⟩
  · simp only [if_neg h0]
    obtain ⟨k, rfl⟩ := Int.eq_ofNat_of_zero_le (show 0 ≤ n by omega)
    exact rnew_yes k w (by omega)

/-- Block gd is a device's variable that reads as D, block gx one that reads as E. -/
def Pair (X : World) (gd gx : Nat) (D E : Dk) : Prop :=
  ∃ A c B d A' c' B' d', Bk X gd 28 #[.slice A D.sec.length c, .slice B D.loose.length d, .bool D.down, .int .i64 D.left] ∧ IsDk X (.agg #[.slice A D.sec.length c, .slice B D.loose.length d, .bool D.down, .int .i64 D.left]) D ∧
    Bk X gx 28 #[.slice A' E.sec.length c', .slice B' E.loose.length d', .bool E.down, .int .i64 E.left] ∧ IsDk X (.agg #[.slice A' E.sec.length c', .slice B' E.loose.length d', .bool E.down, .int .i64 E.left]) E

/-- The first one is written anew. -/
theorem Pair.first {X : World} {gd gx : Nat} {D' E : Dk} {v0 v1 v2 v3 : Value} {A B A' B' : Option Addr} {c d c' d' : Nat} (hne : gd ≠ gx) (kd : Bk X gd 28 #[v0, v1, v2, v3])
    (kx : Bk X gx 28 #[.slice A' E.sec.length c', .slice B' E.loose.length d', .bool E.down, .int .i64 E.left]) (vx : IsDk X (.agg #[.slice A' E.sec.length c', .slice B' E.loose.length d', .bool E.down, .int .i64 E.left]) E)
    (v : IsDk X (.agg #[.slice A D'.sec.length c, .slice B D'.loose.length d, .bool D'.down, .int .i64 D'.left]) D') :
    Pair ((((X.setCell ⟨gd, 0, none⟩ (.slice A D'.sec.length c)).setCell ⟨gd, 1, none⟩ (.slice B D'.loose.length d)).setCell ⟨gd, 2, none⟩ (.bool D'.down)).setCell ⟨gd, 3, none⟩ (.int .i64 D'.left)) gd gx D' E :=
  ⟨A, c, B, d, A', c', B', d', kd.store4 _ _ _ _, v.store4 kd _ _ _ _, far4 kx (Ne.symm hne), vx.store4 kd _ _ _ _⟩

/-- The second one is written anew. -/
theorem Pair.second {X : World} {gd gx : Nat} {D E' : Dk} {v0 v1 v2 v3 : Value} {A B A' B' : Option Addr} {c d c' d' : Nat} (hne : gd ≠ gx) (kx : Bk X gx 28 #[v0, v1, v2, v3])
    (kd : Bk X gd 28 #[.slice A D.sec.length c, .slice B D.loose.length d, .bool D.down, .int .i64 D.left]) (vd : IsDk X (.agg #[.slice A D.sec.length c, .slice B D.loose.length d, .bool D.down, .int .i64 D.left]) D)
    (v : IsDk X (.agg #[.slice A' E'.sec.length c', .slice B' E'.loose.length d', .bool E'.down, .int .i64 E'.left]) E') :
    Pair ((((X.setCell ⟨gx, 0, none⟩ (.slice A' E'.sec.length c')).setCell ⟨gx, 1, none⟩ (.slice B' E'.loose.length d')).setCell ⟨gx, 2, none⟩ (.bool E'.down)).setCell ⟨gx, 3, none⟩ (.int .i64 E'.left)) gd gx D E' :=
  ⟨A, c, B, d, A', c', B', d', far4 kd hne, vd.store4 kx _ _ _ _, kx.store4 _ _ _ _, v.store4 kx _ _ _ _⟩

/-- Both are written anew, the first one first. -/
theorem Pair.both {X : World} {gd gx : Nat} {D' E' : Dk} {v0 v1 v2 v3 u0 u1 u2 u3 : Value} {A B A' B' : Option Addr} {c d c' d' : Nat} (hne : gd ≠ gx) (kd : Bk X gd 28 #[v0, v1, v2, v3]) (kx : Bk X gx 28 #[u0, u1, u2, u3])
    (v : IsDk X (.agg #[.slice A D'.sec.length c, .slice B D'.loose.length d, .bool D'.down, .int .i64 D'.left]) D')
    (u : IsDk X (.agg #[.slice A' E'.sec.length c', .slice B' E'.loose.length d', .bool E'.down, .int .i64 E'.left]) E') :
    Pair ((((((((X.setCell ⟨gd, 0, none⟩ (.slice A D'.sec.length c)).setCell ⟨gd, 1, none⟩ (.slice B D'.loose.length d)).setCell ⟨gd, 2, none⟩ (.bool D'.down)).setCell ⟨gd, 3, none⟩ (.int .i64 D'.left)).setCell ⟨gx, 0, none⟩ (.slice A' E'.sec.length c')).setCell ⟨gx, 1, none⟩ (.slice B' E'.loose.length d')).setCell ⟨gx, 2, none⟩ (.bool E'.down)).setCell ⟨gx, 3, none⟩ (.int .i64 E'.left)) gd gx D' E' := by
  have k1 := kd.store4 (.slice A D'.sec.length c) (.slice B D'.loose.length d) (.bool D'.down) (.int .i64 D'.left)
  have k2 := far4 kx (Ne.symm hne) (x0 := .slice A D'.sec.length c) (x1 := .slice B D'.loose.length d) (x2 := .bool D'.down) (x3 := .int .i64 D'.left)
  exact Pair.second hne k2 k1 (v.store4 kd _ _ _ _) (u.store4 kd _ _ _ _)

/-- All that a deed's statement reads, in the world U. -/
structure Bun (w U : World) (gd gx b o : Nat) (D : Dk) (xa : Int) (xs : List Bool) (xt xb : Int) (S A1 B1 A2 B2 : Option Addr) (qc c1 d1 c2 d2 : Nat) : Prop where
  kd : Bk U gd 28 #[.slice A1 D.sec.length c1, .slice B1 D.loose.length d1, .bool D.down, .int .i64 D.left]
  vd : IsDk U (.agg #[.slice A1 D.sec.length c1, .slice B1 D.loose.length d1, .bool D.down, .int .i64 D.left]) D
  kx : Bk U gx 28 #[.slice A2 D.sec.length c2, .slice B2 D.loose.length d2, .bool D.down, .int .i64 D.left]
  vx : IsDk U (.agg #[.slice A2 D.sec.length c2, .slice B2 D.loose.length d2, .bool D.down, .int .i64 D.left]) D
  y1 : U.cell? ⟨b, o + 1, none⟩ = some (.int .i64 xa)
  y3 : U.cell? ⟨b, o + 3, none⟩ = some (.slice S xs.length qc)
  y4 : U.cell? ⟨b, o + 4, none⟩ = some (.int .i64 xt)
  y5 : U.cell? ⟨b, o + 5, none⟩ = some (.int .i64 xb)
  sl : Sl U 1 S xs.length qc (xs.map Value.bool)
  lb : b < U.heap.size
  t : Below w.heap.size w U

theorem Bun.below {w U V : World} {gd gx b o : Nat} {D : Dk} {xa : Int} {xs : List Bool} {xt xb : Int} {S A1 B1 A2 B2 : Option Addr} {qc c1 d1 c2 d2 : Nat} (h : Bun w U gd gx b o D xa xs xt xb S A1 B1 A2 B2 qc c1 d1 c2 d2) (hb : Below U.heap.size U V) :
    Bun w V gd gx b o D xa xs xt xb S A1 B1 A2 B2 qc c1 d1 c2 d2 :=
  ⟨h.kd.below hb, h.vd.below hb, h.kx.below hb, h.vx.below hb, (hb.cell (p := ⟨b, o + 1, none⟩) h.lb).trans h.y1, (hb.cell (p := ⟨b, o + 3, none⟩) h.lb).trans h.y3, (hb.cell (p := ⟨b, o + 4, none⟩) h.lb).trans h.y4, (hb.cell (p := ⟨b, o + 5, none⟩) h.lb).trans h.y5, h.sl.below hb, Nat.lt_of_lt_of_le h.lb hb.size, bnext h.t hb⟩

theorem bunNext {G : Prop} {w U V : World} {gd gx b o : Nat} {D : Dk} {xa : Int} {xs : List Bool} {xt xb : Int} {S A1 B1 A2 B2 : Option Addr} {qc c1 d1 c2 d2 : Nat} (h : Bun w U gd gx b o D xa xs xt xb S A1 B1 A2 B2 qc c1 d1 c2 d2) (hb : Below U.heap.size U V)
    (k : Bun w V gd gx b o D xa xs xt xb S A1 B1 A2 B2 qc c1 d1 c2 d2 → G) : G := k (h.below hb)

theorem dkNext {G : Prop} {U V : World} {v : Value} {D : Dk} (h : IsDk U v D) (hb : Below U.heap.size U V) (k : IsDk V v D → G) : G := k (h.below hb)

/-- Both devices are written anew, behind the calls. -/
theorem Bun.fin {w U : World} {gd gx b o : Nat} {D : Dk} {xa : Int} {xs : List Bool} {xt xb : Int} {S A1 B1 A2 B2 : Option Addr} {qc c1 d1 c2 d2 : Nat} (h : Bun w U gd gx b o D xa xs xt xb S A1 B1 A2 B2 qc c1 d1 c2 d2) (hne : gd ≠ gx) (hd : w.heap.size ≤ gd) (hx : w.heap.size ≤ gx) {D' : Dk} {A B A' B' : Option Addr} {c d c' d' : Nat}
    (v : IsDk U (.agg #[.slice A D'.sec.length c, .slice B D'.loose.length d, .bool D'.down, .int .i64 D'.left]) D')
    (u : IsDk U (.agg #[.slice A' D'.sec.length c', .slice B' D'.loose.length d', .bool D'.down, .int .i64 D'.left]) D') :
    Pair ((((((((U.setCell ⟨gd, 0, none⟩ (.slice A D'.sec.length c)).setCell ⟨gd, 1, none⟩ (.slice B D'.loose.length d)).setCell ⟨gd, 2, none⟩ (.bool D'.down)).setCell ⟨gd, 3, none⟩ (.int .i64 D'.left)).setCell ⟨gx, 0, none⟩ (.slice A' D'.sec.length c')).setCell ⟨gx, 1, none⟩ (.slice B' D'.loose.length d')).setCell ⟨gx, 2, none⟩ (.bool D'.down)).setCell ⟨gx, 3, none⟩ (.int .i64 D'.left)) gd gx D' D' ∧
    Below w.heap.size w ((((((((U.setCell ⟨gd, 0, none⟩ (.slice A D'.sec.length c)).setCell ⟨gd, 1, none⟩ (.slice B D'.loose.length d)).setCell ⟨gd, 2, none⟩ (.bool D'.down)).setCell ⟨gd, 3, none⟩ (.int .i64 D'.left)).setCell ⟨gx, 0, none⟩ (.slice A' D'.sec.length c')).setCell ⟨gx, 1, none⟩ (.slice B' D'.loose.length d')).setCell ⟨gx, 2, none⟩ (.bool D'.down)).setCell ⟨gx, 3, none⟩ (.int .i64 D'.left)) :=
  ⟨Pair.both hne h.kd h.kx v u, bset4 (bset4 h.t hd) hx⟩

theorem farc4 {U : World} {b o g : Nat} {v x0 x1 x2 x3 : Value} (h : U.cell? ⟨b, o, none⟩ = some v) (hne : b ≠ g) :
    ((((U.setCell ⟨g, 0, none⟩ x0).setCell ⟨g, 1, none⟩ x1).setCell ⟨g, 2, none⟩ x2).setCell ⟨g, 3, none⟩ x3).cell? ⟨b, o, none⟩ = some v := by
  have e : ∀ (V : World) (p : Addr) (u : Value), p.block = g → (V.setCell p u).cell? ⟨b, o, none⟩ = V.cell? ⟨b, o, none⟩ := fun V p u hp => World.cell?_of_block (w := V) (Below.heap_setCell V p u b (by rw [hp]; exact hne))
  rw [e _ _ _ rfl, e _ _ _ rfl, e _ _ _ rfl, e _ _ _ rfl]
  exact h

end Go.Proofs.Ythcfncpkeldapaa
