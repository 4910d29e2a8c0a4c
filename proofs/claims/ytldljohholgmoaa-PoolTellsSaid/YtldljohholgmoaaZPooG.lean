/-
  Commands of a list that workers have got, one by one: their numbers, fuel, who is ready; a task's worker set in its row. No conditions but those that stand there.
-/
import Derived.Test.YtldljohholgmoaaZPooX
import Derived.Test.YtldljohholgmoaaZPooC
import Derived.Test.YtldljohholgmoaaZLckRo
namespace Go.Proofs.Ytldljohholgmoaa
open Go.RowKit

def cmdAt (l : List CmL) (j : Nat) : Cmd := (l[j]?.getD default).c
theorem cmdAt_is {l : List CmL} {j : Nat} {x : CmL} (hx : l[j]? = some x) : cmdAt l j = x.c := by unfold cmdAt; rw [hx]; rfl
def wkAt (ws : List Int) (j : Nat) : Int := ws[j]?.getD 0
/-- the first i have got workers. -/
def newW (f : Nat → Int) (l : List CmL) (ws : List Int) (i n : Nat) : List Tsk := (List.range n).map fun j => { newP (f j) (cmdAt l j) with worker := if j < i then wkAt ws j else -1 }
theorem newW_zero (f : Nat → Int) (l : List CmL) (ws : List Int) (n : Nat) : newW f l ws 0 n = newG f l n := by
  unfold newW newG
  apply List.map_congr_left
  intro j _
  rw [if_neg (Nat.not_lt_zero _)]
  rfl
theorem newW_length (f : Nat → Int) (l : List CmL) (ws : List Int) (i n : Nat) : (newW f l ws i n).length = n := by simp [newW]
theorem newW_at (f : Nat → Int) (l : List CmL) (ws : List Int) (i : Nat) {n j : Nat} (hj : j < n) : (newW f l ws i n)[j]? = some { newP (f j) (cmdAt l j) with worker := if j < i then wkAt ws j else -1 } := by
  unfold newW
  rw [List.getElem?_map, List.getElem?_range hj]
  rfl
theorem newW_set (f : Nat → Int) (l : List CmL) (ws : List Int) {i n : Nat} (hi : i < n) : (newW f l ws i n).set i { newP (f i) (cmdAt l i) with worker := wkAt ws i } = newW f l ws (i + 1) n := by
  apply List.ext_getElem?
  intro j
  by_cases hj : j < n
  · rw [newW_at f l ws (i + 1) hj]
    by_cases e : j = i
    · subst e
      rw [List.getElem?_set_self (by rw [newW_length]; exact hj), if_pos (by omega)]
    · rw [List.getElem?_set_ne (Ne.symm e), newW_at f l ws i hj]
      by_cases h : j < i
      · rw [if_pos h, if_pos (by omega)]
      · rw [if_neg h, if_neg (by omega)]
  · rw [List.getElem?_eq_none (by rw [List.length_set, newW_length]; omega), List.getElem?_eq_none (by rw [newW_length]; omega)]
theorem newW_good (f : Nat → Int) {l : List CmL} (h : RightC l) (ws : List Int) (i : Nat) {n : Nat} (hn : n ≤ l.length) : goodL 6 (newW f l ws i n) := fun T hT => by
  obtain ⟨j, hj, rfl⟩ := List.mem_map.1 hT
  have hj := List.mem_range.1 hj
  obtain ⟨x, hx⟩ := cml_at (l := l) (i := j) (by omega)
  show MayBe (cmdAt l j) ∧ fitsT (cmdAt l j) 6
  rw [cmdAt_is hx]
  exact h.1 _ (List.mem_of_getElem? hx)
/-- fuel, together. -/
def fuG (l : List CmL) (i : Nat) : Int := ((List.range i).map fun j => (cmdAt l j).fuel).sum
theorem fuG_succ (l : List CmL) {i : Nat} {x : CmL} (hx : l[i]? = some x) : fuG l (i + 1) = fuG l i + x.c.fuel := by
  unfold fuG
  rw [List.range_succ, List.map_append, List.sum_append]
  simp [cmdAt_is hx]
theorem fuG_le {l : List CmL} (h : RightC l) : ∀ {i : Nat}, i ≤ l.length → 0 ≤ fuG l i ∧ fuG l i ≤ 200 * i
  | 0, _ => by simp [fuG]
  | i + 1, hi => by
    obtain ⟨x, hx⟩ := cml_at (l := l) (i := i) (by omega)
    have h1 := fuG_le h (i := i) (by omega)
    have h2 := (h.1 _ (List.mem_of_getElem? hx)).1.few
    rw [fuG_succ l hx]
    have := h2.2.2.2.2
    omega
theorem newW_fuel (f : Nat → Int) (l : List CmL) (ws : List Int) (i n : Nat) : fuelP (newW f l ws i n) = fuG l n := by
  unfold fuelP newW fuG
  rw [List.map_map]
  rfl
theorem newW_fuels (f : Nat → Int) {l : List CmL} (h : RightC l) (ws : List Int) (i : Nat) {n : Nat} (hn : n ≤ l.length) : ∀ T ∈ newW f l ws i n, 0 ≤ T.m.fuel ∧ T.m.fuel ≤ 1000 := fun T hT => by
  obtain ⟨j, hj, rfl⟩ := List.mem_map.1 hT
  have hj := List.mem_range.1 hj
  obtain ⟨x, hx⟩ := cml_at (l := l) (i := j) (by omega)
  have h2 := (h.1 _ (List.mem_of_getElem? hx)).1.few
  have h3 := h2.2.2.2.2
  show 0 ≤ (cmdAt l j).fuel ∧ (cmdAt l j).fuel ≤ 1000
  rw [cmdAt_is hx]
  omega
/-- the numbers of the first i that are ready. -/
def wantG (W : Lks) (f : Nat → Int) (l : List CmL) (ws : List Int) (i : Nat) : List Int := ((List.range i).filter fun j => decide (wkAt ws j < 0) && readyL W (cmdAt l j) (f j)).map f
theorem wantG_succ (W : Lks) (f : Nat → Int) (l : List CmL) (ws : List Int) (i : Nat) : wantG W f l ws (i + 1) = if (decide (wkAt ws i < 0) && readyL W (cmdAt l i) (f i)) = true then wantG W f l ws i ++ [f i] else wantG W f l ws i := by
  unfold wantG
  rw [List.range_succ, List.filter_append]
  cases h : (decide (wkAt ws i < 0) && readyL W (cmdAt l i) (f i)) <;> simp [h]
theorem wantG_len (W : Lks) (f : Nat → Int) (l : List CmL) (ws : List Int) (i : Nat) : (wantG W f l ws i).length ≤ i := by
  unfold wantG
  rw [List.length_map]
  have := List.length_filter_le (fun j => decide (wkAt ws j < 0) && readyL W (cmdAt l j) (f j)) (List.range i)
  rwa [List.length_range] at this
theorem readiesL_newW (W : Lks) (f : Nat → Int) (l : List CmL) (ws : List Int) (n : Nat) : readiesL W (newW f l ws n n) = wantG W f l ws n := by
  unfold readiesL newW wantG
  rw [List.filter_map, List.map_map]
  have h : ∀ j ∈ List.range n, ((fun t : Tsk => decide (t.worker < 0) && readyL W t.cmd t.seq) ∘ fun j => ({ newP (f j) (cmdAt l j) with worker := if j < n then wkAt ws j else -1 } : Tsk)) j = (decide (wkAt ws j < 0) && readyL W (cmdAt l j) (f j)) := fun j hj => by
    have hj := List.mem_range.1 hj
    simp only [Function.comp, if_pos hj]
    rfl
  rw [List.filter_congr h]
  rfl

/-- a task's worker set in its row. -/
theorem tksW_wk (l : List TkL) {i : Nat} {t : TkL} (ht : l[i]? = some t) (k : Int) : (tksW l).set (i * 18 + 17) (.int .i64 k) = tksW (l.set i { t with wk := k }) := recs_set1 tkC_length l ht (by decide) rfl
theorem TkL.In.wk {t : TkL} {w : World} (h : t.In w) (k : Int) : TkL.In { t with wk := k } w := ⟨h.cmd, h.mac, h.four, h.own, h.eight⟩
theorem fewT.wk {t : TkL} (h : fewT t) (k : Int) : fewT { t with wk := k } := ⟨h.r, h.w, h.a, h.c, h.s, h.o, h.b⟩
theorem TkNew.setWk {L : List Tsk} {B : Nat} {w : World} {g n c : Nat} {l : List TkL} (h : TkNew L B w (some ⟨g, 0, none⟩) n c l) {i : Nat} {t : TkL} (ht : l[i]? = some t) (k : Int) :
    TkNew (L.set i { t.tsk with worker := k }) B (w.setCell ⟨g, i * 18 + 17, none⟩ (.int .i64 k)) (some ⟨g, 0, none⟩) n c (l.set i { t with wk := k }) := by
  have hm : ∀ u ∈ l.set i ({ t with wk := k } : TkL), ∃ v ∈ l, ∃ z, u = { v with wk := z } := fun u hu => by
    rcases List.mem_or_eq_of_mem_set hu with q | q
    · exact ⟨u, q, u.wk, rfl⟩
    · exact ⟨t, List.mem_of_getElem? ht, k, q⟩
  refine ⟨⟨by rw [List.length_set]; exact h.own.1, ?_, fun u hu => ?_⟩, ?_, fun u hu => ?_, fun u hu => ?_, fun g' off e u hu => ?_⟩
  · have := (h.own.2.1.stored (i * 18 + 17) (.int .i64 k)).1
    rwa [tksW_wk l ht k] at this
  · obtain ⟨v, hv, z, rfl⟩ := hm u hu
    exact ((h.own.2.2 v hv).wk z).setCell ⟨(h.off _ _ rfl v hv).x, (h.off _ _ rfl v hv).m⟩ _ _
  · unfold saysT
    rw [List.map_set, h.says]
    rfl
  · obtain ⟨v, hv, z, rfl⟩ := hm u hu
    exact (h.few v hv).wk z
  · obtain ⟨v, hv, z, rfl⟩ := hm u hu
    have := h.over v hv
    exact ⟨this.x, this.s, this.o, this.b⟩
  · obtain ⟨v, hv, z, rfl⟩ := hm u hu
    have := h.off g' off e v hv
    exact ⟨this.x, this.m⟩

/-- a row of another type stays where one turns. -/
theorem own_turns {w w' : World} {B n g size : Nat} {e t : TypeId} {v : Value} {xs : List Value} {cs : Array Value} (h : w.ownsRow B e size v n xs) (hg : w.grownBy w' (some g)) (hk : Bk w g t cs) (hne : t ≠ e) : w'.ownsRow B e size v n xs :=
  own_keep h fun k hk' he => hg.block k hk' fun e2 => by
    injection e2 with e2
    subst e2
    exact own_other h (Ne.symm hne) k cs hk he.symm
theorem grown_set1 (w : World) (g o : Nat) (v : Value) : w.grownBy (w.setCell ⟨g, o, none⟩ v) (some g) := grown_setCells (World.grownBy.refl w (some g)) o [v]

theorem LkOwn.grownI {B B' s m : Nat} {w w' : World} {A : Option Addr} {n c : Nat} {L : List (List Wnt)} {e : TypeId} {v : Value} {xs : List Value} (h : LkOwn B w A n c L) (hg : w.grownBy w' v.ownBlock) (ho : w.ownsRow B' e s v m xs) (h1 : e ≠ 84) (h2 : e ≠ 62) : LkOwn B w' A n c L :=
  h.grown hg (own_other ho h1) (own_other ho h2)
/-- tasks none of whose lists lie in block G or above. -/
def TkUnder (G : Nat) (l : List TkL) : Prop := ∀ t ∈ l, ∀ b, G ≤ b → t.Off b
theorem TkNew.under {L : List Tsk} {B : Nat} {w : World} {A : Option Addr} {n c : Nat} {l : List TkL} (h : TkNew L B w A n c l) : TkUnder w.heap.size l := fun t ht _ hb => (h.own.2.2 t ht).off_ge hb
theorem TkUnder.setWk {G : Nat} {l : List TkL} (h : TkUnder G l) {i : Nat} {t : TkL} (ht : l[i]? = some t) (k : Int) : TkUnder G (l.set i { t with wk := k }) := fun u hu b hb => by
  rcases List.mem_or_eq_of_mem_set hu with q | q
  · exact h u q b hb
  · rw [q]
    have := h t (List.mem_of_getElem? ht) b hb
    exact ⟨this.x, this.m⟩
/-- they stay where a row of another type, above all their lists, grows. -/
theorem TkNew.grownU {L : List Tsk} {B G s m : Nat} {w w' : World} {A : Option Addr} {n c : Nat} {l : List TkL} {e : TypeId} {v : Value} {xs : List Value} (h : TkNew L B w A n c l) (hu : TkUnder G l) (hg : w.grownBy w' v.ownBlock) (ho : w.ownsRow G e s v m xs) (h1 : e ≠ 41) : TkNew L B w' A n c l := by
  refine ⟨⟨h.own.1, own_keep h.own.2.1 fun k hk he => hg.block k hk fun e2 => ?_, fun t ht => (h.own.2.2 t ht).grown hg fun k hk => hu t ht k (own_ge ho hk)⟩, h.says, h.few, h.over, h.off⟩
  rcases h.own.2.1.2 with ⟨q, -⟩ | ⟨g, cap, cur, q, -, hk2, -⟩
  · rw [q] at he
    simp [Value.ownBlock] at he
  · rw [q] at he
    simp [Value.ownBlock] at he
    subst he
    exact own_other ho h1 g cur hk2 e2

/-! ### right -/
section
variable (l : List CmL) (A : Option Addr) (n c : Nat) (w : World)
theorem right16_yes (h : Cmds w A c l) (hN : l.length = n) (hr : RightC l) : Calls Try.prog 6 #[.slice A n c] w fun e w' => e = .returned (.bool true) ∧ Below w.heap.size w w' :=
  right16_any l A n c w h hN (by have := hr.2; omega) true ⟨fun _ => ⟨hr.1, by have := hr.2; omega⟩, fun _ => rfl⟩
theorem right16_no (h : Cmds w A c l) (hN : l.length = n) (hz : n ≤ 9223372036854775807) (hr : ¬ RightC l) : Calls Try.prog 6 #[.slice A n c] w fun e w' => e = .returned (.bool false) ∧ Below w.heap.size w w' :=
  right16_any l A n c w h hN hz false ⟨fun q => (by cases q), fun q => absurd ⟨q.1, by omega⟩ hr⟩
end
theorem RightC.at {l : List CmL} {i : Nat} {x : CmL} (h : RightC l) (hx : l[i]? = some x) : MayBe x.c ∧ fitsT x.c 6 := h.1 x (List.mem_of_getElem? hx)
theorem CmL.lkC {l : List CmL} {w : World} {A : Option Addr} {c i : Nat} {x : CmL} (h : Cmds w A c l) (hr : RightC l) (hx : l[i]? = some x) : CmLk w x.c x.ra x.nr x.rc x.wa x.nw x.wc 6 := by
  obtain ⟨h1, h2⟩ := hr.at hx
  exact CmL.lk (h.2 x (List.mem_of_getElem? hx)) h1 h2

end Go.Proofs.Ytldljohholgmoaa
