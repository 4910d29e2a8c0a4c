/-
  pool's calls, the program's and the reference's, by what tasks say. No conditions but those that stand there.
-/
import Derived.Test.YtldljohholgmoaaZPooDl
import Derived.Test.YtldljohholgmoaaZPooFd
import Derived.Test.YtldljohholgmoaaZPooRy
import Derived.Test.YtldljohholgmoaaZPooS
namespace Go.Proofs.Ytldljohholgmoaa
open Go Go.RowKit

def seqP (s : Int) (t : Tsk) : Bool := decide (t.seq = s)
def wkP (k : Int) (t : Tsk) : Bool := decide (0 ≤ k ∧ t.worker = k)
def readiesL (W : Lks) (L : List Tsk) : List Int := (L.filter fun t => decide (t.worker < 0) && readyL W t.cmd t.seq).map (·.seq)
theorem idxP_map {α β : Type} (f : α → β) (p : β → Bool) (l : List α) : idxP p (l.map f) = idxP (fun x => p (f x)) l := by
  unfold idxP
  rw [List.findIdx_map, List.length_map]
  rfl
theorem seqT_says {l : List TkL} {L : List Tsk} (h : saysT l L) (s : Int) : idxP (seqT s) l = idxP (seqP s) L := by
  rw [← h, idxP_map]
  rfl
theorem wkT_says {l : List TkL} {L : List Tsk} (h : saysT l L) (k : Int) : idxP (wkT k) l = idxP (wkP k) L := by
  rw [← h, idxP_map]
  rfl
theorem fuelT_says {l : List TkL} {L : List Tsk} (h : saysT l L) : fuelT l = fuelP L := by
  rw [← h]
  unfold fuelT fuelP
  rw [List.map_map]
  rfl
theorem readiesT_says {l : List TkL} {L : List Tsk} (h : saysT l L) (W : Lks) : readiesT W l = readiesL W L := by
  rw [← h]
  unfold readiesT readiesL
  rw [List.filter_map, List.map_map]
  rfl

/-- a slice of tasks that say so. -/
structure TkIs (L : List Tsk) (w : World) (A : Option Addr) (n c : Nat) (l : List TkL) : Prop where
  sl : Tks w A c l
  len : l.length = n
  says : saysT l L
  few : ∀ t ∈ l, fewT t
theorem TkIs.below {L : List Tsk} {w w' : World} {A : Option Addr} {n c : Nat} {l : List TkL} (h : TkIs L w A n c l) (hb : Below w.heap.size w w') : TkIs L w' A n c l := ⟨h.sl.below hb, h.len, h.says, h.few⟩
theorem TkIs.nil (w : World) : TkIs [] w none 0 0 [] := ⟨Tks.nil w, rfl, rfl, by simp⟩
theorem TkNew.is {L : List Tsk} {B : Nat} {w : World} {A : Option Addr} {n c : Nat} {l : List TkL} (h : TkNew L B w A n c l) : TkIs L w A n c l := ⟨h.sl, h.own.1, h.says, h.few⟩
theorem TkIs.map {L : List Tsk} {w : World} {A : Option Addr} {n c : Nat} {l : List TkL} (h : TkIs L w A n c l) : l.map TkL.tsk = L := h.says
theorem TkIs.lenL {L : List Tsk} {w : World} {A : Option Addr} {n c : Nat} {l : List TkL} (h : TkIs L w A n c l) : L.length = n := by rw [← h.says.len]; exact h.len
/-- an answer: tasks that say so. -/
def IsP (L : List Tsk) (n : Nat) (w : World) (e : Ending) (w' : World) : Prop := ∃ A c l, e = .returned (.slice A n c) ∧ TkIs L w' A n c l ∧ Below w.heap.size w w'
def isT (L : List Tsk) (n : Nat) : Says := fun v w => ∃ A c l, v = .slice A n c ∧ TkIs L w A n c l
theorem isT_keep {L : List Tsk} {n : Nat} (v : Value) (x y : World) (hb : Below x.heap.size x y) (h : isT L n v x) : isT L n v y := by
  obtain ⟨A, c, l, e, hO⟩ := h
  exact ⟨A, c, l, e, hO.below hb⟩
theorem IsP.says {L : List Tsk} {n : Nat} {w w' : World} {e : Ending} (h : IsP L n w e w') : ∃ v, e = .returned v ∧ Below w.heap.size w w' ∧ isT L n v w' := by
  obtain ⟨A, c, l, he, hO, hb⟩ := h
  exact ⟨_, he, hb, A, c, l, rfl, hO⟩
theorem TpN.is {L : List Tsk} {n : Nat} {w w' : World} {e : Ending} (h : TpN L n w e w') : IsP L n w e w' := by
  obtain ⟨A, c, l, he, hO, hb⟩ := h
  exact ⟨A, c, l, he, hO.is, hb⟩
theorem TkPost.is {l : List TkL} {n : Nat} {w w' : World} {e : Ending} (h : TkPost l w e w') (hn : l.length = n) (hf : ∀ t ∈ l, fewT t) : IsP (l.map TkL.tsk) n w e w' := by
  obtain ⟨A, m, c, he, hO, hb⟩ := h
  obtain rfl : m = n := by rw [← hn]; exact hO.1.symm
  exact ⟨A, c, l, he, ⟨hO.sl, hO.1, rfl, hf⟩, hb⟩

def newP (s : Int) (c : Cmd) : Tsk := ⟨s, c, newM c, [], -1⟩
/-- its lists are short. -/
def fewC (x : CmL) : Prop := x.nr ≤ 1000 ∧ x.nw ≤ 1000 ∧ x.na ≤ 1000 ∧ x.nc ≤ 1000
theorem CmL.In.few {x : CmL} {w : World} (h : x.In w) (hm : MayBe x.c) : fewC x := by
  obtain ⟨f1, f2, f3, f4, -⟩ := hm.few
  have h1 : x.c.reads.length = x.nr := h.lr
  have h2 : x.c.writes.length = x.nw := h.lw
  have h3 : x.c.args.length = x.na := h.la
  have h4 : x.c.code.length = x.nc := h.lc
  exact ⟨by omega, by omega, by omega, by omega⟩
def goodL (n : Nat) (L : List Tsk) : Prop := ∀ T ∈ L, MayBe T.cmd ∧ fitsT T.cmd n
theorem goodL.at {n : Nat} {L : List Tsk} (h : goodL n L) {l : List TkL} (hs : saysT l L) : ∀ t ∈ l, MayBe t.x.c ∧ fitsT t.x.c n := fun t ht => h t.tsk (by rw [← hs]; exact List.mem_map_of_mem ht)

section
variable (L : List Tsk) (l : List TkL) (A : Option Addr) (n c : Nat) (w : World)
theorem padd_is (x : CmL) (s : Int) (h : TkIs L w A n c l) (hn : n ≤ 999) (hx : x.In w) (hf : fewC x) : Calls Try.prog 9 #[.slice A n c, cmV x.ra x.nr x.rc x.wa x.nw x.wc x.aa x.na x.ac x.c.fuel x.ca x.nc x.cc, .int .i64 s] w (TpN (L ++ [newP s x.c]) (n + 1) w) := by
  have := padd_any l A n c x s w h.sl h.len hn h.few hx hf
  rwa [h.map] at this
theorem radd_is (x : CmL) (s : Int) (h : TkIs L w A n c l) (hn : n ≤ 999) (hx : x.In w) (hf : fewC x) : Calls Try.prog 10 #[.slice A n c, cmV x.ra x.nr x.rc x.wa x.nw x.wc x.aa x.na x.ac x.c.fuel x.ca x.nc x.cc, .int .i64 s] w (IsP (L ++ [newP s x.c]) (n + 1) w) := by
  refine (radd16_any l A n c x s w h.sl h.len hx (by omega)).mono fun e w' hp => ?_
  have := hp.is (n := n + 1) (by rw [List.length_append, h.len]; rfl) (fun t ht => by
    rcases List.mem_append.1 ht with q | q
    · exact h.few t q
    · rw [List.mem_singleton.1 q]; exact ⟨hf.1, hf.2.1, hf.2.2.1, hf.2.2.2, Nat.zero_le _, Nat.zero_le _, Nat.zero_le _⟩)
  rwa [List.map_append, h.map] at this
theorem pwith_is (i : Nat) (t : TkL) (h : TkIs L w A n c l) (hi : i < n) (hn : n ≤ 1000) (ht : t.In w) (hf : fewT t) : Calls Try.prog 12 #[.slice A n c, .int .i64 (i : Int), .agg (tkA t)] w (TpN (L.set i t.tsk) n w) := by
  have := pwith_any l A n c i t w h.sl h.len hi hn h.few ht hf
  rwa [h.map] at this
theorem rwith_is (i : Nat) (t : TkL) (h : TkIs L w A n c l) (hi : i < n) (hn : n ≤ 1000) (ht : t.In w) (hf : fewT t) : Calls Try.prog 13 #[.slice A n c, .int .i64 (i : Int), .agg (tkA t)] w (IsP (L.set i t.tsk) n w) := by
  refine (rwith16_any l A n c i t w h.sl h.len hi (by omega) ht).mono fun e w' hp => ?_
  have := hp.is (n := n) (by rw [List.length_set, h.len]) (fun t ht => by
    rcases List.mem_or_eq_of_mem_set ht with q | q
    · exact h.few t q
    · rw [q]; exact hf)
  rwa [List.map_set, h.map] at this
theorem pwithout_is (i : Nat) (h : TkIs L w A n c l) (hi : i < n) (hn : n ≤ 1000) : Calls Try.prog 24 #[.slice A n c, .int .i64 (i : Int)] w (TpN (withoutP L i) (n - 1) w) := by
  have := pwithout_any l A n c i w h.sl h.len hi hn h.few
  rwa [h.map] at this
theorem rwithout_is (i : Nat) (h : TkIs L w A n c l) (hi : i < n) (hn : n ≤ 1000) : Calls Try.prog 25 #[.slice A n c, .int .i64 (i : Int)] w (IsP (withoutP L i) (n - 1) w) := by
  refine (rwithout16_any l A n c i w h.sl h.len hi hn).mono fun e w' hp => ?_
  have := hp.is (n := n - 1) (by rw [lessT_length (by rw [h.len]; exact hi), h.len]) (fun t ht => h.few t (by
    rcases List.mem_append.1 ht with q | q
    · exact List.mem_of_mem_take q
    · exact List.mem_of_mem_drop q))
  unfold lessT at this
  rwa [List.map_append, List.map_take, List.map_drop, h.map] at this
theorem pfind_is (s : Int) (h : TkIs L w A n c l) (hn : n ≤ 1000) : Calls Try.prog 15 #[.slice A n c, .int .i64 s] w fun e w' => e = .returned (.int .i64 (idxP (seqP s) L)) ∧ Below w.heap.size w w' := by
  have := pfind_any l A n c s w h.sl h.len (by omega)
  rwa [seqT_says h.says] at this
theorem rfind_is (s : Int) (h : TkIs L w A n c l) (hn : n ≤ 1000) : Calls Try.prog 16 #[.slice A n c, .int .i64 s] w fun e w' => e = .returned (.int .i64 (idxP (seqP s) L)) ∧ Below w.heap.size w w' := by
  have := rfind16_any l A n c s w h.sl h.len (by omega)
  rw [seqT_says h.says] at this
  exact this.mono fun e w' ⟨he, hw⟩ => ⟨he, hw ▸ Below.refl _ _⟩
theorem pof_is (k : Int) (h : TkIs L w A n c l) (hn : n ≤ 1000) : Calls Try.prog 17 #[.slice A n c, .int .i64 k] w fun e w' => e = .returned (.int .i64 (idxP (wkP k) L)) ∧ Below w.heap.size w w' := by
  have := pof_any l A n c k w h.sl h.len (by omega)
  rwa [wkT_says h.says] at this
theorem rof_is (k : Int) (h : TkIs L w A n c l) (hn : n ≤ 1000) : Calls Try.prog 18 #[.slice A n c, .int .i64 k] w fun e w' => e = .returned (.int .i64 (idxP (wkP k) L)) ∧ Below w.heap.size w w' := by
  have := rof16_any l A n c k w h.sl h.len (by omega)
  rw [wkT_says h.says] at this
  exact this.mono fun e w' ⟨he, hw⟩ => ⟨he, hw ▸ Below.refl _ _⟩
theorem fuel_in {L : List Tsk} {l : List TkL} (hs : saysT l L) (hf : ∀ T ∈ L, 0 ≤ T.m.fuel ∧ T.m.fuel ≤ 1000) : ∀ t ∈ l, 0 ≤ t.m.fuel ∧ t.m.fuel ≤ 1000 := fun t ht => hf t.tsk (by rw [← hs]; exact List.mem_map_of_mem ht)
theorem pfuel_is (h : TkIs L w A n c l) (hn : n ≤ 1000) (hf : ∀ T ∈ L, 0 ≤ T.m.fuel ∧ T.m.fuel ≤ 1000) : Calls Try.prog 19 #[.slice A n c] w fun e w' => e = .returned (.int .i64 (fuelP L)) ∧ Below w.heap.size w w' := by
  have := pfuel_any l A n c w h.sl h.len (by omega) (fuel_in h.says hf)
  rwa [fuelT_says h.says] at this
theorem rfuel_is (h : TkIs L w A n c l) (hn : n ≤ 1000) (hf : ∀ T ∈ L, 0 ≤ T.m.fuel ∧ T.m.fuel ≤ 1000) : Calls Try.prog 20 #[.slice A n c] w fun e w' => e = .returned (.int .i64 (fuelP L)) ∧ Below w.heap.size w w' := by
  have := rfuel16_any l A n c w h.sl h.len (by omega) (fuel_in h.says hf)
  rw [fuelT_says h.says] at this
  exact this.mono fun e w' ⟨he, hw⟩ => ⟨he, hw ▸ Below.refl _ _⟩
/-- numbers of one's own. -/
def NumsP (l : List Int) (w : World) (e : Ending) (w' : World) : Prop := ∃ A c, e = .returned (.slice A l.length c) ∧ Ints w' A c l ∧ Below w.heap.size w w'
theorem pready_is (u : Who) (WA : Option Addr) (nb wc : Nat) (h : TkIs L w A n c l) (hn : n ≤ 1000) (hg : goodL nb L) (hl : LkSl w WA nb wc (lksW u nb)) (hu : u.length ≤ 1000) : Calls Try.prog 22 #[.slice A n c, .slice WA nb wc] w (NumsP (readiesL (lksW u nb) L) w) := by
  refine (pready_any l A n c u WA nb wc w h.sl h.len hn hl hu (hg.at h.says)).mono fun e w' ⟨A', m, k, he, ho, hb⟩ => ?_
  rw [readiesT_says h.says] at ho
  obtain ⟨rfl, ho⟩ := ho
  exact ⟨A', k, he, Sl.own' ho, hb⟩
theorem rready_is (u : Who) (WA : Option Addr) (nb wc : Nat) (h : TkIs L w A n c l) (hn : n ≤ 1000) (hg : goodL nb L) (hl : LkSl w WA nb wc (lksW u nb)) (hu : u.length ≤ 1000) : Calls Try.prog 23 #[.slice A n c, .slice WA nb wc] w (NumsP (readiesL (lksW u nb) L) w) := by
  refine (rready16_any l A n c u WA nb wc w h.sl h.len hn hl hu (hg.at h.says)).mono fun e w' ⟨A', m, k, he, ho, hb⟩ => ?_
  rw [readiesT_says h.says] at ho
  obtain ⟨rfl, ho⟩ := ho
  exact ⟨A', k, he, Sl.own' ho, hb⟩
theorem rsame_is (m : List TkL) (B : Option Addr) (d : Nat) (h : TkIs L w A n c l) (k : TkIs L w B n d m) (hn : n ≤ 1000) : Calls Try.prog 14 #[.slice A n c, .slice B n d] w fun e w' => e = .returned (.bool true) ∧ Below w.heap.size w w' :=
  rsame16_yes l m A c B d n w h.sl k.sl h.len k.len (fun i t u ht hu => by
    have h1 := h.says.at ht
    have h2 := k.says.at hu
    rw [h1] at h2
    injection h2) hn h.few
end

/-! ### commands of a list, each with a number -/
def whoG (f : Nat → Int) (l : List CmL) (i : Nat) : Who := (List.range i).map fun j => (f j, (l[j]?.getD default).c)
def newG (f : Nat → Int) (l : List CmL) (i : Nat) : List Tsk := (List.range i).map fun j => newP (f j) (l[j]?.getD default).c
theorem whoG_succ (f : Nat → Int) {l : List CmL} {i : Nat} {x : CmL} (hx : l[i]? = some x) : whoG f l (i + 1) = whoG f l i ++ [(f i, x.c)] := by
  unfold whoG
  rw [List.range_succ, List.map_append]
  simp [hx]
theorem newG_succ (f : Nat → Int) {l : List CmL} {i : Nat} {x : CmL} (hx : l[i]? = some x) : newG f l (i + 1) = newG f l i ++ [newP (f i) x.c] := by
  unfold newG
  rw [List.range_succ, List.map_append]
  simp [hx]
theorem whoG_length (f : Nat → Int) (l : List CmL) (i : Nat) : (whoG f l i).length = i := by simp [whoG]
theorem newG_length (f : Nat → Int) (l : List CmL) (i : Nat) : (newG f l i).length = i := by simp [newG]
theorem newG_at (f : Nat → Int) {l : List CmL} {n i : Nat} {x : CmL} (h : i < n) (hx : l[i]? = some x) : (newG f l n)[i]? = some (newP (f i) x.c) := by
  unfold newG
  rw [List.getElem?_map, List.getElem?_range h]
  simp [hx]
/-- each may be, and its blocks are there; few of them. -/
def RightC (l : List CmL) : Prop := (∀ x ∈ l, MayBe x.c ∧ fitsT x.c 6) ∧ l.length ≤ 30
theorem newG_good (f : Nat → Int) {l : List CmL} (h : RightC l) {n : Nat} (hn : n ≤ l.length) : goodL 6 (newG f l n) := fun T hT => by
  obtain ⟨j, hj, rfl⟩ := List.mem_map.1 hT
  have hj := List.mem_range.1 hj
  rw [List.getElem?_eq_getElem (show j < l.length by omega)]
  exact h.1 _ (List.getElem_mem _)

end Go.Proofs.Ytldljohholgmoaa
