/-
  What asm.Tell answers, in whatever memory that has the tables, of instructions that may be told: their text.
-/
import Derived.Test.YtjbhhlhaikmecaaDoorAsmS
namespace Go.Proofs.YtjbhhlhaikmecaaDoor
open Go.RowKit

/-- does one of the first i lead to place j? -/
def aimsB (l : List Ins) : Nat → Nat → Bool
  | 0, _ => false
  | i + 1, j => aimsB l i j || (decide (jumpsN (insAt l i).op) && decide ((i : Int) + 1 + (insAt l i).a = j))

theorem aims_iff (l : List Ins) (j : Nat) : ∀ i, aimsB l i j = true ↔ ∃ k, k < i ∧ jumpsN (insAt l k).op ∧ (k : Int) + 1 + (insAt l k).a = j
  | 0 => ⟨fun h => (by cases h), fun ⟨k, h, _⟩ => (by omega)⟩
  | i + 1 => by
    rw [aimsB, Bool.or_eq_true, aims_iff l j i, Bool.and_eq_true, decide_eq_true_eq, decide_eq_true_eq]
    constructor
    · rintro (⟨k, h1, h2⟩ | h)
      · exact ⟨k, by omega, h2⟩
      · exact ⟨i, by omega, h⟩
    · rintro ⟨k, h1, h2⟩
      by_cases e : k = i
      · subst e; exact .inr h2
      · exact .inl ⟨k, by omega, h2⟩

theorem aims_aimAt {l : List Ins} (h : tellable l) (j : Nat) : aimsB l l.length j = decide (aimAt l j) := by
  rw [Bool.eq_iff_iff, aims_iff, decide_eq_true_eq]
  constructor
  · rintro ⟨k, h1, h2, h3⟩
    have := h.jump k h1 h2
    exact ⟨k, by omega, h1, h2, h3⟩
  · rintro ⟨k, _, h1, h2, h3⟩
    exact ⟨k, h1, h2, h3⟩

theorem mark_text (l : List Ins) (i : Nat) : textT (markT l i) = if aimAt l i then labelN i ++ [58, 10] else [] := by
  unfold markT
  split
  · simp [textT, textOf]
  · rfl

/-- sixty-five marks. -/
def ledA (f : Nat → Bool) : Array Value := ((List.range 65).map fun j => Value.bool (f j)).toArray
theorem ledA_size (f : Nat → Bool) : (ledA f).size = 65 := by simp [ledA]
theorem ledA_at (f : Nat → Bool) {j : Nat} (h : j < 65) : (ledA f)[j]? = some (.bool (f j)) := by simp [ledA, h]
theorem ledA_set {f g : Nat → Bool} {j : Nat} (hj : j < 65) (hg : g j = true) (ho : ∀ i, i ≠ j → g i = f i) : (ledA f).setIfInBounds j (.bool true) = ledA g := by
  apply Array.ext_getElem?
  intro i
  rw [Array.getElem?_setIfInBounds]
  by_cases hi : i < 65
  · by_cases e : j = i
    · subst e
      rw [if_pos rfl, if_pos (by rw [ledA_size]; exact hj), ledA_at g hj, hg]
    · rw [if_neg e, ledA_at f hi, ledA_at g hi, ho i (Ne.symm e)]
  · rw [if_neg (by omega), Array.getElem?_eq_none (by rw [ledA_size]; omega), Array.getElem?_eq_none (by rw [ledA_size]; omega)]

theorem ownF_below {w w' : World} {B : Nat} {e : TypeId} {size n : Nat} {v : Value} {xs : List Value} (h : w.ownsRowF B e size v n xs) (hb : Below w.heap.size w w') : w'.ownsRowF B e size v n xs := by
  refine ⟨h.1, ?_⟩
  rcases h.2 with h0 | ⟨g, cap, cur, fz, hv, hB, hg, r⟩
  · exact .inl h0
  · have hlt : g < w.heap.size := by
      rcases Nat.lt_or_ge g w.heap.size with q | q
      · exact q
      · rw [Array.getElem?_eq_none q] at hg; cases hg
    exact .inr ⟨g, cap, cur, fz, hv, hB, (hb.block g hlt).trans hg, r⟩

theorem builder_below {T e : TypeId} {B b : Nat} {bs : List Value} {w w' : World} (h : Lib.IsBuilderF T e B b bs w) (hb : Below w.heap.size w w') : Lib.IsBuilderF T e B b bs w' := by
  have key : ∀ p, Lib.BuilderAtF T e B b p bs w → Lib.BuilderAtF T e B b p bs w' := by
    rintro p ⟨h1, v, h2, h3, h4⟩
    exact ⟨h1, v, Bk.below (t := T) (cs := #[p, v]) h2 hb, ownF_below h3 hb, h4⟩
  exact h.imp (key _) (key _)

theorem builder_new (w : World) (T e : TypeId) : Lib.IsBuilderF T e w.heap.size w.heap.size [] (w.alloc (.cells #[.pointer none, .slice none 0 0] T)) :=
  .inl ⟨Nat.le_refl _, .slice none 0 0, Bk.new w T _, ⟨rfl, .inl ⟨rfl, rfl⟩⟩, by simp [Value.ownBlock]⟩

theorem kept_bk {e T : TypeId} {b k : Nat} {w w' : World} {cs : Array Value} (h : Lib.OthersKept e (some b) w w') (hk : Bk w k T cs) (hne : k ≠ b) (hT : T ≠ e) : Bk w' k T cs :=
  h k _ hk (fun e1 => hne (Option.some.inj e1)) (fun _ _ e1 => by injection e1 with _ e2; exact hT e2)

theorem bk_belowB {w w' : World} {B k : Nat} {T : TypeId} {cs : Array Value} (hk : Bk w k T cs) (hb : Below B w w') (h : k < B) : Bk w' k T cs := (hb.block k h).trans hk

def u8L (l : List Nat) : List UInt8 := l.map UInt8.ofNat
theorem cells_str (l : List Nat) : Lib.strCells (strL l) = Lib.byteCells (u8L l) := rfl
theorem u8L_append (l m : List Nat) : Lib.byteCells (u8L l) ++ Lib.byteCells (u8L m) = Lib.byteCells (u8L (l ++ m)) := by simp [u8L, Lib.byteCells]
theorem u8L_length (l : List Nat) : (Lib.byteCells (u8L l)).length = l.length := by simp [u8L, Lib.byteCells]

/-- a text is written behind what a builder holds. -/
theorem write_any (B b : Nat) (l m : List Nat) (w : World) (h : Lib.IsBuilderF 60 5 B b (Lib.byteCells (u8L l)) w) (hl : l.length + m.length ≤ 1048576) (hB : B ≤ w.heap.size) :
    Calls Tryd.prog 31 #[.pointer (some ⟨b, 0, none⟩), .string (strL m)] w fun e w' => e = .returned (.tuple #[.int .i64 ((strL m).size : Nat), .nilIface]) ∧ Lib.IsBuilderF 60 5 B b (Lib.byteCells (u8L (l ++ m))) w' ∧ Below B w w' ∧ Lib.OthersKept 5 (some b) w w' :=
  (Tryd.write_string B b _ (strL m) w h (by rw [u8L_length, strL_size]; omega) hB).mono fun e w' ⟨he, hb, hbel, hk⟩ => ⟨he, by rw [← u8L_append, ← cells_str]; exact .inr hb, hbel, hk⟩

theorem upTo_text (l : List Ins) (k : Nat) : textT (upToT l (k + 1)) = textT (upToT l k) ++ textT (markT l k) ++ textT (lineT k (insAt l k)) := by
  rw [upToT_succ, textT_append, textT_append, List.append_assoc]

set_option maxRecDepth 100000 in
set_option maxHeartbeats 16000000 in
theorem tell_any (l : List Ins) (ht : tellable l) (A : Option Addr) (c : Nat) (w : World) (h : Inss w A c l) (hT : HasKinds w) (hP : HasPow w) :
    Calls Tryd.prog 19 #[.slice A l.length c] w fun e w' => e = .returned (.string (strL (tellN l))) ∧ Below w.heap.size w w' := by
  have hlen := ht.len
  have ht' := Lib.hid ht
  have h' := Lib.hid h
  have hT' := Lib.hid hT
  have hP' := Lib.hid hP
  have hcap := h.2.1
  have hcb := Lib.hid (canBeTold_yes l ht A c w h hT)
  obtain ⟨N, hN⟩ : ∃ N, N = l.length := ⟨_, rfl⟩
  have hN' := Lib.hid hN
  rw [← hN] at hlen hcap hcb ⊢
  clear ht h hT hP hN
  go_enter Tryd.func19, Tryd.ntmps19
  go_wp2_with (go_at_call 28; go_must ((with_reducible refine hcb.out.mono ?_); rintro e w1 ⟨rfl, hb1⟩))
  obtain ⟨g0, hg0⟩ : ∃ g0, g0 = w1.heap.size := ⟨_, rfl⟩
  rw [← hg0]
  have hwg : w.heap.size ≤ g0 := by rw [hg0]; exact hb1.size
  go_loopw [14] (fun cc wr => ∃ i : Nat, i ≤ N ∧ cc = .int .i64 i ∧ Bk wr g0 55 (ledA (aimsB l i)) ∧ Below w.heap.size w wr) (fun cc _ => N - (intOf cc).toNat)
  case atStart =>
    refine ⟨0, Nat.zero_le _, rfl, ?_, hb1.alloc hb1.size _⟩
    have := Bk.new w1 55 Tryd.zeroCells55
    rw [← hg0] at this
    rw [show ledA (aimsB l 0) = Tryd.zeroCells55 by rfl]
    exact this
  case round =>
    clear hcb hb1 hg0
    obtain ⟨i, hi, rfl, hk, hb⟩ := hrel
    have hk' := Lib.hid hk
    have hgw := hk.lt
    by_cases hlt : i < N
    · have hil : i < l.length := by rw [← hN'.out]; exact hlt
      obtain ⟨b, off, rfl, hbl, x0, x1, x2⟩ := (h'.out.below hb).cellAt hil
      have hg := ht'.out.good i hil
      have hjm := ht'.out.jump i hil
      rw [← hN'.out] at hjm
      have hstep : Hid (∀ j, aimsB l (i + 1) j = (aimsB l i j || (decide (jumpsN (insAt l i).op) && decide ((i : Int) + 1 + (insAt l i).a = j)))) := Lib.hid (fun j => rfl)
      generalize insAt l i = x at *
      obtain ⟨W1, hW1⟩ : ∃ W1, W1 = wr.alloc (.cells #[.int .i64 x.op, .int .i64 x.a, .int .i64 x.b] 35) := ⟨_, rfl⟩
      have hW1' := Lib.hid hW1
      have hbW : Below wr.heap.size wr W1 := by rw [hW1]; exact (Below.refl _ _).alloc (Nat.le_refl _) _
      have hb2 := Lib.hid (bnext hb hbW)
      have kx := Lib.hid (show Bk W1 wr.heap.size 35 #[.int .i64 x.op, .int .i64 x.a, .int .i64 x.b] by rw [hW1]; exact Bk.new _ _ _)
      obtain ⟨y0, y1, y2, yf⟩ := kx.out.three
      have hsx := kx.out.lt
      have kl := Lib.hid (hk.below hbW)
      have d0 : (i : Int) < (N : Int) := by omega
      have d1 : (i : Int) < (c : Int) := by omega
      have hga := hg.a
      clear hW1 hbW hk
      by_cases hj : jumpsN x.op
      · have hij : Hid (∀ W : World, _) := Lib.hid (fun W => isJump_is x.op true (decide_eq_true hj) W)
        have hj2 := hjm hj
        obtain ⟨n, hn⟩ := Int.eq_ofNat_of_zero_le (show 0 ≤ (i : Int) + 1 + x.a by omega)
        have hld := Lib.hid (leadsTo_any i x W1 (by omega) hga)
        rw [hn] at hld
        have hn65 : n ≤ N := by omega
        have d2 : (n : Int) < 65 := by omega
        have hset := Lib.hid (ledA_set (f := aimsB l i) (g := aimsB l (i + 1)) (j := n) (by omega) (by rw [hstep.out, decide_eq_true hj, decide_eq_true hn]; simp) (fun q hq => by rw [hstep.out, decide_eq_false (p := (i : Int) + 1 + x.a = q) (by omega)]; simp))
        clear hg hjm hj hj2 hga hn hstep
        go_wp2_with (first
          | (go_at_call 29; rw [← hW1'.out]; go_must ((with_reducible refine (hij.out _).mono ?_); rintro e w3 ⟨rfl, rfl⟩))
          | (go_at_call 30; go_must ((with_reducible refine hld.out.mono ?_); rintro e w4 ⟨rfl, hb4⟩; have k4 := Lib.hid (kl.out.below hb4); have q4 := (k4.out.cell n).trans (ledA_at _ (by omega)); have f4 := fun o => k4.out.frozen o; have s4 := k4.out.lt)))
        go_roundw
        case rel =>
          refine ⟨i + 1, by omega, by go_num, ?_, (bnext hb2.out hb4).setCell (by simp; omega) _⟩
          have := k4.out.set n (.bool true)
          rw [hset.out] at this
          exact this
        case measure => simp [intOf]; omega
      · have hij : Hid (∀ W : World, _) := Lib.hid (fun W => isJump_is x.op false (decide_eq_false hj) W)
        have hsame : Hid (ledA (aimsB l (i + 1)) = ledA (aimsB l i)) := Lib.hid (by
          congr 1
          funext j
          rw [hstep.out, decide_eq_false hj]
          simp)
        clear hg hjm hj hga hstep
        go_wp2_with (go_at_call 29; rw [← hW1'.out]; go_must ((with_reducible refine (hij.out _).mono ?_); rintro e w3 ⟨rfl, rfl⟩))
        go_roundw
        case rel => exact ⟨i + 1, by omega, by go_num, by rw [hsame.out]; exact kl.out, hb2.out⟩
        case measure => simp [intOf]; omega
    · obtain rfl : i = N := by omega
      have haim : Hid (∀ j, aimsB l i j = decide (aimAt l j)) := Lib.hid (fun j => by rw [hN'.out]; exact aims_aimAt ht'.out j)
      obtain ⟨wq, rfl⟩ : ∃ wq : World, wq = wr := ⟨_, rfl⟩
      have hBw := hb.size
      clear hi hlt hcap
      have hcap := (h'.out).2.1
      rw [← hN'.out] at hcap
      go_wp2
      go_loopw [29] (fun cc wr => ∃ k : Nat, k ≤ i ∧ cc = .int .i64 k ∧ Lib.IsBuilderF 60 5 wq.heap.size wq.heap.size (Lib.byteCells (u8L (textT (upToT l k)))) wr ∧ Below wq.heap.size wq wr ∧ wq.heap.size < wr.heap.size) (fun cc _ => i - (intOf cc).toNat)
      case atStart => exact ⟨0, Nat.zero_le _, rfl, builder_new wq _ _, (Below.refl _ _).alloc (Nat.le_refl _) _, by rw [World.size_alloc]; omega⟩
      case round =>
        obtain ⟨k, hk1, rfl, hI, hbq, hsz⟩ := hrel
        have hI' := Lib.hid hI
        have hbw := Lib.hid (hb.trans (hbq.mono hBw))
        have kl := Lib.hid (bk_belowB hk'.out hbq hgw)
        have htl := upTo_len ht'.out k (by rw [← hN'.out]; exact hk1)
        have hgr : g0 < wr.heap.size := Nat.lt_trans hgw hsz
        by_cases hkl : k < i
        · have hil : k < l.length := by rw [← hN'.out]; exact hkl
          obtain ⟨b, off, rfl, hbl, x0, x1, x2⟩ := (h'.out.below hbw.out).cellAt hil
          have d0 : (k : Int) < (i : Int) := by omega
          have d1 : (k : Int) < (c : Int) := by omega
          have d2 : (k : Int) < 65 := by omega
          have hll := line_len ht'.out hil
          have hml := mark_len l k
          obtain ⟨W1, hW1⟩ : ∃ W1, W1 = wr.alloc (.cells #[.int .i64 (insAt l k).op, .int .i64 (insAt l k).a, .int .i64 (insAt l k).b] 35) := ⟨_, rfl⟩
          have hW1' := Lib.hid hW1
          have hbW : Below wr.heap.size wr W1 := by rw [hW1]; exact (Below.refl _ _).alloc (Nat.le_refl _) _
          have kx := Lib.hid (show Bk W1 wr.heap.size 35 #[.int .i64 (insAt l k).op, .int .i64 (insAt l k).a, .int .i64 (insAt l k).b] by rw [hW1]; exact Bk.new _ _ _)
          have kl1 := Lib.hid (kl.out.below hbW)
          have q1 := (kl.out.cell k).trans (ledA_at _ (by omega))
          rw [haim.out] at q1
          have I1 := Lib.hid (builder_below hI hbW)
          have hb1 := Lib.hid (bnext hbw.out hbW)
          have hbq1 := Lib.hid (hbq.trans (hbW.mono (Nat.le_of_lt hsz)))
          have hup : Hid (textT (upToT l (k + 1)) = textT (upToT l k) ++ textT (markT l k) ++ textT (lineT k (insAt l k))) := Lib.hid (upTo_text l k)
          have hmt := mark_text l k
          have hln : Hid (∀ W : World, HasKinds W → HasPow W → _) := Lib.hid (fun W hw hp => line_any l ht'.out k hil W hw hp)
          have hlb : Hid (∀ W : World, _) := Lib.hid (fun W => labelLine_any k W (by omega))
          have hs1 : wq.heap.size < W1.heap.size := Nat.lt_of_lt_of_le hsz hbW.size
          obtain ⟨y0, y1, y2, yf⟩ := kx.out.three
          clear hI hW1 hbW hil
          generalize textT (lineT k (insAt l k)) = T2 at *
          generalize insAt l k = x at *
          generalize textT (upToT l k) = T0 at *
          generalize textT (markT l k) = T1 at *
          by_cases ha : aimAt l k
          · rw [if_pos ha] at hmt
            rw [decide_eq_true ha] at q1
            subst hmt
            clear ha
            go_wp2_with (first
              | (go_at_call 32; rw [← hW1'.out]; go_must ((with_reducible refine (hlb.out _).mono ?_); rintro e w2 ⟨rfl, hb2⟩; have I2 := Lib.hid (builder_below I1.out hb2); have k2 := Lib.hid (kx.out.below hb2); have hbw2 := Lib.hid (bnext hb1.out hb2); have hbq2 := Lib.hid (hbq1.out.trans (hb2.mono (Nat.le_of_lt hs1))); have hs2 : wq.heap.size < w2.heap.size := Nat.lt_of_lt_of_le hs1 hb2.size; clear hlb y0 y1 y2 yf))
              | (clear hs1; go_at_call 31; go_must ((with_reducible refine (write_any wq.heap.size wq.heap.size T0 _ w2 I2.out (by simp only [List.length_append, List.length_cons, List.length_nil] at hml ⊢; omega) (Nat.le_of_lt hs2)).mono ?_); rintro e w3 ⟨rfl, hI3, hb3, ho3⟩; have I3 := Lib.hid hI3; have k3 := Lib.hid (kept_bk ho3 k2.out (by omega) (by decide)); obtain ⟨z0, z1, z2, zf⟩ := k3.out.three; have hbw3 := Lib.hid (hbw2.out.trans (hb3.mono hBw)); have hbq3 := Lib.hid (hbq2.out.trans hb3); have hs3 : wq.heap.size < w3.heap.size := Nat.lt_of_lt_of_le hs2 hb3.size; clear hI3 hs2))
              | (go_at_call 33; go_must ((with_reducible refine (hln.out w3 (hT'.out.belowS hbw3.out) (hP'.out.belowS hbw3.out)).mono ?_); rintro e w4 ⟨rfl, hb4⟩; have I4 := Lib.hid (builder_below I3.out hb4); have hbw4 := Lib.hid (bnext hbw3.out hb4); have hbq4 := Lib.hid (hbq3.out.trans (hb4.mono (Nat.le_of_lt hs3))); have hs4 : wq.heap.size < w4.heap.size := Nat.lt_of_lt_of_le hs3 hb4.size; clear z0 z1 z2 zf))
              | (go_at_call 31; go_must ((with_reducible refine (write_any wq.heap.size wq.heap.size _ T2 w4 I4.out (by simp only [List.length_append, List.length_cons, List.length_nil] at hml ⊢; omega) (Nat.le_of_lt hs4)).mono ?_); rintro e w5 ⟨rfl, hI5, hb5, -⟩; have I5 := Lib.hid hI5; clear hI5)))
            go_roundw
            case rel => exact ⟨k + 1, by omega, by go_num, by rw [hup.out]; exact I5.out, hbq4.out.trans hb5, Nat.lt_of_lt_of_le hs4 hb5.size⟩
            case measure => simp [intOf]; omega
          · rw [if_neg ha] at hmt
            rw [decide_eq_false ha] at q1
            subst hmt
            clear ha
            rw [List.append_nil] at hup
            go_wp2_with (first
              | (clear hlb; go_at_call 33; rw [← hW1'.out]; go_must ((with_reducible refine (hln.out W1 (hT'.out.belowS hb1.out) (hP'.out.belowS hb1.out)).mono ?_); rintro e w4 ⟨rfl, hb4⟩; have I4 := Lib.hid (builder_below I1.out hb4); have hbw4 := Lib.hid (bnext hb1.out hb4); have hbq4 := Lib.hid (hbq1.out.trans (hb4.mono (Nat.le_of_lt hs1))); have hs4 : wq.heap.size < w4.heap.size := Nat.lt_of_lt_of_le hs1 hb4.size))
              | (go_at_call 31; go_must ((with_reducible refine (write_any wq.heap.size wq.heap.size T0 T2 w4 I4.out (by omega) (Nat.le_of_lt hs4)).mono ?_); rintro e w5 ⟨rfl, hI5, hb5, -⟩; have I5 := Lib.hid hI5; clear hI5)))
            go_roundw
            case rel => exact ⟨k + 1, by omega, by go_num, by rw [hup.out]; exact I5.out, hbq4.out.trans hb5, Nat.lt_of_lt_of_le hs4 hb5.size⟩
            case measure => simp [intOf]; omega
        · obtain rfl : k = i := by omega
          have q1 := (kl.out.cell k).trans (ledA_at _ (by omega))
          rw [haim.out] at q1
          have d2 : (k : Int) < 65 := by omega
          have hmt := mark_text l k
          have hml := mark_len l k
          have hlb := Lib.hid (labelLine_any k wr (by omega))
          have htx : Hid (tellN l = textT (upToT l k) ++ textT (markT l k)) := Lib.hid (by rw [tellN, tellT, textT_append, hN'.out])
          generalize textT (upToT l k) = T0 at *
          generalize textT (markT l k) = T1 at *
          clear hI hkl hk1
          by_cases ha : aimAt l k
          · rw [if_pos ha] at hmt
            rw [decide_eq_true ha] at q1
            subst hmt
            clear ha
            go_wp2_with (first
              | (go_at_call 32; go_must ((with_reducible refine hlb.out.mono ?_); rintro e w2 ⟨rfl, hb2⟩; have I2 := Lib.hid (builder_below hI'.out hb2); have hbq2 := Lib.hid (hbq.trans (hb2.mono (Nat.le_of_lt hsz))); have hs2 : wq.heap.size < w2.heap.size := Nat.lt_of_lt_of_le hsz hb2.size))
              | (go_at_call 31; go_must ((with_reducible refine (write_any wq.heap.size wq.heap.size T0 _ w2 I2.out (by simp only [List.length_append, List.length_cons, List.length_nil] at hml ⊢; omega) (Nat.le_of_lt hs2)).mono ?_); rintro e w3 ⟨rfl, hI3, hb3, -⟩; have I3 := Lib.hid hI3; have hs3 : wq.heap.size < w3.heap.size := Nat.lt_of_lt_of_le hs2 hb3.size; clear hI3))
              | (go_at_call 34; go_must ((with_reducible refine (Tryd.string_any wq.heap.size wq.heap.size _ w3 I3.out (Nat.le_of_lt hs3)).mono ?_); rintro e w4 ⟨rfl, -, hb4, -⟩)))
            go_ret
            rw [htx.out]
            exact ⟨rfl, hb.trans (((hbq2.out.trans hb3).trans hb4).mono hBw)⟩
          · rw [if_neg ha] at hmt
            rw [decide_eq_false ha] at q1
            subst hmt
            clear ha
            go_wp2_with (go_at_call 34; go_must ((with_reducible refine (Tryd.string_any wq.heap.size wq.heap.size _ wr hI'.out (Nat.le_of_lt hsz)).mono ?_); rintro e w4 ⟨rfl, -, hb4, -⟩))
            go_ret
            rw [htx.out, List.append_nil]
            exact ⟨rfl, hb.trans ((hbq.trans hb4).mono hBw)⟩

end Go.Proofs.YtjbhhlhaikmecaaDoor
