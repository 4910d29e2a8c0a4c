/-
  What instr.Read answers, in whatever memory that has the kinds' table: so many instructions of a reader, for strings that have at most 2^62 bytes, whatever place, and at most 2^20 instructions.
-/
import Derived.Test.YtlffdaiideoijaaDoorInsB
import Derived.Test.YtlffdaiideoijaaDoorBt
namespace Go.Proofs.YtlffdaiideoijaaDoor
open Go.RowKit

theorem next_any (s : ByteArray) (r : Rd) (g : Nat) (w : World) (hk : Bk w g 31 (frV s r)) (hs : s.size ≤ 4611686018427387904) (hT : HasKinds w) (hg : 0 ≠ g)
    (x : Ins) (hx : insV s r = x) (b rt : Bool) (a : Int) (hz : insR s r = ⟨a, b⟩) (hrt : decide (rightN x) = rt) :
    Calls Tryd.prog 23 #[.pointer (some ⟨g, 0, none⟩)] w (NextPost 31 s x a (b || !rt) g w) := by
  subst hx
  unfold insR at hz
  unfold insV at hrt ⊢
  rcases takes_two (byteV s r : Nat) with ht | ht | ht
  · rw [if_neg (by omega), if_neg (by omega)] at hz hrt
    rw [if_neg (by omega), if_neg (by omega)]
    exact next0 s r g w hk hs hT hg ht b rt a hz hrt
  · rw [if_neg (by omega), if_pos (by omega)] at hz
    rw [if_pos (by omega), if_neg (by omega)] at hrt ⊢
    exact next1 s r g w hk hs hT hg ht b rt a hz hrt
  · rw [if_pos (by omega)] at hz
    rw [if_pos (by omega), if_pos (by omega)] at hrt ⊢
    exact next2 s r g w hk hs hT hg ht b rt a hz hrt

/-- what Read leaves, by what the bytes are. -/
def ReadPost (t : TypeId) (s : ByteArray) (R : Option (List Ins) × Rd) (g : Nat) (w : World) (e : Ending) (w' : World) : Prop :=
  Bk w' g t (frV s R.2) ∧ But g w w' ∧ match R.1 with
    | none => e = .returned (.tuple #[.slice none 0 0, .bool false])
    | some l => ∃ v, e = .returned (.tuple #[v, .bool true]) ∧ w'.ownsRow w.heap.size 26 3 v l.length (inssW l)

theorem append_ins (li : List Ins) (x : Ins) : inssW (li ++ [x]) = inssW li ++ (iCells x).toList := inssW_snoc li x

theorem But.thenBelow {g : Nat} {w a b : World} (h : But g w a) (k : Below w.heap.size a b) : But g w b :=
  ⟨k.os.trans h.os, k.tape.trans h.tape, k.output.trans h.output, Nat.le_trans h.size k.size, fun i hi hg => (k.block i hi).trans (h.block i hi hg)⟩

set_option maxHeartbeats 8000000 in
theorem read_nat (s : ByteArray) (N : Nat) (r0 : Rd) (g : Nat) (w : World) (hk : Bk w g 31 (frV s r0)) (hs : s.size ≤ 4611686018427387904) (hT : HasKinds w) (hg : 0 ≠ g) (hN1 : N ≤ 1048576) :
    Calls Tryd.prog 12 #[.pointer (some ⟨g, 0, none⟩), .int .i64 (N : Nat)] w (ReadPost 31 s (rdI s N r0 []) g w) := by
  obtain ⟨i0, hi0, hz0, hz1, hz2⟩ := infoIns
  have hgw := hk.lt
  have hk' := Lib.hid hk
  have hT' := Lib.hid hT
  clear hk hT
  go_enter Tryd.func12, Tryd.ntmps12
  go_wp2
  go_loopw [6, 10] (fun v c wr => ∃ i ri li, i ≤ N ∧ c = .int .i64 ((i : Nat) : Int) ∧ li.length = i ∧ Hid (rdI s N r0 [] = rdI s (N - i) ri li) ∧ wr.ownsRow w.heap.size 26 3 v i (inssW li) ∧ Bk wr g 31 (frV s ri) ∧ But g w wr) (fun _ c _ => N - (intOf c).toNat)
  case atStart => exact ⟨0, r0, [], Nat.zero_le _, rfl, rfl, Lib.hid rfl, ⟨rfl, .inl ⟨rfl, rfl⟩⟩, hk'.out, But.refl _ _⟩
  case round =>
    obtain ⟨i, ri, li, hi, rfl, hli, hrd, hown, hk, hb⟩ := hrel
    by_cases hlt : i < N
    · have d0 : (i : Int) < (N : Int) := by omega
      obtain ⟨k, hNk⟩ : ∃ k, N - i = k + 1 := ⟨N - i - 1, by omega⟩
      have hNk' : N - (i + 1) = k := by omega
      rw [hNk] at hrd
      cases hRz : insR s ri with
      | mk az bz =>
        obtain ⟨no, hno⟩ : ∃ no, no = (bz || !decide (rightN (insV s ri))) := ⟨_, rfl⟩
        have hnx := Lib.hid (next_any s ri g wr hk hs (hT'.out.but hb hg) hg _ rfl bz _ az hRz rfl)
        rw [← hno] at hnx
        have hown' := Lib.hid hown
        have hszr := hb.size
        clear hown hk
        cases no with
        | true =>
          have hfin : Hid (rdI s N r0 [] = (none, ⟨az, true⟩)) := Lib.hid (by
            rw [hrd.out, rdI_no, hRz]
            rw [hRz]
            cases bz with
            | true => exact .inl rfl
            | false => exact .inr (by simpa using hno))
          clear hrd hno hRz
          go_wp2_with (go_at_call 23; go_must ((with_reducible refine hnx.out.mono ?_); rintro e w1 ⟨rfl, hk1, hb1⟩; have K1 := Lib.hid (And.intro hk1 hb1); clear hk1 hb1))
          go_ret2
          rw [hfin.out]
          exact ⟨K1.out.1.alloc _, (hb.trans K1.out.2).trans (But.of_below ((Below.refl _ _).alloc (Nat.le_refl _) _)), rfl⟩
        | false =>
          have hb0 : bz = false := by cases bz with
            | false => rfl
            | true => simp at hno
          have hr0 : rightN (insV s ri) := by subst hb0; simpa using hno
          have hfin : Hid (rdI s N r0 [] = rdI s (N - (i + 1)) ⟨az, false⟩ (li ++ [insV s ri])) := Lib.hid (by
            rw [hrd.out, rdI_yes (by rw [hRz]; exact hb0) hr0, hRz, hNk', hb0])
          clear hrd hno hRz hr0 hNk hNk'
          generalize insV s ri = x at *
          have q1 : i + 1 ≤ maxLen := by unfold maxLen; omega
          have q2 : (i + 1) * 24 ≤ 140737488355328 := by omega
          go_wp2_with (first
            | (go_at_call 23; go_must ((with_reducible refine hnx.out.mono ?_); rintro e w1 ⟨rfl, hk1, hb1⟩; have hsz1 := hb1.size; have K1 := Lib.hid (And.intro hk1 hb1); have O1 := Lib.hid (own_but hown'.out hb1 hgw); clear hk1 hb1))
            | (at_builtin; go_must (refine append_row rfl (.tmp 19) (.tmp 21) _ rfl w.heap.size 26 i0 _ 3 24 Tryd.underlying22 hi0 hz0 hz1 hz2 rfl (by decide) _ i _ rfl (own_below (own_below O1.out ((Below.refl _ _).alloc (Nat.le_refl _) (IObj x))) ((Below.refl _ _).alloc (Nat.le_refl _) (IObj x))) (w1.heap.size + 1) (iCells x) rfl (by have := Bk.new (w1.alloc (IObj x)) 26 (iCells x); rw [World.size_alloc] at this; exact this) rfl rfl q1 q2 (by rw [World.size_alloc, World.size_alloc]; omega) ?_; intro gg cap w4 hown4 hgr)))
          go_roundw
          case rel =>
            have hbb := (Below.refl w1.heap.size w1).alloc (Nat.le_refl _) (IObj x)
            have hbb2 := hbb.alloc (by rw [World.size_alloc]; omega) (IObj x)
            have hne : some g ≠ (Value.ownBlock _) := Ne.symm (own_ne O1.out hgw)
            refine ⟨i + 1, ⟨az, false⟩, li ++ [x], by omega, by go_num, by simp [hli], hfin, ?_, ?_, ?_⟩
            · rw [append_ins]; exact hown4
            · exact ((K1.out.1.alloc _).alloc _).grown hgr hne
            · exact ((hb.trans K1.out.2).thenBelow (hbb2.mono (Nat.le_trans hszr hsz1))).thenBelow ((Below.refl _ _).grown hgr (by rw [World.size_alloc, World.size_alloc]; omega) (fun k hk => own_ge O1.out hk))
          case measure => simp [intOf]; omega
    · have d0 : ¬ (i : Int) < (N : Int) := by omega
      obtain rfl : i = N := by omega
      have hown' := Lib.hid hown
      have hk2 := Lib.hid hk
      clear hown hk
      go_wp2
      go_ret2
      rw [hrd.out, Nat.sub_self]
      exact ⟨hk2.out, hb, _, rfl, by rw [hli]; exact hown'.out⟩

theorem read_any (s : ByteArray) (n : Int) (r0 : Rd) (g : Nat) (w : World) (hk : Bk w g 31 (frV s r0)) (hs : s.size ≤ 4611686018427387904) (hT : HasKinds w) (hg : 0 ≠ g) (hn : n ≤ 1048576) :
    Calls Tryd.prog 12 #[.pointer (some ⟨g, 0, none⟩), .int .i64 n] w (ReadPost 31 s (rdI s n.toNat r0 []) g w) := by
  by_cases h0 : 0 ≤ n
  · obtain ⟨N, rfl⟩ := Int.eq_ofNat_of_zero_le h0
    rw [Int.toNat_natCast]
    exact read_nat s N r0 g w hk hs hT hg (by omega)
  · rw [show n.toNat = 0 by omega]
    have d0 : ¬ (0 : Int) < n := by omega
    clear h0 hn hT
    have hk' := Lib.hid hk
    clear hk
    go_enter Tryd.func12, Tryd.ntmps12
    go_wp2
    go_loop [6, 10] (fun v c => v = .slice none 0 0 ∧ c = .int .i64 0) (fun _ _ => 0)
    case atStart => exact ⟨rfl, rfl⟩
    case round =>
      obtain ⟨rfl, rfl⟩ := hrel
      go_wp2
      go_ret2
      exact ⟨hk'.out, But.refl _ _, _, rfl, ⟨rfl, .inl ⟨rfl, rfl⟩⟩⟩

end Go.Proofs.YtlffdaiideoijaaDoor
