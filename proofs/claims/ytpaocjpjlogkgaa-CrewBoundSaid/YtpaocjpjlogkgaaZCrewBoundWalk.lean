/-
  CrewBound, walked: true of whatever comes, in whatever memory.
-/
import Derived.Test.YtpaocjpjlogkgaaZCrwAw
import Derived.Test.YtpaocjpjlogkgaaZCrwWk
import Derived.Test.YtpaocjpjlogkgaaZCrwLw
import Derived.Test.YtpaocjpjlogkgaaQCrwF
namespace Go.Proofs.Ytpaocjpjlogkgaa
open Go Go.RowKit
set_option maxRecDepth 100000
attribute [local go_sem] look findAt
attribute [local simp] depsOf isV Region.binds

section
variable (l : List CmL) (A : Option Addr) (n c : Nat) (ts : List Int) (tA : Option Addr) (tn tc : Nat)

set_option maxHeartbeats 4000000 in
theorem crewBound_no (hz : n ≤ 9223372036854775807) (w : World) (h : Cmds w A c l) (hN : l.length = n) (hr : ¬ R17 l) :
    Calls Try.prog 3 #[.slice A n c, .slice tA tn tc] w fun e w' => e = .returned (.bool true) ∧ Below w.heap.size w w' := by
  have aw := Lib.hid (fun W => awake17 W)
  have hri := Lib.hid (right17_no h hN hz hr)
  clear h hN hr
  go_enter Try.func3, Try.ntmps3
  go_wp2_with (first
    | (go_at_call 6; go_must ((with_reducible refine hri.out.mono ?_); rintro e w1 ⟨rfl, hb1⟩; have B1 := Lib.hid hb1; clear hb1))
    | (go_at_call 7; go_must ((with_reducible refine (aw.out _).mono ?_); rintro e w2 ⟨rfl, hb2⟩; have B2 := Lib.hid (bnext B1.out hb2); clear hb2)))
  go_ret
  exact ⟨rfl, B2.out⟩

set_option maxHeartbeats 4000000 in
theorem crewBound_many (w : World) (h : Cmds w A c l) (hN : l.length = n) (hr : R17 l) (hm : 300 < tn) :
    Calls Try.prog 3 #[.slice A n c, .slice tA tn tc] w fun e w' => e = .returned (.bool true) ∧ Below w.heap.size w w' := by
  have aw := Lib.hid (fun W => awake17 W)
  have hri := Lib.hid (right17_yes h hN hr)
  have d1 : decide ((300 : Int) < (tn : Int)) = true := decide_eq_true (by omega)
  clear h hN hr
  go_enter Try.func3, Try.ntmps3
  go_wp2_with (first
    | (go_at_call 6; go_must ((with_reducible refine hri.out.mono ?_); rintro e w1 ⟨rfl, hb1⟩; have B1 := Lib.hid hb1; clear hb1))
    | (go_at_call 7; go_must ((with_reducible refine (aw.out _).mono ?_); rintro e w2 ⟨rfl, hb2⟩; have B2 := Lib.hid (bnext B1.out hb2); clear hb2)))
  go_ret
  exact ⟨rfl, B2.out⟩

set_option maxHeartbeats 32000000 in
theorem crewBound_main (w : World) (h : Cmds w A c l) (hN : l.length = n) (hr : R17 l) (hm : tn ≤ 300) (hts : U8s w tA tc ts) (htn : ts.length = tn) (htr : ∀ x ∈ ts, 0 ≤ x ∧ x ≤ 255) :
    Calls Try.prog 3 #[.slice A n c, .slice tA tn tc] w fun e w' => e = .returned (.bool true) ∧ Below w.heap.size w w' := by
  have aw := Lib.hid (fun W => awake17 W)
  have hri := Lib.hid (right17_yes h hN hr)
  have hre : Hid (∀ W, Calls Try.prog 9 #[.int .i64 6] W (AddPost 6 0 hd0 (restX 6) W)) := Lib.hid (fun W => rest_any 6 (by decide) (by decide) W)
  have hst := Lib.hid (fun W (hW : Below w.heap.size w W) z (hz : CwIs 6 0 (restX 6) W z) => start_any (h.below hW) hN hr hz)
  have d1 : decide ((300 : Int) < (tn : Int)) = false := decide_eq_false (by omega)
  have hn20 : n ≤ 20 := by rw [← hN]; exact hr.2
  have H := Lib.hid h
  have HN := Lib.hid hN
  have HR := Lib.hid hr
  have HTS := Lib.hid hts
  have HTN := Lib.hid htn
  have HTR := Lib.hid htr
  obtain ⟨F, hF⟩ : ∃ F : Nat, fuelP (addAll (csOf l)) = (F : Int) := ⟨(fuelP (addAll (csOf l))).toNat, by have := hr.fuel.1; omega⟩
  have hF4 : F ≤ 4000 := by have := hr.fuel.2; omega
  obtain ⟨M, hM⟩ : ∃ M : Nat, M = F + 3 * n := ⟨_, rfl⟩
  obtain ⟨gt, gi, g0, gm⟩ := hr.goes (tsN ts) (most := M) (by rw [hF, hN]; omega)
  obtain ⟨R, hR⟩ : ∃ R, R = goP (tsN ts) M 0 (startX 6 (csOf l)) := ⟨_, rfl⟩
  rw [← hR] at gt gi g0 gm
  obtain ⟨t, hRt⟩ : ∃ t : Nat, R.2 = (t : Int) := ⟨R.2.toNat, by omega⟩
  have ht : t ≤ M := by omega
  have HRT := Lib.hid hRt
  have GT := Lib.hid gt
  have hfu : Hid (∀ W z, CwIs 6 0 (startX 6 (csOf l)) W z → Calls Try.prog 10 #[.slice z.tA z.tn z.tc] W fun e w' => e = .returned (.int .i64 (F : Int)) ∧ Below W.heap.size W w') := Lib.hid (fun W z hz => by
    rw [← hF]
    exact rfuel_is _ _ _ _ _ _ hz.tk (by have := hz.tk.lenL; rw [start_length, hN] at this; omega) (fun T hT => by have := hr.fuels T hT; omega))
  have hwk : Hid (∀ W z, Below w.heap.size w W → CwIs 6 0 (startX 6 (csOf l)) W z → Calls Try.prog 11 #[.agg (cwA 6 0 hd0 z), .slice tA tn tc, .int .i64 ((F : Int) + 3 * (n : Int))] W (CwErr 6 0 hd0 R.1 z (t : Int) W)) := Lib.hid (fun W z hW hz => by
    have := worked_any 6 0 hd0 (csOf l) b06 (startX 6 (csOf l)) z ts tA tn tc M W hz hr.inv hr.cmds' goodT6 List.length_replicate (by have := hr.few; omega) (by decide) (by decide) (hts.below hW) htn htr (by omega)
    have e : (M : Int) = (F : Int) + 3 * (n : Int) := by omega
    rwa [← hR, hRt, e] at this)
  clear gt gi g0 gm hR hRt hF
  clear h hN hr hts htn htr
  go_enter Try.func3, Try.ntmps3
  have e1 : wrap64 (3 * (n : Int)) = 3 * (n : Int) := by unfold wrap64; omega
  have e2 : wrap64 ((F : Int) + 3 * (n : Int)) = (F : Int) + 3 * (n : Int) := by unfold wrap64; omega
  have d2 : decide ((0 : Int) ≤ (t : Int)) = true := decide_eq_true (by omega)
  have d3 : decide ((t : Int) ≤ (F : Int) + 3 * (n : Int)) = true := decide_eq_true (by omega)
  clear hM
  go_wp2_with (first
    | (go_at_call 6; go_must ((with_reducible refine hri.out.mono ?_); rintro e w1 ⟨rfl, hb1⟩; have B1 := Lib.hid hb1; clear hb1))
    | (go_at_call 9; go_must ((with_reducible refine (hre.out _).mono ?_); rintro e w2 ⟨z2, rfl, hI2, hb2⟩; have I2 := Lib.hid hI2; have B2 := Lib.hid (bnext B1.out hb2); clear hI2 hb2))
    | (go_at_call 8; go_must ((with_reducible refine (hst.out _ B2.out z2 I2.out).mono ?_); rintro e w3 ⟨z3, rfl, hI3, hb3⟩; have N3 := Lib.hid (Bk.new w3 34 cwZ); obtain ⟨w3', hw3⟩ : ∃ W, W = (w3.alloc (.cells cwZ 34)).setRow w3.heap.size (cwA 6 0 hd0 z3) := ⟨_, rfl⟩; have HW3 := Lib.hid hw3.symm; have f3 : Below w3.heap.size w3 w3' := (by rw [hw3]; exact fresh_crew w3 _); have I3 := Lib.hid (hI3.below f3); have K3 : Hid (Bk w3' w3.heap.size 34 (cwA 6 0 hd0 z3)) := Lib.hid (by rw [hw3]; exact N3.out.setRow _); have B3 := Lib.hid (bnext (bnext B2.out hb3) f3); have hz3 : w.heap.size ≤ w3.heap.size := (bnext B2.out hb3).size; clear hI3 hw3 f3 hb3; obtain ⟨-, -, p2, -, pl, -⟩ := K3.out.crew))
    | (with_reducible refine st_cw w3.heap.size N3.out rfl 6 0 hd0 z3 _ _ rfl rfl rfl rfl ?_; rw [HW3.out])
    | (go_at_call 10; go_must ((with_reducible refine (hfu.out _ z3 I3.out).mono ?_); rintro e w4 ⟨rfl, hb4⟩; have I4 := Lib.hid (I3.out.below hb4); have K4 := Lib.hid (K3.out.below hb4); have B4 := Lib.hid (bnext B3.out hb4); clear hb4 p2 pl))
    | (with_reducible refine ld_cw w3.heap.size K4.out _ rfl rfl rfl ?_)
    | (go_at_call 11; go_must ((with_reducible refine (hwk.out _ z3 B4.out I4.out).mono ?_); rintro e w5 ⟨z5, rfl, hI5, hb5, -⟩; have N5 := Lib.hid (Bk.new w5 34 cwZ); have n5 : z5.tn = 0 := (by rw [← hI5.tk.lenL, GT.out]; rfl); obtain ⟨w5', hw5⟩ : ∃ W, W = (w5.alloc (.cells cwZ 34)).setRow w5.heap.size (cwA 6 0 hd0 z5) := ⟨_, rfl⟩; have HW5 := Lib.hid hw5.symm; have f5 : Below w5.heap.size w5 w5' := (by rw [hw5]; exact fresh_crew w5 _); have K5 : Hid (Bk w5' w5.heap.size 34 (cwA 6 0 hd0 z5)) := Lib.hid (by rw [hw5]; exact N5.out.setRow _); have B5 := Lib.hid (bnext (bnext B4.out hb5) f5); clear hI5 hw5 f5 hb5))
    | (with_reducible refine st_cw w5.heap.size N5.out rfl 6 0 hd0 z5 _ _ rfl rfl rfl rfl ?_; rw [HW5.out])
    | (go_at_call 7; go_must ((with_reducible refine (aw.out _).mono ?_); rintro e w6 ⟨rfl, hb6⟩; have K6 := Lib.hid (K5.out.below hb6); have B6 := Lib.hid (bnext B5.out hb6); clear hb6; obtain ⟨-, -, p2, -, pl, -⟩ := K6.out.crew; rw [n5] at p2)))
  go_ret
  exact ⟨rfl, B6.out⟩

theorem crewBound_walk (hz : n ≤ 9223372036854775807) (w : World) (h : Cmds w A c l) (hN : l.length = n) (hts : U8s w tA tc ts) (htn : ts.length = tn) (htr : ∀ x ∈ ts, 0 ≤ x ∧ x ≤ 255) :
    Calls Try.prog 3 #[.slice A n c, .slice tA tn tc] w fun e w' => e = .returned (.bool true) ∧ Below w.heap.size w w' := by
  by_cases hr : R17 l
  · by_cases hm : 300 < tn
    · exact crewBound_many l A n c tA tn tc w h hN hr hm
    · exact crewBound_main l A n c ts tA tn tc w h hN hr (by omega) hts htn htr
  · exact crewBound_no l A n c tA tn tc hz w h hN hr

end
end Go.Proofs.Ytpaocjpjlogkgaa
