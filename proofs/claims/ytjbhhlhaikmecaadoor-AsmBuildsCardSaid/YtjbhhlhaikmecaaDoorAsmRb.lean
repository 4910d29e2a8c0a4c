/-
  What the reference's Build of layer 5 answers, in whatever memory, of every text of at most 4000 bytes.
-/
import Derived.Test.YtjbhhlhaikmecaaDoorAsmRp
import Derived.Deep.QuietTactic
import Derived.BigQuiet
import Derived.IntWalk
namespace Go.Proofs.YtjbhhlhaikmecaaDoor
open Go.RowKit

set_option maxRecDepth 100000 in
theorem rbuildLong (s : ByteArray) (w : World) (hs : 4000 < s.size) :
    Calls Tryd.prog 10 #[.string s] w (BuildR (buildN (bL s)) w) := by
  rw [show buildN (bL s) = .error 4 by unfold buildN; rw [if_pos (by rw [bL_length]; exact hs)]]
  have c1 := Lib.hid (rsplitLong s w hs)
  go_enter Tryd.func10, Tryd.ntmps10
  go_wp2_with (go_at_call 21; go_must ((with_reducible refine c1.out.mono ?_); rintro e w1 ⟨rfl, rfl⟩))
  go_ret2
  exact ⟨Below.refl _ _, rfl⟩

set_option maxRecDepth 100000 in
theorem rbuildToken (s : ByteArray) (w : World) (hs : s.size ≤ 4000) (h : splitN (bL s) = none) :
    Calls Tryd.prog 10 #[.string s] w (BuildR (buildN (bL s)) w) := by
  rw [show buildN (bL s) = .error 9 by unfold buildN; rw [if_neg (by rw [bL_length]; omega), h]]
  have c1 := Lib.hid (rsplit_no s w hs h)
  clear h
  go_enter Tryd.func10, Tryd.ntmps10
  go_wp2_with (go_at_call 21; go_must ((with_reducible refine c1.out.mono ?_); rintro e w1 ⟨rfl, hb1⟩))
  go_ret2
  exact ⟨hb1, rfl⟩

set_option maxRecDepth 100000 in
set_option maxHeartbeats 32000000 in
theorem rbuildSome (s : ByteArray) (o : List Tok) (w : World) (hs : s.size ≤ 4000) (h : splitN (bL s) = some o) :
    Calls Tryd.prog 10 #[.string s] w (BuildR (buildN (bL s)) w) := by
  have hR0 : buildN (bL s) = finB (foldB emptyB o) := by unfold buildN; rw [if_neg (by rw [bL_length]; omega), h]; rfl
  obtain ⟨R, hR⟩ : ∃ R, R = buildN (bL s) := ⟨_, rfl⟩
  have hst : Hid (finB (foldB emptyB (o.drop 0)) = R) := Lib.hid (by rw [hR, hR0]; rfl)
  rw [← hR]
  have c1 := Lib.hid (rsplit_yes s o w hs h)
  have hok : Hid (∀ t ∈ o, okG t) := Lib.hid (fun t ht => okG_of (split_ok h t ht) (by have := split_words h t ht; rw [bL_length] at this; omega))
  obtain ⟨N, hN⟩ : ∃ N, N = o.length := ⟨_, rfl⟩
  have hN' := Lib.hid hN
  have hol : N ≤ 4000 := by have := split_len h; rw [bL_length] at this; omega
  rw [← hN] at c1
  obtain ⟨iI, hiI, hI0, hI1, hI2⟩ := infoIns
  obtain ⟨iS, hiS, hS0, hS1, hS2⟩ := infoStr
  obtain ⟨iZ, hiZ, hZ0, hZ1, hZ2⟩ := infoI64
  clear h hR hR0 hN
  go_enter Tryd.func10, Tryd.ntmps10
  go_wp2_with (go_at_call 21; go_must ((with_reducible refine c1.out.mono ?_); rintro e w1 ⟨v1, rfl, ho1, hb1⟩; obtain ⟨A1, p1, rfl, t1⟩ := Sl.own ho1; have hp1 := t1.2.1; have T1 : Hid (Toks w1 A1 p1 o) := Lib.hid (by unfold Toks; rw [← hN'.out]; exact t1); clear t1 ho1))
  have hs1 := hb1.size
  clear c1
  go_loopw [6, 7, 8, 9, 10] (fun vo vw vg vm ci wr => ∃ (i : Nat) (x : BS), i ≤ N ∧ ci = .int .i64 i ∧ OkX x ∧ RB w1 wr vo vw vg vm x ∧ Hid (finB (foldB x (o.drop i)) = R) ∧ x.labs.length ≤ i) (fun _ _ _ _ ci _ => N - (intOf ci).toNat)
  case atStart => exact ⟨0, emptyB, Nat.zero_le _, rfl, okX_empty, RB.start w1, hst, by simp [emptyB]⟩
  case round =>
    clear hst
    obtain ⟨i, x, hi, rfl, hx, hB, HR, hlab⟩ := hrel
    obtain ⟨Ao, co, rfl, so⟩ := Sl.own hB.out
    obtain ⟨Aw, cw, rfl, sw⟩ := Sl.own hB.whr
    obtain ⟨Ag, cg, rfl, sg⟩ := Sl.own hB.gls
    obtain ⟨Am, cm, rfl, sm⟩ := Sl.own hB.mks
    have hB' := Lib.hid hB
    have hx' := Lib.hid hx
    have hbw := Lib.hid (hb1.trans (hB.old.mono hs1))
    have hgl := Lib.hid hx.goals
    have hgl64 : x.goals.length ≤ 64 := by rw [hx.goals]; exact hx.len
    have hxl := hx.len
    have sw' := Lib.hid sw
    have sg' := Lib.hid sg
    have sm' := Lib.hid sm
    have so' := Lib.hid so
    have qw := sw.2.1
    have qg := sg.2.1
    have qm := sm.2.1
    have qo := so.2.1
    have hold := Lib.hid hB.old
    clear sw sg sm so
    by_cases hlt : i < N
    · obtain ⟨⟨tk, tw, tn⟩, ht⟩ := at_of_lt (l := o) (j := i) (by rw [← hN'.out]; exact hlt)
      have hdr := dropT ht
      have HR2 : finB (foldB x (⟨tk, tw, tn⟩ :: o.drop (i + 1))) = R := by rw [← hdr]; exact HR.out
      have hkl : ∀ u ∈ (⟨tk, tw, tn⟩ : Tok) :: o.drop (i + 1), okG u := by rw [← hdr]; exact fun u hu => hok.out u (List.mem_of_mem_drop hu)
      obtain ⟨b, off, rfl, hbl, x0, x1, x2⟩ := (T1.out.below hold.out).cellAt ht
      simp only at x0 x1 x2
      have hbl1 : Hid (b < w1.heap.size) := Lib.hid (by
        obtain ⟨b', off', e, hlt', _⟩ := T1.out.cellAt ht
        injection e with e
        injection e with e
        omega)
      have d0 : (i : Int) < (N : Int) := by omega
      have d1 : (i : Int) < (p1 : Int) := by omega
      have htw := hkl _ List.mem_cons_self
      obtain ⟨W1, hW1⟩ : ∃ W1, W1 = wr.alloc (.cells #[.int .i64 (tk : Nat), .string (strL tw), .int .i64 tn] 48) := ⟨_, rfl⟩
      have hW1' := Lib.hid hW1
      have hbW : Below wr.heap.size wr W1 := by rw [hW1]; exact (Below.refl _ _).alloc (Nat.le_refl _) _
      have kt := Lib.hid (show Bk W1 wr.heap.size 48 #[.int .i64 (tk : Nat), .string (strL tw), .int .i64 tn] by rw [hW1]; exact Bk.new _ _ _)
      have H1 := Lib.hid (hB.below hbW)
      have hbW' := Lib.hid hbW
      obtain ⟨y0, y1, y2, yf⟩ := kt.out.three
      have hy := kt.out.lt
      clear hB HR hdr hW1 ht hbW
      by_cases h3 : tk = 3
      · have hnx := Lib.hid (label_next hx hkl h3 HR2)
        simp only at hnx
        have e3 : ((tk : Int) == 3) = true := by simp; omega
        clear HR2 hkl hx h3
        go_wp2
        rw [← hW1'.out]
        go_loopw [12] (fun ck w2 => ∃ k : Nat, k ≤ x.labs.length ∧ ck = .int .i64 k ∧ Below W1.heap.size W1 w2 ∧ Hid (∀ (j : Nat) (p : List Nat × Nat), j < k → x.labs[j]? = some p → p.1 ≠ tw)) (fun ck _ => x.labs.length - (intOf ck).toNat)
        case atStart => exact ⟨0, Nat.zero_le _, rfl, Below.refl _ _, Lib.hid (fun j p hj => by omega)⟩
        case round =>
          clear x0 x1 x2 y0 y1 y2 yf
          obtain ⟨k, hk, rfl, hb2, HN⟩ := hrel
          obtain ⟨w2, rfl⟩ : ∃ w2 : World, w2 = wr := ⟨_, rfl⟩
          have kt2 := Lib.hid (kt.out.below hb2)
          obtain ⟨y0, y1, y2, yf⟩ := kt2.out.three
          by_cases hkL : k < x.labs.length
          · obtain ⟨p, hp⟩ : ∃ p, x.labs[k]? = some p := ⟨_, List.getElem?_eq_getElem hkL⟩
            obtain ⟨bw, ow, rfl, hbw2, hcw, -⟩ := str_cell (sw'.out.below (bnext hbW'.out hb2)) (k := k) (g := p.1) (by rw [List.getElem?_map, hp]; rfl)
            have f0 : (k : Int) < (x.labs.length : Int) := by omega
            have f1 : (k : Int) < (cw : Int) := by omega
            have hpw := hx'.out.labs p (List.mem_of_getElem? hp)
            by_cases he : p.1 = tw
            · have hRe := hnx.out.1 (by rw [← he]; exact List.mem_map_of_mem (List.mem_of_getElem? hp))
              subst hRe
              rw [he] at hcw
              have e1 : ((strL tw).toList == (strL tw).toList) = true := by simp
              clear hnx HN he hp hpw htw
              generalize strL tw = SW at *
              go_wp2
              go_quiet (fail)
              go_wp2
              go_ret2
              exact ⟨below_drewN (bnext (bnext hbw.out hbW'.out) hb2) _, rfl⟩
            · have e1 := str_ne (fun e => he (strL_inj hpw.1 htw.2.1 e))
              have HN2 : Hid (∀ (j : Nat) (q : List Nat × Nat), j < k + 1 → x.labs[j]? = some q → q.1 ≠ tw) := Lib.hid (fun j q hj hq => by
                rcases Nat.lt_or_eq_of_le (Nat.le_of_lt_succ hj) with r | r
                · exact HN.out j q r hq
                · subst r; rw [hp] at hq; injection hq with hq; subst hq; exact he)
              clear hnx HN he hp hpw htw
              generalize strL tw = SW at *
              generalize strL p.1 = SP at *
              go_wp2
              go_quiet (fail)
              go_wp2
              go_roundw
              case rel => exact ⟨k + 1, by omega, by go_num, below_drewN hb2 _, HN2⟩
              case measure => simp [intOf]; omega
          · obtain rfl : k = x.labs.length := by omega
            have hno : tw ∉ x.labs.map (·.1) := fun hm => by
              obtain ⟨p, hp, he⟩ := List.mem_map.1 hm
              obtain ⟨j, hj⟩ := List.getElem?_of_mem hp
              obtain ⟨q, _⟩ := List.getElem?_eq_some_iff.1 hj
              exact HN.out j p q hj he
            obtain ⟨hx2, HR3⟩ := hnx.out.2 hno
            have HR4 := Lib.hid HR3
            have hx3 := Lib.hid hx2
            have H2 := Lib.hid (H1.out.below hb2)
            have hge : w1.heap.size ≤ w2.heap.size := H2.out.old.size
            have hbn := Lib.hid (bnext (bnext hbw.out hbW'.out) hb2)
            have mk1 : True := trivial
            have hlb : x.labs.length ≤ 4000 := by omega
            clear hnx HN hno HR3 hx2 H1 htw hB' hx'
            have hW2n : Hid (Bk (w2.alloc (.cells #[.string (strL tw)] 9)) w2.heap.size 9 #[.string (strL tw)]) := Lib.hid (Bk.new w2 _ _)
            have hal2 : Hid (Below w2.heap.size w2 (w2.alloc (.cells #[.string (strL tw)] 9))) := Lib.hid ((Below.refl _ _).alloc (Nat.le_refl _) _)
            go_wp2_with (first
              | (at_builtin; clear mk1; go_must (refine append_rowH rfl (.tmp 54) (.tmp 57) _ rfl w1.heap.size 9 iS _ 1 16 Tryd.underlying45 hiS hS0 hS1 hS2 rfl (by decide) (.slice Aw x.labs.length cw) x.labs.length (strsW (x.labs.map fun p : List Nat × Nat => p.1)) rfl (H2.out.below hal2.out).whr w2.heap.size #[.string (strL tw)] rfl hW2n.out rfl rfl (by unfold maxLen; omega) (by omega) (by rw [World.size_alloc]; omega) ?_; intro ga ca w4 own4 hgr4 hfr4; have own4' := Lib.hid own4; clear own4))
              | (at_builtin; go_must (refine append_rowH rfl (.tmp 59) (.tmp 62) _ rfl w1.heap.size 3 iZ _ 1 8 Tryd.underlying46 hiZ hZ0 hZ1 hZ2 rfl (by decide) (.slice Am x.labs.length cm) x.labs.length (natsW x.labs) rfl (own_below (own_grown (own_below H2.out.mks hal2.out) hgr4 (fun k hk e => own_apart (own_below H2.out.mks hal2.out) (own_below H2.out.whr hal2.out) (by decide) k hk e)) ((Below.refl w4.heap.size w4).alloc (Nat.le_refl _) _)) w4.heap.size #[.int .i64 (x.out.length : Nat)] rfl (Bk.new w4 _ _) rfl rfl (by unfold maxLen; omega) (by omega) (by have := own_lt own4'.out rfl; have := own_ge own4'.out rfl; rw [World.size_alloc]; omega) ?_; intro gb cb w5 own5 hgr5 hfr5)))
            go_roundw
            case rel =>
              have hRB := H2.out.label hal2.out hgr4 hfr4 own4'.out ((Below.refl _ _).alloc (Nat.le_refl _) _) hgr5 own5
              refine ⟨i + 1, _, by omega, by go_num, hx3.out, hRB, HR4, ?_⟩
              simp only [List.length_append, List.length_singleton]
              omega
            case measure => simp [intOf]; omega
      · have e3 : ((tk : Int) == 3) = false := by simp; omega
        have hof := Lib.hid (rof_any (strL tw) W1)
        rw [bL_strL tw htw.2.1] at hof
        have mk0 : True := trivial
        by_cases h1 : tk = 1
        · have e4 : ((tk : Int) != 1) = false := by simp; omega
          by_cases h0 : ofN tw = 0
          · have hRe := other_next hx (t := ⟨tk, tw, tn⟩) h3 (.inr h0) HR2
            subst hRe
            rw [h0] at hof
            clear HR2 hkl hx h0 htw hx' hB' h1 h3
            go_wp2_with (go_at_call 17; rw [← hW1'.out]; go_must ((with_reducible refine hof.out.mono ?_); rintro e w2 ⟨rfl, hb2⟩; obtain ⟨z0, z1, z2, zf⟩ := (kt.out.below hb2).three))
            go_ret2
            exact ⟨bnext (bnext hbw.out hbW'.out) hb2, rfl⟩
          · have hnx := Lib.hid (instr_next hx hkl h1 h0 HR2)
            simp only at hnx
            have hopr := of_some h0
            have e0 : ((ofN tw : Int) == 0) = false := by simpa using h0
            have htl := takes_le (ofN tw)
            have hjt : jumpsN (ofN tw) → takesN (ofN tw) = 1 := takes_jump
            have hrt : Hid (∀ W : World, _) := Lib.hid (fun W => rtakes_any (ofN tw) W)
            have hrj : Hid (∀ (b : Bool) (W : World), decide (jumpsN (ofN tw)) = b → _) := Lib.hid (fun b W hd => rjumps_is (ofN tw) b hd W)
            clear HR2 hkl hx h0 htw hx' h1 h3
            generalize ofN tw = op at *
            generalize hTK : takesN op = TK at *
            go_wp2_with (clear mk0; go_at_call 17; rw [← hW1'.out]; go_must ((with_reducible refine hof.out.mono ?_); rintro e w2 ⟨rfl, hb2⟩; obtain ⟨z0, z1, z2, zf⟩ := (kt.out.below hb2).three; have H2 := Lib.hid (H1.out.below hb2)))
            have hbn := Lib.hid (bnext (bnext hbw.out hbW'.out) hb2)
            have hbo := Lib.hid (bnext hold.out (bnext hbW'.out hb2))
            have hg2 : w1.heap.size ≤ w2.heap.size := H2.out.old.size
            clear x0 x1 x2 y0 y1 y2 yf z0 z1 z2 zf hof H1
            go_loopw [10, 15, 16] (fun ci sg ck w3 => ∃ (k n : Nat) (a bb : Int) (g : List Nat), k + n = TK ∧ ci = .int .i64 ((i + k : Nat) : Int) ∧ i + k < N ∧ sg = .string (strL g) ∧ ck = .int .i64 k ∧ Below w2.heap.size w2 w3 ∧ Bk w3 w2.heap.size 35 #[.int .i64 op, .int .i64 a, .int .i64 bb] ∧ Hid (argsN op n k a bb g (o.drop (i + k + 1)) = argsN op TK 0 0 0 [] (o.drop (i + 1)))) (fun _ _ ck _ => TK - (intOf ck).toNat)
            case atStart => exact ⟨0, TK, 0, 0, [], by omega, rfl, by omega, rfl, rfl, (Below.refl _ _).alloc (Nat.le_refl _) _, Bk.new _ _ _, Lib.hid rfl⟩
            case round =>
              obtain ⟨k, n, a, bb, g, hkn, rfl, hik, rfl, rfl, hb3, kx, HA⟩ := hrel
              obtain ⟨w3, rfl⟩ : ∃ w3 : World, w3 = wr := ⟨_, rfl⟩
              have hb3n := Lib.hid (bnext hbn.out hb3)
              have kx' := Lib.hid kx
              obtain ⟨u0, u1, u2, uf⟩ := kx.three
              have hxl2 := kx.lt
              clear kx
              have cik : ((i + k : Nat) : Int) = (i : Int) + (k : Int) := by omega
              rw [cik]
              by_cases hkT : k < TK
              · obtain ⟨n, rfl⟩ : ∃ n', n = n' + 1 := ⟨n - 1, by omega⟩
                have g0 : (k : Int) < (TK : Int) := by omega
                by_cases hiN : i + k + 1 < N
                · obtain ⟨⟨uk, uw, un⟩, hu⟩ := at_of_lt (l := o) (j := i + k + 1) (by rw [← hN'.out]; exact hiN)
                  obtain ⟨b', off', e', -, v0, v1, v2⟩ := (T1.out.below (bnext hbo.out hb3)).cellAt hu
                  simp only [Option.some.injEq, Addr.mk.injEq] at e'
                  obtain ⟨rfl, rfl, -⟩ := e'
                  simp only at v0 v1 v2
                  have HA2 := HA.out
                  rw [dropT hu, argsN] at HA2
                  simp only at HA2
                  have g1 : (i : Int) + (k : Int) + 1 < (N : Int) := by omega
                  have g2 : (i : Int) + (k : Int) + 1 < (p1 : Int) := by omega
                  have g3 : ((i : Int) + (k : Int) + 1).toNat = i + k + 1 := by omega
                  by_cases hj : jumpsN op
                  · have hj1 : Hid (∀ W : World, _) := Lib.hid (fun W => hrj.out true W (decide_eq_true hj))
                    rw [if_pos hj] at HA2
                    by_cases hu1 : uk = 1
                    · subst hu1
                      rw [if_pos rfl] at HA2
                      have HA3 := Lib.hid HA2
                      clear HA HA2 hj hu hrj hjt
                      go_wp2_with (first
                        | (go_at_call 13; go_must ((with_reducible refine (hrt.out _).mono ?_); rintro e w9 ⟨rfl, rfl⟩))
                        | (go_at_call 25; go_must ((with_reducible refine (hj1.out _).mono ?_); rintro e w9 ⟨rfl, rfl⟩)))
                      go_roundw
                      case rel => exact ⟨k + 1, n, a, bb, uw, by omega, by go_num, by omega, rfl, by go_num, hb3, kx'.out, HA3⟩
                      case measure => simp [intOf]; omega
                    · rw [if_neg hu1] at HA2
                      have hRe := hnx.out.1 HA2.symm
                      subst hRe
                      have f1 : ((uk : Int) == 1) = false := by simp; omega
                      clear HA HA2 hj hu hrj hjt hnx
                      go_wp2_with (first
                        | (go_at_call 13; go_must ((with_reducible refine (hrt.out _).mono ?_); rintro e w9 ⟨rfl, rfl⟩))
                        | (go_at_call 25; go_must ((with_reducible refine (hj1.out _).mono ?_); rintro e w9 ⟨rfl, rfl⟩)))
                      go_ret2
                      exact ⟨hb3n.out, rfl⟩
                  · have hj1 : Hid (∀ W : World, _) := Lib.hid (fun W => hrj.out false W (decide_eq_false hj))
                    rw [if_neg hj] at HA2
                    by_cases hu2 : uk = 2
                    · subst hu2
                      rw [if_pos rfl] at HA2
                      by_cases hk0 : k = 0
                      · subst hk0
                        rw [if_pos rfl] at HA2
                        have HA3 := Lib.hid HA2
                        have kx3 := Lib.hid (kx'.out.set 1 (.int .i64 un))
                        clear HA HA2 hj hu hrj hjt
                        go_wp2_with (first
                          | (go_at_call 13; go_must ((with_reducible refine (hrt.out _).mono ?_); rintro e w9 ⟨rfl, rfl⟩))
                          | (go_at_call 25; go_must ((with_reducible refine (hj1.out _).mono ?_); rintro e w9 ⟨rfl, rfl⟩)))
                        go_roundw
                        case rel => exact ⟨1, n, un, bb, g, by omega, by go_num, by omega, rfl, by go_num, hb3.setCell (by simp) _, by simpa using kx3.out, HA3⟩
                        case measure => simp [intOf]; omega
                      · rw [if_neg hk0] at HA2
                        have HA3 := Lib.hid HA2
                        have kx3 := Lib.hid (kx'.out.set 2 (.int .i64 un))
                        have f2 : ((k : Int) == 0) = false := by simp; omega
                        clear HA HA2 hj hu hrj hjt
                        go_wp2_with (first
                          | (go_at_call 13; go_must ((with_reducible refine (hrt.out _).mono ?_); rintro e w9 ⟨rfl, rfl⟩))
                          | (go_at_call 25; go_must ((with_reducible refine (hj1.out _).mono ?_); rintro e w9 ⟨rfl, rfl⟩)))
                        go_roundw
                        case rel => exact ⟨k + 1, n, a, un, g, by omega, by go_num, by omega, rfl, by go_num, hb3.setCell (by simp) _, by simpa using kx3.out, HA3⟩
                        case measure => simp [intOf]; omega
                    · rw [if_neg hu2] at HA2
                      have hRe := hnx.out.1 HA2.symm
                      subst hRe
                      have f1 : ((uk : Int) != 2) = true := by simp; omega
                      clear HA HA2 hj hu hrj hjt hnx
                      go_wp2_with (first
                        | (go_at_call 13; go_must ((with_reducible refine (hrt.out _).mono ?_); rintro e w9 ⟨rfl, rfl⟩))
                        | (go_at_call 25; go_must ((with_reducible refine (hj1.out _).mono ?_); rintro e w9 ⟨rfl, rfl⟩)))
                      go_ret2
                      exact ⟨hb3n.out, rfl⟩
                · have HA2 := HA.out
                  rw [List.drop_eq_nil_of_le (by rw [← hN'.out]; omega), argsN] at HA2
                  have hRe := hnx.out.1 HA2.symm
                  subst hRe
                  have g1 : (N : Int) ≤ (i : Int) + (k : Int) + 1 := by omega
                  clear HA HA2 hrj hjt hnx
                  go_wp2_with (go_at_call 13; go_must ((with_reducible refine (hrt.out _).mono ?_); rintro e w9 ⟨rfl, rfl⟩))
                  go_ret2
                  exact ⟨hb3n.out, rfl⟩
              · obtain rfl : n = 0 := by omega
                obtain rfl : k = TK := by omega
                have HA2 := HA.out
                rw [args_zero] at HA2
                have hn2 := hnx.out.2 _ _ _ HA2.symm
                have H3 := Lib.hid (H2.out.below hb3)
                have hge : w1.heap.size ≤ w3.heap.size := H3.out.old.size
                have mk1 : True := trivial
                have hWn : Hid (Bk (w3.alloc (.cells #[.int .i64 op, .int .i64 a, .int .i64 bb] 35)) w3.heap.size 35 #[.int .i64 op, .int .i64 a, .int .i64 bb]) := Lib.hid (Bk.new w3 _ _)
                have hal3 : Hid (Below w3.heap.size w3 (w3.alloc (.cells #[.int .i64 op, .int .i64 a, .int .i64 bb] 35))) := Lib.hid ((Below.refl _ _).alloc (Nat.le_refl _) _)
                clear HA HA2 hnx hrj hjt H2
                by_cases h64 : 64 < x.out.length + 1
                · have hRe := hn2.1 h64
                  subst hRe
                  have g4 : (64 : Int) < (x.out.length : Int) + 1 := by omega
                  clear hn2
                  go_wp2_with (first
                    | (go_at_call 13; go_must ((with_reducible refine (hrt.out _).mono ?_); rintro e w9 ⟨rfl, rfl⟩))
                    | (at_builtin; clear mk1; go_must (refine append_rowH rfl (.tmp 131) (.tmp 133) _ rfl w1.heap.size 35 iI _ 3 24 Tryd.underlying23 hiI hI0 hI1 hI2 rfl (by decide) (.slice Ao x.out.length co) x.out.length (inssW x.out) rfl (H3.out.below hal3.out).out w3.heap.size #[.int .i64 op, .int .i64 a, .int .i64 bb] rfl hWn.out rfl rfl (by unfold maxLen; omega) (by omega) (by rw [World.size_alloc]; omega) ?_; intro ga ca w4 own4 hgr4 hfr4; have own4' := Lib.hid own4; clear own4))
                    | (at_builtin; go_must (refine append_rowH rfl (.tmp 135) (.tmp 137) _ rfl w1.heap.size 9 iS _ 1 16 Tryd.underlying45 hiS hS0 hS1 hS2 rfl (by decide) (.slice Ag x.goals.length cg) x.goals.length (strsW x.goals) rfl (own_below (own_grown (own_below H3.out.gls hal3.out) hgr4 (fun k hk e => own_apart (own_below H3.out.gls hal3.out) (own_below H3.out.out hal3.out) (by decide) k hk e)) ((Below.refl w4.heap.size w4).alloc (Nat.le_refl _) _)) w4.heap.size #[.string (strL g)] rfl (Bk.new w4 _ _) rfl rfl (by unfold maxLen; omega) (by omega) (by have := own_lt own4'.out rfl; have := own_ge own4'.out rfl; rw [World.size_alloc]; omega) ?_; intro gb cb w5 own5 hgr5 hfr5)))
                  go_ret2
                  exact ⟨hb1.trans ((H3.out.instr (i := ⟨op, a, bb⟩) (gl := g) hal3.out hgr4 own4'.out ((Below.refl _ _).alloc (Nat.le_refl _) _) hgr5 hfr5 own5).old.mono hs1), rfl⟩
                · obtain ⟨hx4, HR4⟩ := hn2.2 h64
                  have HR5 := Lib.hid HR4
                  have hx5 := Lib.hid hx4
                  have g4 : ¬ (64 : Int) < (x.out.length : Int) + 1 := by omega
                  clear hn2 HR4 hx4
                  go_wp2_with (first
                    | (go_at_call 13; go_must ((with_reducible refine (hrt.out _).mono ?_); rintro e w9 ⟨rfl, rfl⟩))
                    | (at_builtin; clear mk1; go_must (refine append_rowH rfl (.tmp 131) (.tmp 133) _ rfl w1.heap.size 35 iI _ 3 24 Tryd.underlying23 hiI hI0 hI1 hI2 rfl (by decide) (.slice Ao x.out.length co) x.out.length (inssW x.out) rfl (H3.out.below hal3.out).out w3.heap.size #[.int .i64 op, .int .i64 a, .int .i64 bb] rfl hWn.out rfl rfl (by unfold maxLen; omega) (by omega) (by rw [World.size_alloc]; omega) ?_; intro ga ca w4 own4 hgr4 hfr4; have own4' := Lib.hid own4; clear own4))
                    | (at_builtin; go_must (refine append_rowH rfl (.tmp 135) (.tmp 137) _ rfl w1.heap.size 9 iS _ 1 16 Tryd.underlying45 hiS hS0 hS1 hS2 rfl (by decide) (.slice Ag x.goals.length cg) x.goals.length (strsW x.goals) rfl (own_below (own_grown (own_below H3.out.gls hal3.out) hgr4 (fun k hk e => own_apart (own_below H3.out.gls hal3.out) (own_below H3.out.out hal3.out) (by decide) k hk e)) ((Below.refl w4.heap.size w4).alloc (Nat.le_refl _) _)) w4.heap.size #[.string (strL g)] rfl (Bk.new w4 _ _) rfl rfl (by unfold maxLen; omega) (by omega) (by have := own_lt own4'.out rfl; have := own_ge own4'.out rfl; rw [World.size_alloc]; omega) ?_; intro gb cb w5 own5 hgr5 hfr5)))
                  go_roundw
                  case rel =>
                    have hRB := H3.out.instr (i := ⟨op, a, bb⟩) (gl := g) hal3.out hgr4 own4'.out ((Below.refl _ _).alloc (Nat.le_refl _) _) hgr5 hfr5 own5
                    refine ⟨i + k + 1, _, by omega, by go_num, hx5.out, hRB, HR5, ?_⟩
                    simp only
                    omega
                  case measure => simp [intOf]; omega
        · have hRe := other_next hx (t := ⟨tk, tw, tn⟩) h3 (.inl h1) HR2
          subst hRe
          have e1 : ((tk : Int) != 1) = true := by simp; omega
          clear HR2 hkl hx htw hx' hB'
          go_wp2_with (go_at_call 17; rw [← hW1'.out]; go_must ((with_reducible refine hof.out.mono ?_); rintro e w2 ⟨rfl, hb2⟩; obtain ⟨z0, z1, z2, zf⟩ := (kt.out.below hb2).three))
          go_ret2
          exact ⟨bnext (bnext hbw.out hbW'.out) hb2, rfl⟩
    · obtain rfl : i = N := by omega
      have HRf : finB x = R := by
        have := HR.out
        rw [List.drop_eq_nil_of_le (by rw [← hN'.out]; omega)] at this
        exact this
      have hmd := hx.mode
      have hL0 := Lib.hid hB.lead
      have hwl : Hid (∀ g, whereN x.labs g ≤ 64) := Lib.hid (fun g => by have := where_le (n := 64) (fun p hp => hx'.out.ats p hp) g; simpa using this)
      have HRf' := Lib.hid HRf
      have hmd' := Lib.hid hmd
      clear HR HRf hB hB' sw' sg' sm' so' hbw hold hx hmd
      go_wp2
      go_loopw [17] (fun cj w2 => ∃ j : Nat, j ≤ x.out.length ∧ cj = .int .i64 j ∧ RL w1 w2 (.slice Ao x.out.length co) (.slice Aw x.labs.length cw) (.slice Ag x.goals.length cg) (.slice Am x.labs.length cm) x j ∧ Hid (∀ q, q < j → jumpsN (insAt x.out q).op → (q : Int) < whereN x.labs (x.goals[q]?.getD []))) (fun cj _ => x.out.length - (intOf cj).toNat)
      case atStart => exact ⟨0, Nat.zero_le _, rfl, hL0.out, Lib.hid (fun q hq => by omega)⟩
      case round =>
        clear hL0
        obtain ⟨j, hj, rfl, hL, HJ⟩ := hrel
        obtain ⟨w2, rfl⟩ : ∃ w2 : World, w2 = wr := ⟨_, rfl⟩
        have hL' := Lib.hid hL
        have hbw := Lib.hid (hb1.trans (hL.old.mono hs1))
        by_cases hjl : j < x.out.length
        · obtain ⟨gc, cap, he, hgc, hgl2⟩ := hL.out.form (by omega)
          injection he with he1 he2 he3
          subst he1
          subst he3
          obtain ⟨b, off, e9, hbl, x0, zz, x1⟩ := mix_cell (Sl.own' hL.out) hjl
          simp only [Option.some.injEq, Addr.mk.injEq] at e9
          obtain ⟨rfl, rfl, -⟩ := e9
          rw [Nat.zero_add] at x0 x1
          obtain ⟨cur, hcur, hcs⟩ := own_bk hL.out
          have hzf := fun o => hcur.frozen o
          have d0 : (j : Int) < (x.out.length : Int) := by omega
          have d1 : (j : Int) < (co : Int) := by omega
          by_cases hjp : jumpsN (insAt x.out j).op
          · have hj1 := Lib.hid (rjumps_is (insAt x.out j).op true (decide_eq_true hjp) w2)
            obtain ⟨g, hg⟩ : ∃ g, x.goals[j]? = some g := ⟨_, List.getElem?_eq_getElem (by rw [hgl.out]; exact hjl)⟩
            have hgd : x.goals[j]?.getD [] = g := by rw [hg]; rfl
            have hgw := hx'.out.words g (List.mem_of_getElem? hg)
            have hwg := hwl.out g
            have hwp : Hid (whereN x.labs g ≤ j → R = .error 10) := Lib.hid (fun hle => by rw [← HRf'.out]; exact fin_no hmd'.out hjl hjp (by rw [hgd]; exact hle))
            have HJ2 : Hid (¬ whereN x.labs g ≤ j → ∀ q, q < j + 1 → jumpsN (insAt x.out q).op → (q : Int) < whereN x.labs (x.goals[q]?.getD [])) := Lib.hid (fun hle q hq hjq => by
              rcases Nat.lt_or_eq_of_le (Nat.le_of_lt_succ hq) with r | r
              · exact HJ.out q r hjq
              · subst r; rw [hgd]; omega)
            have hset : Hid (∀ W, RL w1 W (.slice (some ⟨gc, 0, none⟩) x.out.length co) (.slice Aw x.labs.length cw) (.slice Ag x.goals.length cg) (.slice Am x.labs.length cm) x j → RL w1 (W.setCell ⟨gc, j * 3 + 1, none⟩ (.int .i64 (whereN x.labs g - j - 1))) (.slice (some ⟨gc, 0, none⟩) x.out.length co) (.slice Aw x.labs.length cw) (.slice Ag x.goals.length cg) (.slice Am x.labs.length cm) x (j + 1)) := Lib.hid (fun W hW => by have := hW.set hjl hjp; rw [hgd] at this; exact this)
            have hg' := Lib.hid hg
            clear HJ hL hcur hjp hg hgd
            go_wp2_with (go_at_call 25; go_must ((with_reducible refine hj1.out.mono ?_); rintro e w9 ⟨rfl, rfl⟩))
            go_loopw [18, 19] (fun ca ck w3 => ∃ k : Nat, k ≤ x.labs.length ∧ ck = .int .i64 k ∧ ca = .int .i64 (whereN (x.labs.take k) g) ∧ Below w2.heap.size w2 w3) (fun _ ck _ => x.labs.length - (intOf ck).toNat)
            case atStart => exact ⟨0, Nat.zero_le _, rfl, rfl, Below.refl _ _⟩
            case round =>
              clear x0 x1 hj1 hzf
              obtain ⟨k, hk, rfl, rfl, hb3⟩ := hrel
              obtain ⟨w3, rfl⟩ : ∃ w3 : World, w3 = wr := ⟨_, rfl⟩
              have L3 := Lib.hid (hL'.out.below hb3)
              by_cases hkL : k < x.labs.length
              · obtain ⟨p, hp⟩ : ∃ p, x.labs[k]? = some p := ⟨_, List.getElem?_eq_getElem hkL⟩
                obtain ⟨bw, ow, ew, hbw3, cw3, -⟩ := str_cell (Sl.own' L3.out.whr) (k := k) (g := p.1) (by rw [List.getElem?_map, hp]; rfl)
                obtain ⟨bg, og, eg, hbg3, cg3, hjg⟩ := str_cell (Sl.own' L3.out.gls) hg'.out
                obtain ⟨bm, om, em, hbm3, cm3, -⟩ := nat_cell (Sl.own' L3.out.mks) hp
                subst ew
                subst eg
                subst em
                have f0 : (k : Int) < (x.labs.length : Int) := by omega
                have f1 : (k : Int) < (cw : Int) := by omega
                have f2 : (k : Int) < (cm : Int) := by omega
                have f3 : (j : Int) < (x.goals.length : Int) := by omega
                have f4 : (j : Int) < (cg : Int) := by omega
                have hwt := where_take x.labs g hp
                have hpw := hx'.out.labs p (List.mem_of_getElem? hp)
                by_cases he : p.1 = g
                · rw [if_pos he] at hwt
                  have hwt' := Lib.hid hwt
                  rw [he] at cw3
                  have e1 : ((strL g).toList == (strL g).toList) = true := by simp
                  clear hwt he hp hpw hgw hset HJ2 hwp
                  generalize strL g = SG at *
                  generalize whereN (x.labs.take k) g = P0 at *
                  go_wp2
                  go_quiet (fail)
                  go_wp2
                  go_roundw
                  case rel => exact ⟨k + 1, by omega, by go_num, by rw [hwt'.out], below_drewN hb3 _⟩
                  case measure => simp [intOf]; omega
                · rw [if_neg he] at hwt
                  have hwt' := Lib.hid hwt
                  have e1 := str_ne (fun e => he (strL_inj hpw.1 hgw.1 e))
                  clear hwt he hp hpw hgw hset HJ2 hwp
                  generalize strL g = SG at *
                  generalize strL p.1 = SP at *
                  go_wp2
                  go_quiet (fail)
                  go_wp2
                  go_roundw
                  case rel => exact ⟨k + 1, by omega, by go_num, by rw [hwt'.out], below_drewN hb3 _⟩
                  case measure => simp [intOf]; omega
              · obtain rfl : k = x.labs.length := by omega
                have htk : x.labs.take x.labs.length = x.labs := List.take_length
                rw [htk]
                have hbn := Lib.hid (bnext hbw.out hb3)
                by_cases hple : whereN x.labs g ≤ (j : Int)
                · have hRe := hwp.out hple
                  subst hRe
                  clear hset HJ2 hwp htk
                  generalize whereN x.labs g = P at *
                  go_wp2
                  go_ret2
                  exact ⟨hbn.out, rfl⟩
                · have HJ3 := Lib.hid (HJ2.out (by omega))
                  have L4 := Lib.hid (hset.out w3 L3.out)
                  obtain ⟨cur3, hcur3, hcs3⟩ := own_bk L3.out.out
                  obtain ⟨z3, hz3⟩ : ∃ z, w3.cell? ⟨gc, j * 3 + 1, none⟩ = some z := ⟨_, (hcur3.cell _).trans (Array.getElem?_eq_getElem (by omega))⟩
                  have hzf3 := fun o => hcur3.frozen o
                  clear hset HJ2 hwp htk hcur3
                  generalize whereN x.labs g = P at *
                  go_wp2
                  go_roundw
                  case rel => exact ⟨j + 1, by omega, by go_num, L4.out, HJ3⟩
                  case measure => simp [intOf]; omega
          · have hj1 := Lib.hid (rjumps_is (insAt x.out j).op false (decide_eq_false hjp) w2)
            have hL2 := Lib.hid (hL.skip hjp)
            have HJ2 : Hid (∀ q, q < j + 1 → jumpsN (insAt x.out q).op → (q : Int) < whereN x.labs (x.goals[q]?.getD [])) := Lib.hid (fun q hq hjq => by
              rcases Nat.lt_or_eq_of_le (Nat.le_of_lt_succ hq) with r | r
              · exact HJ.out q r hjq
              · subst r; exact absurd hjq hjp)
            clear HJ hL hjp hcur
            go_wp2_with (go_at_call 25; go_must ((with_reducible refine hj1.out.mono ?_); rintro e w9 ⟨rfl, rfl⟩))
            go_roundw
            case rel => exact ⟨j + 1, by omega, by go_num, hL2.out, HJ2⟩
            case measure => simp [intOf]; omega
        · obtain rfl : j = x.out.length := by omega
          have hRe : R = .ok (mixI x x.out.length) := by rw [← HRf'.out]; exact fin_ok hmd'.out HJ.out
          subst hRe
          clear HJ hL
          go_wp2
          go_ret2
          refine ⟨hbw.out, _, rfl, ?_⟩
          rw [mixI_length]
          exact own_lower hL'.out.out hs1

theorem rbuild_any (s : ByteArray) (w : World) : Calls Tryd.prog 10 #[.string s] w (BuildR (buildN (bL s)) w) := by
  by_cases hs : s.size ≤ 4000
  · cases h : splitN (bL s) with
    | none => exact rbuildToken s w hs h
    | some o => exact rbuildSome s o w hs h
  · exact rbuildLong s w (by omega)

theorem rbuild_yes (s : ByteArray) (l : List Ins) (w : World) (h : buildN (bL s) = .ok l) :
    Calls Tryd.prog 10 #[.string s] w fun e w' => ∃ A c, e = .returned (.tuple #[.slice A l.length c, .int .i64 0]) ∧ Inss w' A c l ∧ Below w.heap.size w w' :=
  (rbuild_any s w).mono fun e w' hp => by
    rw [h] at hp
    obtain ⟨hb, v, he, ho⟩ := hp
    obtain ⟨A, c, rfl, hi⟩ := Inss.own ho
    exact ⟨A, c, he, hi, hb⟩

theorem rbuild_no (s : ByteArray) (n : Nat) (w : World) (h : buildN (bL s) = .error n) :
    Calls Tryd.prog 10 #[.string s] w fun e w' => e = .returned (.tuple #[.slice none 0 0, .int .i64 (n : Nat)]) ∧ Below w.heap.size w w' :=
  (rbuild_any s w).mono fun e w' hp => by rw [h] at hp; exact ⟨hp.2, hp.1⟩

end Go.Proofs.YtjbhhlhaikmecaaDoor
