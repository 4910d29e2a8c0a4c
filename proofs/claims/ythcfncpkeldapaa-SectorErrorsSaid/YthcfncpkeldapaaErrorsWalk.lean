/-
  What SectorErrors answers: true, for every list of deeds in memory, every number and every string. No conditions.
-/
import Derived.Test.YthcfncpkeldapaaSame
namespace Go.Proofs.Ythcfncpkeldapaa
open Go.RowKit

theorem put_done (D : Dk) (at_ : Int) (data : ByteArray) (h : (putD D at_ data).2 = 0) : 0 ≤ at_ ∧ at_ < D.sec.length ∧ data.size ≤ 128 ∧ D.down = false ∧ D.left ≠ 0 := by
  unfold putD at h
  split at h
  · simp at h
  · split at h
    · simp at h
    · split at h
      · simp at h
      · rename_i h1 h2 h3
        refine ⟨by omega, by omega, by omega, ?_, ?_⟩
        · cases hd : D.down <;> simp_all
        · intro h4; exact h3 (.inr h4)

theorem put_refused (D : Dk) (at_ : Int) (data : ByteArray) (h : (putD D at_ data).2 ≠ 0) : { (putD D at_ data).1 with down := D.down } = D := by
  unfold putD at h ⊢
  split at h
  · rename_i h1; rw [if_pos h1]
  · rename_i h1
    rw [if_neg h1]
    split at h
    · rename_i h2; rw [if_pos h2]
    · rename_i h2
      rw [if_neg h2]
      split at h
      · rename_i h3; rw [if_pos h3]
      · simp at h

set_option maxRecDepth 100000 in
set_option maxHeartbeats 400000 in
theorem errors_long (A : Option Addr) (n c : Nat) (l : List ActD) (at_ : Int) (data : ByteArray) (w : World) (h : IsActs w A n l) (hs : shortB l = false ∨ 300 < data.size) :
    Calls Try.prog 9 #[.slice A n c, .int .i64 at_, .string data] w fun e w' => e = .returned (.bool true) ∧ Below w.heap.size w w' := by
  have hsh := short_any A n c l w h
  cases hb : shortB l with
  | false =>
    rw [hb] at hsh
    clear hs
    go_enter Try.func9, Try.ntmps9
    go_wp2_with (first
      | (go_at_call 10; go_must (refine hsh.mono ?_; rintro e w1 ⟨rfl, rfl⟩))
      | (go_at_call 11; go_must (refine (awake_any _).mono ?_; rintro e w1 ⟨rfl, hb1⟩)))
    go_ret
    exact ⟨rfl, hb1⟩
  | true =>
    rw [hb] at hsh
    have hd : 300 < data.size := by rcases hs with hs | hs <;> simp_all
    clear hs
    go_enter Try.func9, Try.ntmps9
    go_wp2_with (first
      | (go_at_call 10; go_must (refine hsh.mono ?_; rintro e w1 ⟨rfl, rfl⟩))
      | (go_at_call 11; go_must (refine (awake_any _).mono ?_; rintro e w1 ⟨rfl, hb1⟩)))
    go_ret
    exact ⟨rfl, hb1⟩

set_option maxRecDepth 100000 in
set_option maxHeartbeats 2000000 in
theorem errors_short (A : Option Addr) (n c : Nat) (l : List ActD) (at_ : Int) (data : ByteArray) (w : World) (h : IsActs w A n l) (hs : shortB l = true) (hd : data.size ≤ 300) :
    Calls Try.prog 9 #[.slice A n c, .int .i64 at_, .string data] w fun e w' => e = .returned (.bool true) ∧ Below w.heap.size w w' := by
  have hsh := short_any A n c l w h
  rw [hs] at hsh
  obtain ⟨D, hok, hln, hsec, -, hpl⟩ := played6 A n c l w h hs
  have HOK := Lib.hid hok
  have HSEC := Lib.hid hsec
  obtain ⟨dn, hdn⟩ : ∃ dn, D.down = dn := ⟨_, rfl⟩
  obtain ⟨lf, hlf⟩ : ∃ lf, D.left = lf := ⟨_, rfl⟩
  rw [hdn, hlf] at hpl
  have HDN := Lib.hid hdn
  have HLF := Lib.hid hlf
  clear hs hok hsec h hdn hlf
  go_enter Try.func9, Try.ntmps9
  go_wp2_with fail
  refine hsh.mono ?_
  rintro e w0 ⟨rfl, rfl⟩
  go_wp2_with fail
  refine hpl.mono ?_
  rintro e w1 ⟨A1, c1, B1, d1, rfl, v1, b1⟩
  clear hsh hpl
  have hbA : Below w1.heap.size w1 (w1.alloc (.cells #[.slice A1 6 c1, .slice B1 D.loose.length d1, .bool dn, .int .i64 lf] 28)) := (Below.refl _ _).alloc (Nat.le_refl _) _
  have t1 := bnext b1 hbA
  go_wp2_with fail
  refine (put_any _ D _ _ _ (v1.below hbA) HOK.out (by omega)).mono ?_
  rintro e w2 ⟨v', rfl, v2, b2⟩
  obtain ⟨er, her⟩ : ∃ er, (putD D at_ data).2 = er := ⟨_, rfl⟩
  have HER := Lib.hid her
  rw [her]
  clear her
  obtain ⟨D2, hD2⟩ : ∃ D2, (putD D at_ data).1 = D2 := ⟨_, rfl⟩
  rw [hD2] at v2
  have HD2 := Lib.hid hD2
  clear hD2
  obtain ⟨A2, c2, B2, d2, rfl⟩ := v2.cells
  have k2 := (Bk.new w1 28 #[.slice A1 6 c1, .slice B1 D.loose.length d1, .bool dn, .int .i64 lf]).below b2
  have v2d := (v1.below hbA).below b2
  have t2 := bnext t1 b2
  have hl2 := k2.lt
  clear b1 b2 hbA v1 t1
  by_cases he : er = 0
  · subst he
    obtain ⟨p1, p2, p3, p4, p5⟩ := put_done D at_ data HER.out
    rw [HSEC.out] at p2
    obtain rfl : dn = false := HDN.out ▸ p4
    have p6 : (lf != 0) = true := by rw [← HLF.out]; simp [p5]
    clear p4 p5
    have hbB : Below w2.heap.size w2 (w2.alloc (.cells #[.slice A2 D2.sec.length c2, .slice B2 D2.loose.length d2, .bool D2.down, .int .i64 D2.left] 28)) := (Below.refl _ _).alloc (Nat.le_refl _) _
    go_wp2_with fail
    refine (awake_any _).mono ?_
    rintro e w5 ⟨rfl, b5⟩
    obtain ⟨z0, z1, z2, z3, zf⟩ := ((k2.below hbB).below b5).four
    go_wp2
    go_ret
    exact ⟨by simp, bnext (bnext t2 hbB) b5⟩
  · have hee : (er == 0) = false := by simp [he]
    have href := put_refused D at_ data (by rw [HER.out]; exact he)
    rw [HD2.out, HDN.out] at href
    have HREF := Lib.hid href
    clear he href
    have hbB : Below w2.heap.size w2 (w2.alloc (.cells #[.slice A2 D2.sec.length c2, .slice B2 D2.loose.length d2, .bool dn, .int .i64 D2.left] 28)) := (Below.refl _ _).alloc (Nat.le_refl _) _
    have k3 := Bk.new w2 28 #[.slice A2 D2.sec.length c2, .slice B2 D2.loose.length d2, .bool dn, .int .i64 D2.left]
    have k3d := k2.below hbB
    have v3 := (v2.left dn D2.left).below hbB
    have v3d := v2d.below hbB
    have t3 := bnext t2 hbB
    obtain ⟨z0, z1, z2, z3, zf⟩ := k2.four
    clear v2 v2d t2
    go_wp2_with fail
    refine (awake_any _).mono ?_
    rintro e w5 ⟨rfl, b5⟩
    obtain ⟨x0, x1, x2, x3, xf⟩ := (k3.below b5).four
    obtain ⟨y0, y1, y2, y3, yf⟩ := (k3d.below b5).four
    clear z0 z1 z2 z3 zf
    go_wp2_with fail
    have v3e : IsDk _ (.agg #[.slice A2 D2.sec.length c2, .slice B2 D2.loose.length d2, .bool dn, .int .i64 D2.left]) D := HREF.out ▸ v3
    refine (same_any _ _ D _ (v3e.below b5) (v3d.below b5) HOK.out (by omega)).mono ?_
    rintro e w6 ⟨rfl, b6⟩
    go_wp2
    go_ret
    exact ⟨rfl, bnext (bnext t3 b5) b6⟩

end Go.Proofs.Ythcfncpkeldapaa
