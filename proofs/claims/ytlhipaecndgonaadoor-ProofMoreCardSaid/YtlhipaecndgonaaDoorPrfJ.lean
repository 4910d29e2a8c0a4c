/-
  awake of layer 7's laws: true, in whatever memory that has the kinds' table.
-/
import Derived.Test.YtlhipaecndgonaaDoorPrfI
import Derived.Test.YtlhipaecndgonaaDoorInsN
import Derived.Test.YtlhipaecndgonaaDoorInsA
namespace Go.Proofs.YtlhipaecndgonaaDoor
open Go.RowKit

abbrev OI (a b c : Int) : Obj := .cells #[.int .i64 a, .int .i64 b, .int .i64 c] 35

/-- the examples' instructions in their blocks. -/
structure Aw (h : Nat) (w : World) : Prop where
  push : Bk w h 35 #[.int .i64 1, .int .i64 0, .int .i64 0]
  fin : Bk w (h + 1) 35 #[.int .i64 17, .int .i64 0, .int .i64 0]
  add : Bk w (h + 1 + 1) 35 #[.int .i64 7, .int .i64 0, .int .i64 0]

theorem Aw.below {h : Nat} {w w' : World} (a : Aw h w) (hb : Below w.heap.size w w') : Aw h w' := ⟨a.push.below hb, a.fin.below hb, a.add.below hb⟩

theorem aw_new (w : World) : Aw w.heap.size (((w.alloc (OI 1 0 0)).alloc (OI 17 0 0)).alloc (OI 7 0 0)) := by
  refine ⟨((Bk.new w _ _).alloc _).alloc _, ?_, ?_⟩
  · have := (Bk.new (w.alloc (OI 1 0 0)) 35 #[.int .i64 17, .int .i64 0, .int .i64 0]).alloc (OI 7 0 0)
    rwa [World.size_alloc] at this
  · have := Bk.new ((w.alloc (OI 1 0 0)).alloc (OI 17 0 0)) 35 #[.int .i64 7, .int .i64 0, .int .i64 0]
    rwa [World.size_alloc, World.size_alloc] at this

theorem below_alloc1 (w : World) (o : Obj) : Below w.heap.size w (w.alloc o) := (Below.refl _ _).alloc (Nat.le_refl _) _

/-- of, of a list that lies in a new block. -/
theorem of_new (l : List Ins) (n : Nat) (hl : l.length = n) (hn : n ≤ 1000) (cs : Array Value) (hc : (inssW l).toArray = cs) (W : World) (q : Nat) (hq : W.heap.size = q) :
    Calls Tryd.prog 16 #[.slice (some ⟨q, 0, none⟩) n n] (W.alloc (.cells cs 35)) fun e w' => ∃ r1 r2 r3, e = .returned (cmV (some ⟨r1, 0, none⟩) 1 1 (some ⟨r2, 0, none⟩) 1 1 (some ⟨r3, 0, none⟩) 1 1 9 (some ⟨q, 0, none⟩) n n) ∧ CmIn w' ⟨[1], [2], [5], 9, l⟩ (some ⟨r1, 0, none⟩) 1 1 (some ⟨r2, 0, none⟩) 1 1 (some ⟨r3, 0, none⟩) 1 1 (some ⟨q, 0, none⟩) n n ∧ Below W.heap.size W w' := by
  subst hl
  subst hc
  subst hq
  refine (of_any l _ l.length l.length _ (inss_new l W) rfl hn).mono fun e w' ⟨r1, r2, r3, he, hC, hb⟩ => ⟨r1, r2, r3, he, hC, bnext (below_alloc1 _ _) hb⟩

/-- Check of such a command. -/
theorem chk_new (f : Int) (rs ws : List Int) (l : List Ins) (z : Nat) (hz : checkN ⟨rs, ws, [5], f, l⟩ = z) (W : World) (ra : Option Addr) (nr rc : Nat) (wa : Option Addr) (nw wc : Nat) (aa : Option Addr) (na ac : Nat) (ca : Option Addr) (nc cc : Nat)
    (h : CmIn W ⟨rs, ws, [5], f, l⟩ ra nr rc wa nw wc aa na ac ca nc cc) (hT : HasKinds W) :
    Calls Tryd.prog 8 #[cmV ra nr rc wa nw wc aa na ac f ca nc cc] W fun e w' => e = .returned (.int .i64 (z : Nat)) ∧ Below W.heap.size W w' := by
  subst hz
  exact check_any ⟨rs, ws, [5], f, l⟩ ra nr rc wa nw wc aa na ac ca nc cc W h hT

/-- twice: a command whose Writes are another list. -/
abbrev twW (r1 r3 q : Nat) (w2 : World) : World := (w2.alloc (.cells #[.slice (some ⟨r1, 0, none⟩) 1 1, .slice (some ⟨w2.heap.size + 1, 0, none⟩) 1 1, .slice (some ⟨r3, 0, none⟩) 1 1, .int .i64 9, .slice (some ⟨q, 0, none⟩) 1 1] 25)).alloc (.cells #[.int .i64 1] 3)

theorem tw_in (r1 r2 r3 q : Nat) (l : List Ins) (w2 : World) (C : CmIn w2 ⟨[1], [2], [5], 9, l⟩ (some ⟨r1, 0, none⟩) 1 1 (some ⟨r2, 0, none⟩) 1 1 (some ⟨r3, 0, none⟩) 1 1 (some ⟨q, 0, none⟩) 1 1) :
    CmIn (twW r1 r3 q w2) ⟨[1], [1], [5], 9, l⟩ (some ⟨r1, 0, none⟩) 1 1 (some ⟨w2.heap.size + 1, 0, none⟩) 1 1 (some ⟨r3, 0, none⟩) 1 1 (some ⟨q, 0, none⟩) 1 1 ∧
    Bk (twW r1 r3 q w2) w2.heap.size 25 #[.slice (some ⟨r1, 0, none⟩) 1 1, .slice (some ⟨w2.heap.size + 1, 0, none⟩) 1 1, .slice (some ⟨r3, 0, none⟩) 1 1, .int .i64 9, .slice (some ⟨q, 0, none⟩) 1 1] ∧ Below w2.heap.size w2 (twW r1 r3 q w2) := by
  have b : Below w2.heap.size w2 (twW r1 r3 q w2) := bnext (below_alloc1 _ _) (below_alloc1 _ _)
  have a := ints_new [1] (w2.alloc (.cells #[.slice (some ⟨r1, 0, none⟩) 1 1, .slice (some ⟨w2.heap.size + 1, 0, none⟩) 1 1, .slice (some ⟨r3, 0, none⟩) 1 1, .int .i64 9, .slice (some ⟨q, 0, none⟩) 1 1] 25))
  rw [World.size_alloc] at a
  have C' := C.below b
  exact ⟨⟨rfl, rfl, rfl, C'.lc, C'.reads, a, C'.args, C'.code, by omega, by omega, by omega, by omega⟩, (Bk.new w2 _ _).alloc _, b⟩

/-- none: a command without fuel. -/
abbrev noW (r1 r2 r3 q : Nat) (w3 : World) : World := w3.alloc (.cells #[.slice (some ⟨r1, 0, none⟩) 1 1, .slice (some ⟨r2, 0, none⟩) 1 1, .slice (some ⟨r3, 0, none⟩) 1 1, .int .i64 0, .slice (some ⟨q, 0, none⟩) 1 1] 25)

theorem no_in (r1 r2 r3 q : Nat) (l : List Ins) (w3 : World) (C : CmIn w3 ⟨[1], [2], [5], 9, l⟩ (some ⟨r1, 0, none⟩) 1 1 (some ⟨r2, 0, none⟩) 1 1 (some ⟨r3, 0, none⟩) 1 1 (some ⟨q, 0, none⟩) 1 1) :
    CmIn (noW r1 r2 r3 q w3) ⟨[1], [2], [5], 0, l⟩ (some ⟨r1, 0, none⟩) 1 1 (some ⟨r2, 0, none⟩) 1 1 (some ⟨r3, 0, none⟩) 1 1 (some ⟨q, 0, none⟩) 1 1 ∧
    Bk (noW r1 r2 r3 q w3) w3.heap.size 25 #[.slice (some ⟨r1, 0, none⟩) 1 1, .slice (some ⟨r2, 0, none⟩) 1 1, .slice (some ⟨r3, 0, none⟩) 1 1, .int .i64 0, .slice (some ⟨q, 0, none⟩) 1 1] ∧ Below w3.heap.size w3 (noW r1 r2 r3 q w3) := by
  have b : Below w3.heap.size w3 (noW r1 r2 r3 q w3) := below_alloc1 _ _
  have C' := C.below b
  exact ⟨⟨rfl, rfl, rfl, C'.lc, C'.reads, C'.writes, C'.args, C'.code, by omega, by omega, by omega, by omega⟩, Bk.new w3 _ _, b⟩

theorem tw_size (r1 r3 q : Nat) (w : World) : (twW r1 r3 q w).heap.size = w.heap.size + 1 + 1 := by rw [World.size_alloc, World.size_alloc]
theorem no_size (r1 r2 r3 q : Nat) (w : World) : (noW r1 r2 r3 q w).heap.size = w.heap.size + 1 := by rw [World.size_alloc]

def aw0 : List Ins := [⟨1, 0, 0⟩, ⟨13, 1, 0⟩, ⟨17, 0, 0⟩, ⟨17, 0, 0⟩]
theorem aw0_depths : depthsN aw0 = .ok [0, 1, 0, 0] := by kernel_rfl

theorem aw_ex0 : checkN ⟨[1], [2], [5], 9, [⟨1, 0, 0⟩, ⟨1, 0, 0⟩, ⟨7, 0, 0⟩, ⟨17, 0, 0⟩]⟩ = 0 := by kernel_rfl
theorem aw_ex1 : checkN ⟨[1], [2], [5], 9, [⟨1, 0, 0⟩, ⟨7, 0, 0⟩, ⟨17, 0, 0⟩]⟩ = 7 := by kernel_rfl
theorem aw_ex2 : checkN ⟨[1], [2], [5], 9, [⟨1, 0, 0⟩]⟩ = 6 := by kernel_rfl
theorem aw_ex3 : checkN ⟨[1], [2], [5], 9, [⟨14, 1, 0⟩, ⟨17, 0, 0⟩]⟩ = 6 := by kernel_rfl
theorem aw_ex4 : checkN ⟨[1], [2], [5], 9, [⟨1, 0, 0⟩, ⟨5, 0, 0⟩, ⟨17, 0, 0⟩]⟩ = 5 := by kernel_rfl
theorem aw_ex5 : checkN ⟨[1], [2], [5], 9, [⟨1, 0, 0⟩, ⟨5, 1, 0⟩, ⟨17, 0, 0⟩]⟩ = 0 := by kernel_rfl
theorem aw_two : checkN ⟨[1], [1], [5], 9, [⟨17, 0, 0⟩]⟩ = 8 := by kernel_rfl
theorem aw_no : checkN ⟨[1], [2], [5], 0, [⟨17, 0, 0⟩]⟩ = 4 := by kernel_rfl
theorem aw_nil : checkN ⟨[1], [2], [5], 9, []⟩ = 4 := by kernel_rfl

set_option maxRecDepth 100000 in
set_option maxHeartbeats 8000000 in
theorem awake7 (w : World) (hT : HasKinds w) : Calls Tryd.prog 9 #[] w fun e w' => e = .returned (.bool true) ∧ Below w.heap.size w w' := by
  have hd := Lib.hid (depths_any aw0 (some ⟨w.heap.size + 1 + 1 + 1, 0, none⟩) 4 4 ((((w.alloc (OI 1 0 0)).alloc (OI 17 0 0)).alloc (OI 7 0 0)).alloc (.cells #[.int .i64 1, .int .i64 0, .int .i64 0, .int .i64 13, .int .i64 1, .int .i64 0, .int .i64 17, .int .i64 0, .int .i64 0, .int .i64 17, .int .i64 0, .int .i64 0] 35)) (by
    have := inss_new aw0 (((w.alloc (OI 1 0 0)).alloc (OI 17 0 0)).alloc (OI 7 0 0))
    rw [World.size_alloc, World.size_alloc, World.size_alloc] at this
    exact this) rfl (by decide) (by decide))
  rw [aw0_depths] at hd
  have hd' : Hid (Calls Tryd.prog 10 #[.slice (some ⟨w.heap.size + 1 + 1 + 1, 0, none⟩) 4 4] ((((w.alloc (OI 1 0 0)).alloc (OI 17 0 0)).alloc (OI 7 0 0)).alloc (.cells #[.int .i64 1, .int .i64 0, .int .i64 0, .int .i64 13, .int .i64 1, .int .i64 0, .int .i64 17, .int .i64 0, .int .i64 0, .int .i64 17, .int .i64 0, .int .i64 0] 35)) fun e w' => ∃ g, ((((w.alloc (OI 1 0 0)).alloc (OI 17 0 0)).alloc (OI 7 0 0)).alloc (.cells #[.int .i64 1, .int .i64 0, .int .i64 0, .int .i64 13, .int .i64 1, .int .i64 0, .int .i64 17, .int .i64 0, .int .i64 0, .int .i64 17, .int .i64 0, .int .i64 0] 35)).heap.size ≤ g ∧ e = .returned (.tuple #[.slice (some ⟨g, 0, none⟩) 4 4, .int .i64 0]) ∧ Bk w' g 3 (dV [0, 1, 0, 0]) ∧ Below ((((w.alloc (OI 1 0 0)).alloc (OI 17 0 0)).alloc (OI 7 0 0)).alloc (.cells #[.int .i64 1, .int .i64 0, .int .i64 0, .int .i64 13, .int .i64 1, .int .i64 0, .int .i64 17, .int .i64 0, .int .i64 0, .int .i64 17, .int .i64 0, .int .i64 0] 35)).heap.size ((((w.alloc (OI 1 0 0)).alloc (OI 17 0 0)).alloc (OI 7 0 0)).alloc (.cells #[.int .i64 1, .int .i64 0, .int .i64 0, .int .i64 13, .int .i64 1, .int .i64 0, .int .i64 17, .int .i64 0, .int .i64 0, .int .i64 17, .int .i64 0, .int .i64 0] 35)) w') := hd
  clear hd
  have oE := Lib.hid (fun W q hq => of_new [⟨17, 0, 0⟩] 1 rfl (by decide) #[.int .i64 17, .int .i64 0, .int .i64 0] rfl W q hq)
  have o0 := Lib.hid (fun W q hq => of_new [⟨1, 0, 0⟩, ⟨1, 0, 0⟩, ⟨7, 0, 0⟩, ⟨17, 0, 0⟩] 4 rfl (by decide) #[.int .i64 1, .int .i64 0, .int .i64 0, .int .i64 1, .int .i64 0, .int .i64 0, .int .i64 7, .int .i64 0, .int .i64 0, .int .i64 17, .int .i64 0, .int .i64 0] rfl W q hq)
  have k0 := Lib.hid (fun W r1 r2 r3 q h hW => chk_new 9 [1] [2] [⟨1, 0, 0⟩, ⟨1, 0, 0⟩, ⟨7, 0, 0⟩, ⟨17, 0, 0⟩] 0 aw_ex0 W (some ⟨r1, 0, none⟩) 1 1 (some ⟨r2, 0, none⟩) 1 1 (some ⟨r3, 0, none⟩) 1 1 (some ⟨q, 0, none⟩) 4 4 h hW)
  have o1 := Lib.hid (fun W q hq => of_new [⟨1, 0, 0⟩, ⟨7, 0, 0⟩, ⟨17, 0, 0⟩] 3 rfl (by decide) #[.int .i64 1, .int .i64 0, .int .i64 0, .int .i64 7, .int .i64 0, .int .i64 0, .int .i64 17, .int .i64 0, .int .i64 0] rfl W q hq)
  have k1 := Lib.hid (fun W r1 r2 r3 q h hW => chk_new 9 [1] [2] [⟨1, 0, 0⟩, ⟨7, 0, 0⟩, ⟨17, 0, 0⟩] 7 aw_ex1 W (some ⟨r1, 0, none⟩) 1 1 (some ⟨r2, 0, none⟩) 1 1 (some ⟨r3, 0, none⟩) 1 1 (some ⟨q, 0, none⟩) 3 3 h hW)
  have o2 := Lib.hid (fun W q hq => of_new [⟨1, 0, 0⟩] 1 rfl (by decide) #[.int .i64 1, .int .i64 0, .int .i64 0] rfl W q hq)
  have k2 := Lib.hid (fun W r1 r2 r3 q h hW => chk_new 9 [1] [2] [⟨1, 0, 0⟩] 6 aw_ex2 W (some ⟨r1, 0, none⟩) 1 1 (some ⟨r2, 0, none⟩) 1 1 (some ⟨r3, 0, none⟩) 1 1 (some ⟨q, 0, none⟩) 1 1 h hW)
  have o3 := Lib.hid (fun W q hq => of_new [⟨14, 1, 0⟩, ⟨17, 0, 0⟩] 2 rfl (by decide) #[.int .i64 14, .int .i64 1, .int .i64 0, .int .i64 17, .int .i64 0, .int .i64 0] rfl W q hq)
  have k3 := Lib.hid (fun W r1 r2 r3 q h hW => chk_new 9 [1] [2] [⟨14, 1, 0⟩, ⟨17, 0, 0⟩] 6 aw_ex3 W (some ⟨r1, 0, none⟩) 1 1 (some ⟨r2, 0, none⟩) 1 1 (some ⟨r3, 0, none⟩) 1 1 (some ⟨q, 0, none⟩) 2 2 h hW)
  have o4 := Lib.hid (fun W q hq => of_new [⟨1, 0, 0⟩, ⟨5, 0, 0⟩, ⟨17, 0, 0⟩] 3 rfl (by decide) #[.int .i64 1, .int .i64 0, .int .i64 0, .int .i64 5, .int .i64 0, .int .i64 0, .int .i64 17, .int .i64 0, .int .i64 0] rfl W q hq)
  have k4 := Lib.hid (fun W r1 r2 r3 q h hW => chk_new 9 [1] [2] [⟨1, 0, 0⟩, ⟨5, 0, 0⟩, ⟨17, 0, 0⟩] 5 aw_ex4 W (some ⟨r1, 0, none⟩) 1 1 (some ⟨r2, 0, none⟩) 1 1 (some ⟨r3, 0, none⟩) 1 1 (some ⟨q, 0, none⟩) 3 3 h hW)
  have o5 := Lib.hid (fun W q hq => of_new [⟨1, 0, 0⟩, ⟨5, 1, 0⟩, ⟨17, 0, 0⟩] 3 rfl (by decide) #[.int .i64 1, .int .i64 0, .int .i64 0, .int .i64 5, .int .i64 1, .int .i64 0, .int .i64 17, .int .i64 0, .int .i64 0] rfl W q hq)
  have k5 := Lib.hid (fun W r1 r2 r3 q h hW => chk_new 9 [1] [2] [⟨1, 0, 0⟩, ⟨5, 1, 0⟩, ⟨17, 0, 0⟩] 0 aw_ex5 W (some ⟨r1, 0, none⟩) 1 1 (some ⟨r2, 0, none⟩) 1 1 (some ⟨r3, 0, none⟩) 1 1 (some ⟨q, 0, none⟩) 3 3 h hW)
  have kT := Lib.hid (fun W r1 r2 r3 q h hW => chk_new 9 [1] [1] [⟨17, 0, 0⟩] 8 aw_two W (some ⟨r1, 0, none⟩) 1 1 (some ⟨r2, 0, none⟩) 1 1 (some ⟨r3, 0, none⟩) 1 1 (some ⟨q, 0, none⟩) 1 1 h hW)
  have kN := Lib.hid (fun W r1 r2 r3 q h hW => chk_new 0 [1] [2] [⟨17, 0, 0⟩] 4 aw_no W (some ⟨r1, 0, none⟩) 1 1 (some ⟨r2, 0, none⟩) 1 1 (some ⟨r3, 0, none⟩) 1 1 (some ⟨q, 0, none⟩) 1 1 h hW)
  have oZ := Lib.hid (fun W => of_any [] none 0 0 W (Inss.nil W) rfl (by decide))
  have kZ := Lib.hid (fun W r1 r2 r3 h hW => chk_new 9 [1] [2] [] 4 aw_nil W (some ⟨r1, 0, none⟩) 1 1 (some ⟨r2, 0, none⟩) 1 1 (some ⟨r3, 0, none⟩) 1 1 none 0 0 h hW)
  have hT' := Lib.hid hT
  have A0 := Lib.hid (aw_new w)
  have B0 : Hid (Below w.heap.size w ((((w.alloc (OI 1 0 0)).alloc (OI 17 0 0)).alloc (OI 7 0 0)).alloc (.cells #[.int .i64 1, .int .i64 0, .int .i64 0, .int .i64 13, .int .i64 1, .int .i64 0, .int .i64 17, .int .i64 0, .int .i64 0, .int .i64 17, .int .i64 0, .int .i64 0] 35))) := Lib.hid (bnext (bnext (bnext (below_alloc1 _ _) (below_alloc1 _ _)) (below_alloc1 _ _)) (below_alloc1 _ _))
  clear hT
  have mE : True := trivial
  have mF : True := trivial
  have n0 : True := trivial
  have n1 : True := trivial
  have n2 : True := trivial
  have n3 : True := trivial
  have n4 : True := trivial
  have n5 : True := trivial
  have c0 : True := trivial
  have c1 : True := trivial
  have c2 : True := trivial
  have c3 : True := trivial
  have c4 : True := trivial
  have c5 : True := trivial
  have cT : True := trivial
  have cN : True := trivial
  go_enter Tryd.func9, Tryd.ntmps9
  go_wp2_with (first
    | (go_at_call 10; go_must ((with_reducible refine hd'.out.mono ?_); rintro e w1 ⟨g, -, rfl, hg1, hb1⟩; have B1 := Lib.hid (bnext B0.out hb1); have A1 := Lib.hid ((A0.out.below (below_alloc1 _ _)).below hb1); have G1 := Lib.hid hg1; obtain ⟨p0, p1, p2, pf⟩ := Bk.three A1.out.push; obtain ⟨e0, e1, e2, ef⟩ := Bk.three A1.out.fin; obtain ⟨a0, a1, a2, af⟩ := Bk.three A1.out.add; have pl := A1.out.push.lt; have el := A1.out.fin.lt; have al := A1.out.add.lt; clear hg1 hb1 hd'))
    | (go_at_call 16; clear mE; go_must ((with_reducible refine (oE.out w1 _ rfl).mono ?_); rintro e w2 ⟨r1, r2, r3, rfl, C2, hb2⟩; have b2 := bnext hb2 (tw_in r1 r2 r3 _ _ w2 C2).2.2; have B2 := Lib.hid (bnext B1.out b2); have A2 := Lib.hid (A1.out.below b2); have G2 := Lib.hid (G1.out.below b2); have T2 := Lib.hid (tw_in r1 r2 r3 _ _ w2 C2); clear p0 p1 p2 pf e0 e1 e2 ef a0 a1 a2 af; obtain ⟨p0, p1, p2, pf⟩ := Bk.three A2.out.push; obtain ⟨e0, e1, e2, ef⟩ := Bk.three A2.out.fin; obtain ⟨a0, a1, a2, af⟩ := Bk.three A2.out.add; have pl := A2.out.push.lt; have el := A2.out.fin.lt; have al := A2.out.add.lt; clear C2 hb2 b2))
    | (go_at_call 16; clear mF; go_must ((with_reducible refine (oE.out (twW r1 r3 w1.heap.size w2) (w2.heap.size + 1 + 1) (tw_size _ _ _ _)).mono ?_); rintro e w3 ⟨s1, s2, s3, rfl, C3, hb3⟩; have b3 := bnext hb3 (no_in s1 s2 s3 _ _ w3 C3).2.2; have B3 := Lib.hid (bnext B2.out b3); have A3 := Lib.hid (A2.out.below b3); have G3 := Lib.hid (G2.out.below b3); have TI := Lib.hid (T2.out.1.below b3); have TB := Lib.hid (T2.out.2.1.below b3); have NI := Lib.hid (no_in s1 s2 s3 _ _ w3 C3).1; have NB := Lib.hid (no_in s1 s2 s3 _ _ w3 C3).2.1; have y1 := bk_dV G3.out (i := 1) (by decide); have y3 := bk_dV G3.out (i := 3) (by decide); have gl := G3.out.lt; simp only [dAt, List.getElem?_cons_succ, List.getElem?_cons_zero, Option.getD_some] at y1 y3; clear p0 p1 p2 pf e0 e1 e2 ef a0 a1 a2 af; obtain ⟨p0, p1, p2, pf⟩ := Bk.three A3.out.push; obtain ⟨e0, e1, e2, ef⟩ := Bk.three A3.out.fin; obtain ⟨a0, a1, a2, af⟩ := Bk.three A3.out.add; have pl := A3.out.push.lt; have el := A3.out.fin.lt; have al := A3.out.add.lt; clear C3 hb3 b3))
    | (go_at_call 16; clear n0; go_must ((with_reducible refine (o0.out (noW s1 s2 s3 (w2.heap.size + 1 + 1) w3) (w3.heap.size + 1) (no_size _ _ _ _ _)).mono ?_); rintro e w4 ⟨t1, t2, t3, rfl, C4, hb4⟩; have D4 := Lib.hid C4; have B4 := Lib.hid (bnext B3.out hb4); have A4 := Lib.hid (A3.out.below hb4); have TI := Lib.hid (TI.out.below hb4); have TB := Lib.hid (TB.out.below hb4); have NI := Lib.hid (NI.out.below hb4); have NB := Lib.hid (NB.out.below hb4); clear p0 p1 p2 pf e0 e1 e2 ef a0 a1 a2 af; clear C4 hb4))
    | (go_at_call 8; clear c0; go_must ((with_reducible refine (k0.out w4 _ _ _ _ D4.out (hT'.out.belowS B4.out)).mono ?_); rintro e w5 ⟨rfl, hb5⟩; have B5 := Lib.hid (bnext B4.out hb5); have A5 := Lib.hid (A4.out.below hb5); have TI := Lib.hid (TI.out.below hb5); have TB := Lib.hid (TB.out.below hb5); have NI := Lib.hid (NI.out.below hb5); have NB := Lib.hid (NB.out.below hb5); obtain ⟨p0, p1, p2, pf⟩ := Bk.three A5.out.push; obtain ⟨e0, e1, e2, ef⟩ := Bk.three A5.out.fin; obtain ⟨a0, a1, a2, af⟩ := Bk.three A5.out.add; have pl := A5.out.push.lt; have el := A5.out.fin.lt; have al := A5.out.add.lt; clear hb5))
    | (go_at_call 16; clear n1; go_must ((with_reducible refine (o1.out w5 _ rfl).mono ?_); rintro e w6 ⟨t1, t2, t3, rfl, C6, hb6⟩; have D6 := Lib.hid C6; have B6 := Lib.hid (bnext B5.out hb6); have A6 := Lib.hid (A5.out.below hb6); have TI := Lib.hid (TI.out.below hb6); have TB := Lib.hid (TB.out.below hb6); have NI := Lib.hid (NI.out.below hb6); have NB := Lib.hid (NB.out.below hb6); clear p0 p1 p2 pf e0 e1 e2 ef a0 a1 a2 af; clear C6 hb6))
    | (go_at_call 8; clear c1; go_must ((with_reducible refine (k1.out w6 _ _ _ _ D6.out (hT'.out.belowS B6.out)).mono ?_); rintro e w7 ⟨rfl, hb7⟩; have B7 := Lib.hid (bnext B6.out hb7); have A7 := Lib.hid (A6.out.below hb7); have TI := Lib.hid (TI.out.below hb7); have TB := Lib.hid (TB.out.below hb7); have NI := Lib.hid (NI.out.below hb7); have NB := Lib.hid (NB.out.below hb7); obtain ⟨p0, p1, p2, pf⟩ := Bk.three A7.out.push; obtain ⟨e0, e1, e2, ef⟩ := Bk.three A7.out.fin; obtain ⟨a0, a1, a2, af⟩ := Bk.three A7.out.add; have pl := A7.out.push.lt; have el := A7.out.fin.lt; have al := A7.out.add.lt; clear hb7))
    | (go_at_call 16; clear n2; go_must ((with_reducible refine (o2.out w7 _ rfl).mono ?_); rintro e w8 ⟨t1, t2, t3, rfl, C8, hb8⟩; have D8 := Lib.hid C8; have B8 := Lib.hid (bnext B7.out hb8); have A8 := Lib.hid (A7.out.below hb8); have TI := Lib.hid (TI.out.below hb8); have TB := Lib.hid (TB.out.below hb8); have NI := Lib.hid (NI.out.below hb8); have NB := Lib.hid (NB.out.below hb8); clear p0 p1 p2 pf e0 e1 e2 ef a0 a1 a2 af; clear C8 hb8))
    | (go_at_call 8; clear c2; go_must ((with_reducible refine (k2.out w8 _ _ _ _ D8.out (hT'.out.belowS B8.out)).mono ?_); rintro e w9 ⟨rfl, hb9⟩; have B9 := Lib.hid (bnext B8.out hb9); have A9 := Lib.hid (A8.out.below hb9); have TI := Lib.hid (TI.out.below hb9); have TB := Lib.hid (TB.out.below hb9); have NI := Lib.hid (NI.out.below hb9); have NB := Lib.hid (NB.out.below hb9); obtain ⟨p0, p1, p2, pf⟩ := Bk.three A9.out.push; obtain ⟨e0, e1, e2, ef⟩ := Bk.three A9.out.fin; obtain ⟨a0, a1, a2, af⟩ := Bk.three A9.out.add; have pl := A9.out.push.lt; have el := A9.out.fin.lt; have al := A9.out.add.lt; clear hb9))
    | (go_at_call 16; clear n3; go_must ((with_reducible refine (o3.out w9 _ rfl).mono ?_); rintro e w10 ⟨t1, t2, t3, rfl, C10, hb10⟩; have D10 := Lib.hid C10; have B10 := Lib.hid (bnext B9.out hb10); have A10 := Lib.hid (A9.out.below hb10); have TI := Lib.hid (TI.out.below hb10); have TB := Lib.hid (TB.out.below hb10); have NI := Lib.hid (NI.out.below hb10); have NB := Lib.hid (NB.out.below hb10); clear p0 p1 p2 pf e0 e1 e2 ef a0 a1 a2 af; clear C10 hb10))
    | (go_at_call 8; clear c3; go_must ((with_reducible refine (k3.out w10 _ _ _ _ D10.out (hT'.out.belowS B10.out)).mono ?_); rintro e w11 ⟨rfl, hb11⟩; have B11 := Lib.hid (bnext B10.out hb11); have A11 := Lib.hid (A10.out.below hb11); have TI := Lib.hid (TI.out.below hb11); have TB := Lib.hid (TB.out.below hb11); have NI := Lib.hid (NI.out.below hb11); have NB := Lib.hid (NB.out.below hb11); obtain ⟨p0, p1, p2, pf⟩ := Bk.three A11.out.push; obtain ⟨e0, e1, e2, ef⟩ := Bk.three A11.out.fin; obtain ⟨a0, a1, a2, af⟩ := Bk.three A11.out.add; have pl := A11.out.push.lt; have el := A11.out.fin.lt; have al := A11.out.add.lt; clear hb11))
    | (go_at_call 16; clear n4; go_must ((with_reducible refine (o4.out w11 _ rfl).mono ?_); rintro e w12 ⟨t1, t2, t3, rfl, C12, hb12⟩; have D12 := Lib.hid C12; have B12 := Lib.hid (bnext B11.out hb12); have A12 := Lib.hid (A11.out.below hb12); have TI := Lib.hid (TI.out.below hb12); have TB := Lib.hid (TB.out.below hb12); have NI := Lib.hid (NI.out.below hb12); have NB := Lib.hid (NB.out.below hb12); clear p0 p1 p2 pf e0 e1 e2 ef a0 a1 a2 af; clear C12 hb12))
    | (go_at_call 8; clear c4; go_must ((with_reducible refine (k4.out w12 _ _ _ _ D12.out (hT'.out.belowS B12.out)).mono ?_); rintro e w13 ⟨rfl, hb13⟩; have B13 := Lib.hid (bnext B12.out hb13); have A13 := Lib.hid (A12.out.below hb13); have TI := Lib.hid (TI.out.below hb13); have TB := Lib.hid (TB.out.below hb13); have NI := Lib.hid (NI.out.below hb13); have NB := Lib.hid (NB.out.below hb13); obtain ⟨p0, p1, p2, pf⟩ := Bk.three A13.out.push; obtain ⟨e0, e1, e2, ef⟩ := Bk.three A13.out.fin; obtain ⟨a0, a1, a2, af⟩ := Bk.three A13.out.add; have pl := A13.out.push.lt; have el := A13.out.fin.lt; have al := A13.out.add.lt; clear hb13))
    | (go_at_call 16; clear n5; go_must ((with_reducible refine (o5.out w13 _ rfl).mono ?_); rintro e w14 ⟨t1, t2, t3, rfl, C14, hb14⟩; have D14 := Lib.hid C14; have B14 := Lib.hid (bnext B13.out hb14); have A14 := Lib.hid (A13.out.below hb14); have TI := Lib.hid (TI.out.below hb14); have TB := Lib.hid (TB.out.below hb14); have NI := Lib.hid (NI.out.below hb14); have NB := Lib.hid (NB.out.below hb14); clear p0 p1 p2 pf e0 e1 e2 ef a0 a1 a2 af; clear C14 hb14))
    | (go_at_call 8; clear c5; go_must ((with_reducible refine (k5.out w14 _ _ _ _ D14.out (hT'.out.belowS B14.out)).mono ?_); rintro e w15 ⟨rfl, hb15⟩; have B15 := Lib.hid (bnext B14.out hb15); have A15 := Lib.hid (A14.out.below hb15); have TI := Lib.hid (TI.out.below hb15); have TB := Lib.hid (TB.out.below hb15); have NI := Lib.hid (NI.out.below hb15); have NB := Lib.hid (NB.out.below hb15); obtain ⟨x0, x1, x2, x3, x4, -⟩ := TB.out.cmd; have xl := TB.out.lt; obtain ⟨p0, p1, p2, pf⟩ := Bk.three A15.out.push; obtain ⟨e0, e1, e2, ef⟩ := Bk.three A15.out.fin; obtain ⟨a0, a1, a2, af⟩ := Bk.three A15.out.add; have pl := A15.out.push.lt; have el := A15.out.fin.lt; have al := A15.out.add.lt; clear hb15))
    | (go_at_call 8; clear cT; go_must ((with_reducible refine (kT.out w15 _ _ _ _ TI.out (hT'.out.belowS B15.out)).mono ?_); rintro e w16 ⟨rfl, hb16⟩; have B16 := Lib.hid (bnext B15.out hb16); have NI := Lib.hid (NI.out.below hb16); have NB := Lib.hid (NB.out.below hb16); obtain ⟨x0, x1, x2, x3, x4, -⟩ := NB.out.cmd; have xl := NB.out.lt; clear hb16))
    | (go_at_call 8; clear cN; go_must ((with_reducible refine (kN.out w16 _ _ _ _ NI.out (hT'.out.belowS B16.out)).mono ?_); rintro e w17 ⟨rfl, hb17⟩; have B17 := Lib.hid (bnext B16.out hb17); clear hb17))
    | (go_at_call 16; go_must ((with_reducible refine (oZ.out w17).mono ?_); rintro e w18 ⟨t1, t2, t3, rfl, C18, hb18⟩; have D18 := Lib.hid C18; have B18 := Lib.hid (bnext B17.out hb18); clear C18 hb18))
    | (go_at_call 8; go_must ((with_reducible refine (kZ.out w18 _ _ _ D18.out (hT'.out.belowS B18.out)).mono ?_); rintro e w19 ⟨rfl, hb19⟩; have B19 := Lib.hid (bnext B18.out hb19); clear hb19)))
  go_ret
  exact ⟨rfl, B19.out⟩

end Go.Proofs.YtlhipaecndgonaaDoor
