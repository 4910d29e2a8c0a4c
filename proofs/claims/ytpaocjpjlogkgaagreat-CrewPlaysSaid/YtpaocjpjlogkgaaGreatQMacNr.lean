/-
  Words and contracts of this claim, 3 texts laid into one, each under its own remark. No conditions but those that stand at each.
-/
import Derived.Test.YtpaocjpjlogkgaaGreatQWords
import Derived.Test.YtpaocjpjlogkgaaGreatQQueP
namespace Go.Proofs.YtpaocjpjlogkgaaGreat
set_option maxRecDepth 100000
set_option maxHeartbeats 32000000
open Go
open Go.Lib (hid)
section
open Go.RowKit
theorem rmnew_any (ra:Option Addr) (nr rc:Nat) (wa:Option Addr) (nw wc:Nat) (aa:Option Addr) (na ac:Nat) (fuel:Int) (ca:Option Addr) (nc cc:Nat) (w:World) :
  Calls Tryz.prog 65 #[cmV ra nr rc wa nw wc aa na ac fuel ca nc cc] w fun e w'=>e=.returned (.agg (mC 0 fuel (.slice none 0 0) 0 0 0 0 (.slice none 0 0) false 0))∧Below w.heap.size w w':=by
 have hr:Hid (Bk ((w.alloc (CmObj ra nr rc wa nw wc aa na ac fuel ca nc cc)).alloc (.cells mZ 64)) (w.heap.size + 1) 64 mZ):=hid (by
  have:=Bk.new (w.alloc (CmObj ra nr rc wa nw wc aa na ac fuel ca nc cc)) 64 mZ
  rwa [World.size_alloc] at this)
 have hB:=hid (((Below.refl w.heap.size w).alloc (Nat.le_refl _) (CmObj ra nr rc wa nw wc aa na ac fuel ca nc cc)).alloc (by rw [World.size_alloc];omega) (.cells mZ 64))
 go_enter Tryz.func65,Tryz.ntmps65
 go_wp2_with (with_reducible refine st_mach (w.heap.size + 1) hr.out rfl rfl _ _ rfl rfl rfl rfl ?_)
 exact bodyPost_ret (v:=.agg (mC 0 fuel (.slice none 0 0) 0 0 0 0 (.slice none 0 0) false 0)) (res_mach rfl _ _ (w.heap.size + 1) rfl (Bk.setRow hr.out _)) rfl ⟨rfl,below_row hB.out (by omega) _⟩
end
section
open Go.RowKit
theorem mnew_any (ra:Option Addr) (nr rc:Nat) (wa:Option Addr) (nw wc:Nat) (aa:Option Addr) (na ac:Nat) (fuel:Int) (ca:Option Addr) (nc cc:Nat) (w:World) :
  Calls Tryz.prog 57 #[cmV ra nr rc wa nw wc aa na ac fuel ca nc cc] w fun e w'=>e=.returned (.agg (mC 0 fuel (.slice none 0 0) 0 0 0 0 (.slice none 0 0) false 0))∧Below w.heap.size w w':=by
 have hr:Hid (Bk ((w.alloc (CmObj ra nr rc wa nw wc aa na ac fuel ca nc cc)).alloc (.cells mZ 64)) (w.heap.size + 1) 64 mZ):=hid (by
  have:=Bk.new (w.alloc (CmObj ra nr rc wa nw wc aa na ac fuel ca nc cc)) 64 mZ
  rwa [World.size_alloc] at this)
 have hB:=hid (((Below.refl w.heap.size w).alloc (Nat.le_refl _) (CmObj ra nr rc wa nw wc aa na ac fuel ca nc cc)).alloc (by rw [World.size_alloc];omega) (.cells mZ 64))
 go_enter Tryz.func57,Tryz.ntmps57
 go_wp2_with (with_reducible refine st_mach (w.heap.size + 1) hr.out rfl rfl _ _ rfl rfl rfl rfl ?_)
 exact bodyPost_ret (v:=.agg (mC 0 fuel (.slice none 0 0) 0 0 0 0 (.slice none 0 0) false 0)) (res_mach rfl _ _ (w.heap.size + 1) rfl (Bk.setRow hr.out _)) rfl ⟨rfl,below_row hB.out (by omega) _⟩
end
section
open Go.RowKit
abbrev mB2 (cs:Array Value) (w:World):World:=(w.alloc (.cells cs 64)).alloc (.cells mZ 64)
theorem mB2_below (cs:Array Value) (w:World):Below w.heap.size w (mB2 cs w):=((Below.refl _ _).alloc (Nat.le_refl _) _).alloc (by rw [World.size_alloc];omega) _
theorem mB2_box (cs:Array Value) (w:World):Bk (mB2 cs w) w.heap.size 64 cs:=(Bk.new w _ _).alloc _
theorem mB2_res (cs:Array Value) (w:World):Bk (mB2 cs w) (w.heap.size + 1) 64 mZ:=by
 have:=Bk.new (w.alloc (.cells cs 64)) 64 mZ
 rwa [World.size_alloc] at this
section
variable (pc fuel:Int) (sA:Option Addr) (sn sc:Nat) (r0 r1 r2 r3:Int) (oA:Option Addr) (on oc:Nat) (ov:Bool) (e0:Int)
theorem over_well (w:World):Calls Tryz.prog 79 #[.agg (mC pc fuel (.slice sA sn sc) r0 r1 r2 r3 (.slice oA on oc) ov e0),.int .i64 0] w
  fun e w'=>e=.returned (.agg (mC pc fuel (.slice sA sn sc) r0 r1 r2 r3 (.slice oA on oc) true 0))∧Below w.heap.size w w':=by
 have hb:=hid (mB2_box (mC pc fuel (.slice sA sn sc) r0 r1 r2 r3 (.slice oA on oc) true 0) w)
 have hr:=hid (mB2_res (mC pc fuel (.slice sA sn sc) r0 r1 r2 r3 (.slice oA on oc) true 0) w)
 have hB:=hid (mB2_below (mC pc fuel (.slice sA sn sc) r0 r1 r2 r3 (.slice oA on oc) true 0) w)
 go_enter Tryz.func79,Tryz.ntmps79
 go_wp2_with (first
  | (with_reducible refine ld_mach w.heap.size hb.out _ rfl rfl rfl ?_)
  | (with_reducible refine st_mach (w.heap.size + 1) hr.out rfl rfl _ _ rfl rfl rfl rfl ?_))
 exact bodyPost_ret (v:=.agg (mC pc fuel (.slice sA sn sc) r0 r1 r2 r3 (.slice oA on oc) true 0)) (res_mach rfl _ _ (w.heap.size + 1) rfl (Bk.setRow hr.out _)) rfl ⟨rfl,below_row hB.out (by omega) _⟩
theorem over_bad (told:Int) (ht:told≠0) (w:World):Calls Tryz.prog 79 #[.agg (mC pc fuel (.slice sA sn sc) r0 r1 r2 r3 (.slice oA on oc) ov e0),.int .i64 told] w
  fun e w'=>e=.returned (.agg (mC pc fuel (.slice sA sn sc) r0 r1 r2 r3 (.slice none 0 0) true told))∧Below w.heap.size w w':=by
 have hb:=hid (mB2_box (mC pc fuel (.slice sA sn sc) r0 r1 r2 r3 (.slice none 0 0) true told) w)
 have hr:=hid (mB2_res (mC pc fuel (.slice sA sn sc) r0 r1 r2 r3 (.slice none 0 0) true told) w)
 have hB:=hid (mB2_below (mC pc fuel (.slice sA sn sc) r0 r1 r2 r3 (.slice none 0 0) true told) w)
 have ht':(told != 0)=true:=by simpa using ht
 clear ht
 go_enter Tryz.func79,Tryz.ntmps79
 go_wp2_with (first
  | (with_reducible refine ld_mach w.heap.size hb.out _ rfl rfl rfl ?_)
  | (with_reducible refine st_mach (w.heap.size + 1) hr.out rfl rfl _ _ rfl rfl rfl rfl ?_))
 exact bodyPost_ret (v:=.agg (mC pc fuel (.slice sA sn sc) r0 r1 r2 r3 (.slice none 0 0) true told)) (res_mach rfl _ _ (w.heap.size + 1) rfl (Bk.setRow hr.out _)) rfl ⟨rfl,below_row hB.out (by omega) _⟩
theorem rover_well (w:World):Calls Tryz.prog 87 #[.agg (mC pc fuel (.slice sA sn sc) r0 r1 r2 r3 (.slice oA on oc) ov e0),.int .i64 0] w
  fun e w'=>e=.returned (.agg (mC pc fuel (.slice sA sn sc) r0 r1 r2 r3 (.slice oA on oc) true 0))∧Below w.heap.size w w':=by
 have hb:=hid (mB2_box (mC pc fuel (.slice sA sn sc) r0 r1 r2 r3 (.slice oA on oc) true 0) w)
 have hr:=hid (mB2_res (mC pc fuel (.slice sA sn sc) r0 r1 r2 r3 (.slice oA on oc) true 0) w)
 have hB:=hid (mB2_below (mC pc fuel (.slice sA sn sc) r0 r1 r2 r3 (.slice oA on oc) true 0) w)
 go_enter Tryz.func87,Tryz.ntmps87
 go_wp2_with (first
  | (with_reducible refine ld_mach w.heap.size hb.out _ rfl rfl rfl ?_)
  | (with_reducible refine st_mach (w.heap.size + 1) hr.out rfl rfl _ _ rfl rfl rfl rfl ?_))
 exact bodyPost_ret (v:=.agg (mC pc fuel (.slice sA sn sc) r0 r1 r2 r3 (.slice oA on oc) true 0)) (res_mach rfl _ _ (w.heap.size + 1) rfl (Bk.setRow hr.out _)) rfl ⟨rfl,below_row hB.out (by omega) _⟩
theorem rover_bad (told:Int) (ht:told≠0) (w:World):Calls Tryz.prog 87 #[.agg (mC pc fuel (.slice sA sn sc) r0 r1 r2 r3 (.slice oA on oc) ov e0),.int .i64 told] w
  fun e w'=>e=.returned (.agg (mC pc fuel (.slice sA sn sc) r0 r1 r2 r3 (.slice none 0 0) true told))∧Below w.heap.size w w':=by
 have hb:=hid (mB2_box (mC pc fuel (.slice sA sn sc) r0 r1 r2 r3 (.slice none 0 0) true told) w)
 have hr:=hid (mB2_res (mC pc fuel (.slice sA sn sc) r0 r1 r2 r3 (.slice none 0 0) true told) w)
 have hB:=hid (mB2_below (mC pc fuel (.slice sA sn sc) r0 r1 r2 r3 (.slice none 0 0) true told) w)
 have ht':(told != 0)=true:=by simpa using ht
 clear ht
 go_enter Tryz.func87,Tryz.ntmps87
 go_wp2_with (first
  | (with_reducible refine ld_mach w.heap.size hb.out _ rfl rfl rfl ?_)
  | (with_reducible refine st_mach (w.heap.size + 1) hr.out rfl rfl _ _ rfl rfl rfl rfl ?_))
 exact bodyPost_ret (v:=.agg (mC pc fuel (.slice sA sn sc) r0 r1 r2 r3 (.slice none 0 0) true told)) (res_mach rfl _ _ (w.heap.size + 1) rfl (Bk.setRow hr.out _)) rfl ⟨rfl,below_row hB.out (by omega) _⟩
end
end
end Go.Proofs.YtpaocjpjlogkgaaGreat
