/-
  locks' calls, the program's and the reference's, as those who wait say it. No conditions but those that stand there.
-/
import Derived.Test.YtpaocjpjlogkgaaGreatQLckS
import Derived.Test.YtpaocjpjlogkgaaGreatQWords
import Derived.Test.YtpaocjpjlogkgaaGreatQRckA
import Derived.Test.YtpaocjpjlogkgaaGreatQLckRa
import Derived.Test.YtpaocjpjlogkgaaGreatQLckA
import Derived.Handy
namespace Go.Proofs.YtpaocjpjlogkgaaGreat
open Go.RowKit Go.Shelf
section
variable (c:Cmd) (ra:Option Addr) (nr rc:Nat) (wa:Option Addr) (nw wc:Nat) (aa:Option Addr) (na ac:Nat) (fuel:Int) (ca:Option Addr) (nc cc:Nat) (u:Who) (A:Option Addr) (n k:Nat) (s:Int) (W:World)
theorem ask_who (hl:LkSl W A n k (lksW u n)) (hn:n≤1000) (hu:u.length≤1000) (hs:setsN c) (hk:CmLk W c ra nr rc wa nw wc n):Calls Tryz.prog 27 #[.slice A n k,cmV ra nr rc wa nw wc aa na ac fuel ca nc cc,.int .i64 s] W (LkPost (lksW (u ++ [(s,c)]) n) n W):=by
 rw [← asks_W u n hs s]
 exact lask_any c ra nr rc wa nw wc aa na ac fuel ca nc cc _ A n k s W hl hn (fun b=>by have:=lksW_len u n b;omega) hk
theorem give_who (hl:LkSl W A n k (lksW u n)) (hn:n≤1000) (hu:u.length≤1000) (hs:setsN c) (hw:∀ x∈u,x.1=s→x.2=c) (hk:CmLk W c ra nr rc wa nw wc n):Calls Tryz.prog 83 #[.slice A n k,cmV ra nr rc wa nw wc aa na ac fuel ca nc cc,.int .i64 s] W (LkPost (lksW (u.filter fun x=>decide (x.1≠s)) n) n W):=by
 rw [← gives_W n hs hw]
 exact lgive_any c ra nr rc wa nw wc aa na ac fuel ca nc cc _ A n k s W hl hn (fun b=>by have:=lksW_len u n b;omega) hk
theorem ready_who (hl:LkSl W A n k (lksW u n)) (hu:u.length≤1000) (hk:CmLk W c ra nr rc wa nw wc n):Calls Tryz.prog 73 #[.slice A n k,cmV ra nr rc wa nw wc aa na ac fuel ca nc cc,.int .i64 s] W fun e w'=>e=.returned (.bool (readyL (lksW u n) c s))∧Below W.heap.size W w':=
 lready_any c ra nr rc wa nw wc aa na ac fuel ca nc cc _ A n k s W hl (lksW_gr u n) (fun b=>by have:=lksW_len u n b;omega) hk
theorem rsame_who (A2:Option Addr) (k2:Nat) (hl:LkSl W A n k (lksW u n)) (hl2:LkSl W A2 n k2 (lksW u n)) (hn:n≤1000) (hu:u.length≤1000):Calls Tryz.prog 21 #[.slice A n k,.slice A2 n k2] W fun e w'=>e=.returned (.bool true)∧Below W.heap.size W w':=
 rsame15_yes _ A k A2 k2 n W hl hl2 hn (fun b=>by have:=lksW_len u n b;omega)
end
end Go.Proofs.YtpaocjpjlogkgaaGreat
