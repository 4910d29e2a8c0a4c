/-
  Some cells of a row set one by one. They name no function of the program. No conditions but those that stand there.
-/
import Derived.Test.YtpaocjpjlogkgaaGreatQWords
namespace Go.Proofs.YtpaocjpjlogkgaaGreat
open Go.RowKit
theorem blksW_set (own:Blks) (h8:∀ b∈own,b.length=8) {j:Nat} (hj:j < own.length) {y:List Int} (hy:y.length=8):setL (blksW own) (j * 8) (y.map (.int .i64))=blksW (own.set j y):=by
 have h8':∀ b∈own.set j y,b.length=8:=fun b hb=>by
  rcases List.mem_or_eq_of_mem_set hb with hb | rfl
  ·exact h8 b hb
  ·exact hy
 have hl:(setL (blksW own) (j * 8) (y.map (.int .i64))).length=own.length * 8:=by rw [setL_length,blksW_length own h8]
 have hl':(blksW (own.set j y)).length=own.length * 8:=by rw [blksW_length _ h8',List.length_set]
 apply List.ext_getElem?
 intro i
 by_cases hi:i < own.length * 8
 ·have hp:i / 8 < own.length:=by omega
  have hq:i % 8 < 8:=by omega
  have e:i=i / 8 * 8 + i % 8:=by omega
  rw [setL_at _ _ _ _ (by rw [blksW_length own h8];exact hi)]
  have e1:=blksW_at own h8 (i / 8) hp (i % 8) hq
  have e2:=blksW_at (own.set j y) h8' (i / 8) (by simpa using hp) (i % 8) hq
  rw [← e] at e1 e2
  rw [e2]
  by_cases hij:i / 8=j
  ·rw [if_pos (by simp;omega),hij,List.getElem?_set_self hj,List.getElem?_map,show i - j * 8=i % 8 by omega,List.getElem?_eq_getElem (by omega)]
   simp
   rw [List.getElem?_eq_getElem (by omega)]
   rfl
  ·rw [if_neg (by simp;omega),e1,List.getElem?_set_ne (Ne.symm hij)]
 ·rw [List.getElem?_eq_none (by omega),List.getElem?_eq_none (by omega)]
end Go.Proofs.YtpaocjpjlogkgaaGreat
