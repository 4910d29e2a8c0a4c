/-
  A machine's rows in memory; what machine.puts answers, in whatever memory. No conditions but those that stand there.
-/
import Derived.Test.YtoomadafgkcebaaZMchE
import Derived.Test.YtoomadafgkcebaaZRowX
import Derived.Test.YtoomadafgkcebaaZBt
namespace Go.Proofs.Ytoomadafgkcebaa
open Go.RowKit

/-- a machine's stack, what it tells, and its blocks: rows of their own, apart from one another. -/
structure MRow (B : Nat) (w : World) (st ou : List Int) (own : Blks) (sA : Option Addr) (sn sc : Nat) (oA : Option Addr) (on oc : Nat) (bA : Option Addr) (bn bc : Nat) : Prop where
  st : w.ownsRow B 3 1 (.slice sA sn sc) sn (st.map (.int .i64))
  ou : w.ownsRow B 3 1 (.slice oA on oc) on (ou.map (.int .i64))
  bk : w.ownsRow B 47 8 (.slice bA bn bc) bn (blksW own)
  tw : twain (.slice sA sn sc) (.slice oA on oc)

/-- a block that isn't the row's. -/
def offB (b : Nat) (v : Value) : Prop := ∀ k, v.ownBlock = some k → k ≠ b

theorem own_offB {w : World} {base : Nat} {e : TypeId} {size n : Nat} {v : Value} {xs : List Value} (h : w.ownsRow base e size v n xs) {b : Nat} (hb : w.heap.size ≤ b) : offB b v := fun k hk => by
  have := own_lt h hk
  omega

section
variable {B : Nat} {w w' : World} {st ou : List Int} {own : Blks} {sA : Option Addr} {sn sc : Nat} {oA : Option Addr} {on oc : Nat} {bA : Option Addr} {bn bc : Nat}

theorem MRow.below (h : MRow B w st ou own sA sn sc oA on oc bA bn bc) (hb : Below w.heap.size w w') : MRow B w' st ou own sA sn sc oA on oc bA bn bc :=
  ⟨own_below h.st hb, own_below h.ou hb, own_below h.bk hb, h.tw⟩

theorem MRow.off (h : MRow B w st ou own sA sn sc oA on oc bA bn bc) {b : Nat} (hb : w.heap.size ≤ b) : offB b (.slice sA sn sc) ∧ offB b (.slice oA on oc) ∧ offB b (.slice bA bn bc) :=
  ⟨own_offB h.st hb, own_offB h.ou hb, own_offB h.bk hb⟩

theorem MRow.keep (h : MRow B w st ou own sA sn sc oA on oc bA bn bc) {b : Nat} (ho : offB b (.slice sA sn sc) ∧ offB b (.slice oA on oc) ∧ offB b (.slice bA bn bc)) (hk : ∀ k, k ≠ b → w'.heap[k]? = w.heap[k]?) : MRow B w' st ou own sA sn sc oA on oc bA bn bc :=
  ⟨own_keep h.st (fun g _ hg => hk g (ho.1 g hg)), own_keep h.ou (fun g _ hg => hk g (ho.2.1 g hg)), own_keep h.bk (fun g _ hg => hk g (ho.2.2 g hg)), h.tw⟩

theorem MRow.set (h : MRow B w st ou own sA sn sc oA on oc bA bn bc) {b : Nat} (ho : offB b (.slice sA sn sc) ∧ offB b (.slice oA on oc) ∧ offB b (.slice bA bn bc)) (i : Nat) (u : Value) : MRow B (w.setCell ⟨b, i, none⟩ u) st ou own sA sn sc oA on oc bA bn bc :=
  h.keep ho (fun k hk => Below.heap_setCell w ⟨b, i, none⟩ u k hk)

theorem MRow.setRow (h : MRow B w st ou own sA sn sc oA on oc bA bn bc) {b : Nat} (ho : offB b (.slice sA sn sc) ∧ offB b (.slice oA on oc) ∧ offB b (.slice bA bn bc)) (cs : Array Value) : MRow B (w.setRow b cs) st ou own sA sn sc oA on oc bA bn bc :=
  h.keep ho (fun k hk => setRow_other w b k cs hk)

theorem MRow.slen (h : MRow B w st ou own sA sn sc oA on oc bA bn bc) : sn = st.length := by have := h.st.1; simp at this; omega
theorem MRow.olen (h : MRow B w st ou own sA sn sc oA on oc bA bn bc) : on = ou.length := by have := h.ou.1; simp at this; omega

theorem MRow.blen (h : MRow B w st ou own sA sn sc oA on oc bA bn bc) (h8 : ∀ b ∈ own, b.length = 8) : bn = own.length := by have := h.bk.1; rw [blksW_length own h8] at this; omega

theorem MRow.blocks (h : MRow B w st ou own sA sn sc oA on oc bA bn bc) (h8 : ∀ b ∈ own, b.length = 8) : Blocks w bA bc own := by
  have := Sl.own' h.bk
  rw [h.blen h8] at this
  exact this

/-- the stack appended to. -/
theorem MRow.pushed (h : MRow B w st ou own sA sn sc oA on oc bA bn bc) {v : Int} {g cap : Nat} {w2 : World} (ho : w2.ownsRow B 3 1 (.slice (some ⟨g, 0, none⟩) (sn + 1) cap) (sn + 1) (st.map (.int .i64) ++ [.int .i64 v])) (hg : w.grownBy w2 (Value.slice sA sn sc).ownBlock)
    (hl : (Value.slice sA sn sc).ownBlock = some g ∨ g = w.heap.size) : MRow B w2 (st ++ [v]) ou own (some ⟨g, 0, none⟩) (sn + 1) cap oA on oc bA bn bc := by
  refine ⟨by simpa using ho, own_grown h.ou hg (fun k hk => h.tw.symm k hk), own_grown h.bk hg (fun k hk => own_apart h.bk h.st (by decide) k hk), fun k hk hk' => ?_⟩
  obtain rfl : g = k := by simpa [Value.ownBlock] using hk
  exact new_ne h.ou (Nat.le_refl _) hl (fun k hk => h.tw k hk) hk'

/-- what it tells appended to. -/
theorem MRow.told (h : MRow B w st ou own sA sn sc oA on oc bA bn bc) {v : Int} {g cap : Nat} {w2 : World} (ho : w2.ownsRow B 3 1 (.slice (some ⟨g, 0, none⟩) (on + 1) cap) (on + 1) (ou.map (.int .i64) ++ [.int .i64 v])) (hg : w.grownBy w2 (Value.slice oA on oc).ownBlock)
    (hl : (Value.slice oA on oc).ownBlock = some g ∨ g = w.heap.size) : MRow B w2 st (ou ++ [v]) own sA sn sc (some ⟨g, 0, none⟩) (on + 1) cap bA bn bc := by
  refine ⟨own_grown h.st hg (fun k hk => h.tw k hk), by simpa using ho, own_grown h.bk hg (fun k hk => own_apart h.bk h.ou (by decide) k hk), fun k hk hk' => ?_⟩
  obtain rfl : g = k := by simpa [Value.ownBlock] using hk'
  exact new_ne h.st (Nat.le_refl _) hl (fun k hk => h.tw.symm k hk) hk

/-- the stack cut short. -/
theorem MRow.cut (h : MRow B w st ou own sA sn sc oA on oc bA bn bc) {k : Nat} (hk : k ≤ sn) : MRow B w (st.take k) ou own sA k sc oA on oc bA bn bc :=
  ⟨by have := own_take h.st hk; rwa [Nat.mul_one, ← List.map_take] at this, h.ou, h.bk, fun g hg => h.tw g (by cases sA with
    | none => simp [Value.ownBlock] at hg
    | some a => simpa [Value.ownBlock] using hg)⟩

/-- nothing told any more. -/
theorem MRow.mute (h : MRow B w st ou own sA sn sc oA on oc bA bn bc) : MRow B w st [] own sA sn sc none 0 0 bA bn bc :=
  ⟨h.st, ⟨rfl, .inl ⟨rfl, rfl⟩⟩, h.bk, fun k _ hk' => by simp [Value.ownBlock] at hk'⟩
end

/-- all below a bound stays; and all that was there, but a machine's rows. -/
structure Rows3 (B : Nat) (S O A : Value) (w w' : World) : Prop where
  below : Below B w w'
  kept : ∀ k, k < w.heap.size → S.ownBlock ≠ some k → O.ownBlock ≠ some k → A.ownBlock ≠ some k → w'.heap[k]? = w.heap[k]?

theorem Rows3.start {B : Nat} {S O A : Value} {w w' : World} (hB : B ≤ w.heap.size) (hb : Below w.heap.size w w') : Rows3 B S O A w w' := ⟨hb.mono hB, fun k hk _ _ _ => hb.block k hk⟩
theorem Rows3.grown {B : Nat} {S O A : Value} {w W w2 : World} (h : Rows3 B S O A w W) (hB : B ≤ w.heap.size) {row : Option Nat} (hg : W.grownBy w2 row) (hr : row = S.ownBlock ∨ row = O.ownBlock) (hk : ∀ k, row = some k → B ≤ k) : Rows3 B S O A w w2 :=
  ⟨h.below.grown hg (Nat.le_trans hB h.below.size) hk, fun k hkw h1 h2 h3 => (hg.block k (Nat.lt_of_lt_of_le hkw h.below.size) (by
    rcases hr with rfl | rfl
    · exact Ne.symm h1
    · exact Ne.symm h2)).trans (h.kept k hkw h1 h2 h3)⟩
theorem Rows3.set {B : Nat} {S O A : Value} {w W : World} (h : Rows3 B S O A w W) (hB : B ≤ w.heap.size) {b : Nat} (hb : w.heap.size ≤ b) (i : Nat) (u : Value) : Rows3 B S O A w (W.setCell ⟨b, i, none⟩ u) :=
  ⟨h.below.setCell (p := ⟨b, i, none⟩) (Nat.le_trans hB hb) u, fun k hk h1 h2 h3 => (Below.heap_setCell W ⟨b, i, none⟩ u k (by simp; omega)).trans (h.kept k hk h1 h2 h3)⟩
theorem Rows3.setRow {B : Nat} {S O A : Value} {w W : World} (h : Rows3 B S O A w W) (hB : B ≤ w.heap.size) {b : Nat} (hb : w.heap.size ≤ b) (cs : Array Value) : Rows3 B S O A w (W.setRow b cs) :=
  ⟨below_row h.below (Nat.le_trans hB hb) cs, fun k hk h1 h2 h3 => (setRow_other W b k cs (by omega)).trans (h.kept k hk h1 h2 h3)⟩
theorem Rows3.bk {B : Nat} {S O A : Value} {w w' : World} (h : Rows3 B S O A w w') {b : Nat} {t : TypeId} {cs : Array Value} (hb : Bk w b t cs) (hs : offB b S) (ho : offB b O) (ha : offB b A) : Bk w' b t cs :=
  (h.kept b hb.lt (fun e => hs b e rfl) (fun e => ho b e rfl) (fun e => ha b e rfl)).trans hb

/-- a machine's rows aren't where a machine lies. -/
theorem MRow.offM {B : Nat} {w : World} {st ou : List Int} {own : Blks} {sA : Option Addr} {sn sc : Nat} {oA : Option Addr} {on oc : Nat} {bA : Option Addr} {bn bc : Nat} (h : MRow B w st ou own sA sn sc oA on oc bA bn bc) {b : Nat} {cs : Array Value} (hb : Bk w b 32 cs) :
    offB b (.slice sA sn sc) ∧ offB b (.slice oA on oc) ∧ offB b (.slice bA bn bc) := by
  have key : ∀ {e : TypeId} {size n : Nat} {v : Value} {xs : List Value}, w.ownsRow B e size v n xs → 32 ≠ e → offB b v := fun {e size n v xs} h hne k hk => by
    rcases h.2 with ⟨rfl, _⟩ | ⟨g, cap, cur, rfl, _, hg, _⟩
    · simp [Value.ownBlock] at hk
    · obtain rfl : g = k := by simpa [Value.ownBlock] using hk
      exact hb.ne hg hne
  exact ⟨key h.st (by decide), key h.ou (by decide), key h.bk (by decide)⟩

/-- .. and a result's block. -/
abbrev nR (x : Ins) (cs : Array Value) (w : World) : World := (nB x cs w).alloc (.cells mZ 32)
theorem nR_below (x : Ins) (cs : Array Value) (w : World) : Below w.heap.size w (nR x cs w) := bnext (nB_below x cs w) (below_alloc1 _ _)
theorem nR_ins (x : Ins) (cs : Array Value) (w : World) : Bk (nR x cs w) w.heap.size 45 #[.int .i64 x.op, .int .i64 x.a, .int .i64 x.b] := (nB_ins x cs w).alloc _
theorem nR_box (x : Ins) (cs : Array Value) (w : World) : Bk (nR x cs w) (w.heap.size + 1) 32 cs := (nB_box x cs w).alloc _
theorem nR_res (x : Ins) (cs : Array Value) (w : World) : Bk (nR x cs w) (w.heap.size + 1 + 1) 32 mZ := by
  have := Bk.new (nB x cs w) 32 mZ
  rwa [World.size_alloc, World.size_alloc] at this

section
variable (pc fuel : Int) (sA : Option Addr) (sn sc : Nat) (r0 r1 r2 r3 : Int) (oA : Option Addr) (on oc : Nat) (ov : Bool) (e0 : Int) (aA : Option Addr) (an ac : Nat) (bA : Option Addr) (bn bc : Nat)

/-- a number more on the stack. -/
def PutsPost (B : Nat) (st ou : List Int) (own : Blks) (v : Int) (w : World) (e : Ending) (w' : World) : Prop :=
  ∃ g cap, e = .returned (.agg (mC pc fuel (.slice (some ⟨g, 0, none⟩) (sn + 1) cap) r0 r1 r2 r3 (.slice oA on oc) ov e0)) ∧ MRow B w' (st ++ [v]) ou own (some ⟨g, 0, none⟩) (sn + 1) cap oA on oc bA bn bc ∧ Rows3 B (.slice sA sn sc) (.slice oA on oc) (.slice bA bn bc) w w'

theorem puts_any (x : Ins) (B : Nat) (st ou : List Int) (own : Blks) (v : Int) (w : World) (hB : B ≤ w.heap.size) (hR : MRow B w st ou own sA sn sc oA on oc bA bn bc) (hn : sn ≤ 1000)
    (hnm : ∀ W, Below w.heap.size w W → Calls Try.prog 42 #[.agg #[.int .i64 x.op, .int .i64 x.a, .int .i64 x.b], .slice aA an ac, .agg (mC pc fuel (.slice sA sn sc) r0 r1 r2 r3 (.slice oA on oc) ov e0), .slice bA bn bc] W (NamedPost v W)) :
    Calls Try.prog 39 #[.agg #[.int .i64 x.op, .int .i64 x.a, .int .i64 x.b], .slice aA an ac, .agg (mC pc fuel (.slice sA sn sc) r0 r1 r2 r3 (.slice oA on oc) ov e0), .slice bA bn bc] w
      (PutsPost pc fuel sA sn sc r0 r1 r2 r3 oA on oc ov e0 bA bn bc B st ou own v w) := by
  obtain ⟨i0, hi, hz0, hz1, hz2⟩ := infoInt
  have hbe := Lib.hid (nR_below x (mC pc fuel (.slice sA sn sc) r0 r1 r2 r3 (.slice oA on oc) ov e0) w)
  have hbx := Lib.hid (nR_box x (mC pc fuel (.slice sA sn sc) r0 r1 r2 r3 (.slice oA on oc) ov e0) w)
  have hrs := Lib.hid (nR_res x (mC pc fuel (.slice sA sn sc) r0 r1 r2 r3 (.slice oA on oc) ov e0) w)
  have HR := Lib.hid hR
  have hcall := Lib.hid (hnm _ hbe.out)
  clear hR hnm
  go_enter Try.func39, Try.ntmps39
  go_wp2_with (first
    | (with_reducible refine ld_mach (w.heap.size + 1) hbx.out _ rfl rfl rfl ?_)
    | (go_at_call 42; go_must ((with_reducible refine hcall.out.mono ?_); rintro e w1 ⟨rfl, hb1⟩; have B1 := Lib.hid (bnext hbe.out hb1); have X1 := Lib.hid (hbx.out.below hb1); have R1 := Lib.hid (hrs.out.below hb1); have c2 := X1.out.cell 2; have xl := X1.out.lt; simp only [List.getElem?_toArray, List.getElem?_cons_zero, List.getElem?_cons_succ] at c2; clear hb1))
    | (at_builtin; go_must (refine append_rowH rfl (.tmp 24) (.tmp 26) _ rfl B 3 i0 _ 1 8 Try.underlying22 hi hz0 hz1 hz2 rfl (by decide) (.slice sA sn sc) sn (st.map (.int .i64)) rfl (own_below (own_below HR.out.st B1.out) (below_alloc1 _ _)) w1.heap.size #[.int .i64 v] rfl (Bk.new _ _ _) rfl rfl (by unfold maxLen; omega) (by omega) (by have := B1.out.size; rw [World.size_alloc]; omega) ?_; intro g cap w2 ho2 hg2 hl2; have X2 := Lib.hid ((X1.out.alloc _).grown hg2 (fun e => (HR.out.off (b := w.heap.size + 1) (by omega)).1 _ e.symm rfl)); have R2 := Lib.hid ((R1.out.alloc _).grown hg2 (fun e => (HR.out.off (b := w.heap.size + 1 + 1) (by omega)).1 _ e.symm rfl)); have M2 := Lib.hid (((HR.out.below B1.out).below (below_alloc1 _ _)).pushed ho2 hg2 hl2); have BB : Hid (Rows3 B (.slice sA sn sc) (.slice oA on oc) (.slice bA bn bc) w w2) := Lib.hid ((Rows3.start hB (bnext B1.out (below_alloc1 _ _))).grown hB hg2 (.inl rfl) (fun k hk => own_ge HR.out.st hk)); have Q2 := Lib.hid hl2; have y2 := X2.out.cell 2; have yf := X2.out.frozen; have yl := X2.out.lt; have X3 : Hid (Bk (w2.setCell ⟨w.heap.size + 1, 2, none⟩ (.slice (some ⟨g, 0, none⟩) (sn + 1) cap)) (w.heap.size + 1) 32 (mC pc fuel (.slice (some ⟨g, 0, none⟩) (sn + 1) cap) r0 r1 r2 r3 (.slice oA on oc) ov e0)) := Lib.hid (by simpa using X2.out.set 2 (.slice (some ⟨g, 0, none⟩) (sn + 1) cap)); have R3 := Lib.hid (R2.out.far (p := ⟨w.heap.size + 1, 2, none⟩) (by simp) (.slice (some ⟨g, 0, none⟩) (sn + 1) cap)); simp only [List.getElem?_toArray, List.getElem?_cons_zero, List.getElem?_cons_succ] at y2; clear ho2 hg2 hl2))
    | (with_reducible refine ld_mach (w.heap.size + 1) X3.out _ rfl rfl rfl ?_)
    | (with_reducible refine st_mach (w.heap.size + 1 + 1) R3.out rfl rfl _ _ rfl rfl rfl rfl ?_))
  have hoff : ∀ b, b = w.heap.size + 1 ∨ b = w.heap.size + 1 + 1 → offB b (.slice (some ⟨g, 0, none⟩) (sn + 1) cap) ∧ offB b (.slice oA on oc) ∧ offB b (.slice bA bn bc) := fun b hb => by
    have ho := HR.out.off (b := b) (by omega)
    refine ⟨fun k hk => ?_, ho.2⟩
    obtain rfl : g = k := by simpa [Value.ownBlock] using hk
    rcases Q2.out with h | h
    · exact ho.1 g h
    · have := B1.out.size
      have := R1.out.lt
      rw [World.size_alloc] at h
      omega
  exact bodyPost_ret (v := .agg (mC pc fuel (.slice (some ⟨g, 0, none⟩) (sn + 1) cap) r0 r1 r2 r3 (.slice oA on oc) ov e0)) (res_mach rfl _ _ (w.heap.size + 1 + 1) rfl (Bk.setRow R3.out _)) rfl
    ⟨g, cap, rfl, (M2.out.set (hoff _ (.inl rfl)) _ _).setRow (hoff _ (.inr rfl)) _, (BB.out.set hB (by omega) _ _).setRow hB (by omega) _⟩

end
end Go.Proofs.Ytoomadafgkcebaa
