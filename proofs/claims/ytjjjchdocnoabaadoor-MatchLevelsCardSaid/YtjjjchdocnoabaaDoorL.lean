
/-
  Blocks that are known whole, and whole rows by value; rows of integers that came in.
-/
import Derived.Test.YtjjjchdocnoabaaDoorJ
import Derived.Test.YtjjjchdocnoabaaDoorPl
import Derived.Deep.MidRow
import Derived.Deep.Cut
import Derived.Laws.Rows
import Derived.Laws.Tables
import Derived.Laws.MakeOwn
namespace Go.Proofs.YtjjjchdocnoabaaDoor
open Go.RowKit

theorem Touch.setRow {S : Nat → Prop} {a w : World} (h : Touch S a w) (g : Nat) (cs : Array Value) (hp : S g ∨ a.heap.size ≤ g) : Touch S a (w.setRow g cs) :=
  ⟨h.os, h.tape, h.output, Nat.le_trans h.size (by simp), fun k hk hs => (setRow_other w g k cs (fun e => by subst e; rcases hp with hp | hp; exact hs hp; omega)).trans (h.block k hk hs)⟩
theorem Touch.of_below {S : Nat → Prop} {a b : World} (h : Below a.heap.size a b) : Touch S a b := ⟨h.os, h.tape, h.output, h.size, fun k hk _ => h.block k hk⟩
theorem below_drewN {B : Nat} {a w : World} (h : Below B a w) (q : Nat) : Below B a (w.drewN q) := ⟨h.os, h.tape, h.output, h.size, h.block⟩
theorem below_drew {B : Nat} {a w : World} (h : Below B a w) : Below B a w.drew := ⟨h.os, h.tape, h.output, h.size, h.block⟩

/-- Block g is just these cells. -/
def Blk (w : World) (g : Nat) (t : TypeId) (cs : Array Value) : Prop := w.heap[g]? = some (.cells cs t (0, 0))

theorem Blk.lt {w : World} {g : Nat} {t : TypeId} {cs : Array Value} (h : Blk w g t cs) : g < w.heap.size := by
  rcases Nat.lt_or_ge g w.heap.size with hlt | hge
  · exact hlt
  · rw [Blk, Array.getElem?_eq_none hge] at h; cases h
theorem Blk.cell {w : World} {g : Nat} {t : TypeId} {cs : Array Value} (h : Blk w g t cs) (i : Nat) : w.cell? ⟨g, i, none⟩ = cs[i]? := cell_of_row w g i cs t (0, 0) h
theorem Blk.free {w : World} {g : Nat} {t : TypeId} {cs : Array Value} (h : Blk w g t cs) (i : Nat) : w.frozen? ⟨g, i, none⟩ = false := by
  rw [Blk] at h
  simp [World.frozen?, h]
theorem Blk.made (w : World) (t : TypeId) (cs : Array Value) : Blk (w.alloc (.cells cs t)) w.heap.size t cs := by
  show (w.heap.push _)[w.heap.size]? = _
  simp
theorem Blk.touch {S : Nat → Prop} {w w' : World} {g : Nat} {t : TypeId} {cs : Array Value} (h : Blk w g t cs) (ht : Touch S w w') (hs : ¬ S g) : Blk w' g t cs :=
  (ht.block g h.lt hs).trans h
theorem Blk.below {w w' : World} {g : Nat} {t : TypeId} {cs : Array Value} (h : Blk w g t cs) (hb : Below w.heap.size w w') : Blk w' g t cs := (hb.block g h.lt).trans h
theorem Blk.low {w w' : World} {B g : Nat} {t : TypeId} {cs : Array Value} (h : Blk w g t cs) (hb : Below B w w') (hg : g < B) : Blk w' g t cs := (hb.block g hg).trans h
theorem Blk.drewN {w : World} {g : Nat} {t : TypeId} {cs : Array Value} (h : Blk w g t cs) (q : Nat) : Blk (w.drewN q) g t cs := h
theorem Blk.setCell {w : World} {g : Nat} {t : TypeId} {cs : Array Value} (h : Blk w g t cs) (i : Nat) (u : Value) : Blk (w.setCell ⟨g, i, none⟩ u) g t (cs.setIfInBounds i u) := by
  rw [Blk] at h ⊢
  simp [World.setCell, Array.getElem?_modify, h]
theorem Blk.other {w : World} {g g' : Nat} {t : TypeId} {cs : Array Value} (h : Blk w g t cs) (i : Nat) (u : Value) (hne : g' ≠ g) : Blk (w.setCell ⟨g', i, none⟩ u) g t cs :=
  h.touch ((Touch.refl (fun k => k = g') w).setCell ⟨g', i, none⟩ u (.inl rfl)) fun e => hne e.symm
theorem Blk.setRow {w : World} {g : Nat} {t : TypeId} {cs : Array Value} (h : Blk w g t cs) (u : Array Value) : Blk (w.setRow g u) g t u := setRow_heap w g cs u t (0, 0) h

/-- A row of n cells, told by a function. -/
def va (n : Nat) (F : Nat → Value) : Array Value := ((List.range n).map F).toArray
theorem va_size (n : Nat) (F : Nat → Value) : (va n F).size = n := by simp [va]
theorem va_at (n : Nat) (F : Nat → Value) (i : Nat) (h : i < n) : (va n F)[i]? = some (F i) := by simp [va, h]
theorem va_congr {n : Nat} {F G : Nat → Value} (h : ∀ i, i < n → F i = G i) : va n F = va n G := by
  unfold va
  congr 1
  apply List.map_congr_left
  intro i hi
  rw [h i (List.mem_range.1 hi)]
theorem va_set (n : Nat) (F : Nat → Value) (k : Nat) (u : Value) : (va n F).setIfInBounds k u = va n fun i => if i = k then u else F i := by
  apply Array.ext
  · simp [va]
  · intro i h1 h2
    rw [Array.getElem_setIfInBounds (by simpa [va] using h2)]
    simp only [va, List.getElem_toArray, List.getElem_map, List.getElem_range]
    by_cases h : k = i
    · subst h; simp
    · have h' : ¬ i = k := fun e => h e.symm
      simp [h, h']
theorem va_replicate (n : Nat) (u : Value) : Array.replicate n u = va n fun _ => u := by
  apply Array.ext
  · simp [va]
  · intro i h1 h2
    simp [va]
theorem va_made (z : Array Value) (n : Nat) : madeCells z n = va n (fun i => z[i % z.size]!) := by
  apply Array.ext
  · simp [va, madeCells]
  · intro i h1 h2
    simp [va, madeCells]
/-- A row of n integers. -/
abbrev ia (n : Nat) (f : Nat → Nat) : Array Value := va n fun i => .int .i64 (f i : Nat)
theorem ia_one (n : Nat) (f : Nat → Nat) : (ia n f).all (·.oneCell') = true := by
  rw [Array.all_eq_true_iff_forall_mem]
  intro v hv
  simp [ia, va] at hv
  obtain ⟨i, _, rfl⟩ := hv
  rfl
theorem ia_set (n : Nat) (f g : Nat → Nat) (k x : Nat) (h : ∀ i, i < n → g i = if i = k then x else f i) : (ia n f).setIfInBounds k (.int .i64 (x : Nat)) = ia n g := by
  rw [va_set]
  refine va_congr fun i hi => ?_
  rw [h i hi]
  split <;> rfl

/-! ### Whole rows by value, at a plain region's operations -/
section
variable {P : Program} {ops : Array Oper} {rest : List Oper} {o : Oper} {a : Act} {w : World} {Q : Exit → Act → World → Prop}

/-- A variable of a type whose zero value is known. -/
theorem wpList_alloc_z (hgd : o.guard = none) (t : TypeId) (ho : o.op = .alloc t) (z : Array Value) (hz : ∀ W, (zeroValue t).run P W = .ok (.agg z) W)
    (h : ∀ W, Blk W w.heap.size t z → Touch (fun _ => False) w W → W.heap.size = w.heap.size + 1 → wpList P ops Q rest (a.put o.dst (.pointer (some ⟨w.heap.size, 0, none⟩))) W) : wpList P ops Q (o :: rest) a w := by
  have hr : (Instr.alloc t true (.tuple #[])).run P w = .ok (.pointer (some ⟨w.heap.size, 0, none⟩)) (w.alloc (.cells z t)) := by
    simp [Instr.alloc, hz, newVar, newRow, Value.cells, go_sem]
  refine wpList_plain hgd fun K hK => ?_
  unfold Oper.wp execOp
  simp only [ho, Sem.run_bind, Sem.run_pure, hr, Result.andThen_ok]
  exact hK _ _ (h _ (Blk.made w t z) ((Touch.refl _ w).alloc _) (by simp))

/-- A value of many cells goes into a new variable. -/
theorem wpList_box_row (hgd : o.guard = none) (t : TypeId) (x : Operand) (ho : o.op = .box t x) (z : Array Value) (hx : a.eval x = .agg z)
    (h : ∀ W, Blk W w.heap.size t z → Touch (fun _ => False) w W → W.heap.size = w.heap.size + 1 → wpList P ops Q rest (a.put o.dst (.pointer (some ⟨w.heap.size, 0, none⟩))) W) : wpList P ops Q (o :: rest) a w := by
  have hr : (Instr.box t (.agg z)).run P w = .ok (.pointer (some ⟨w.heap.size, 0, none⟩)) (w.alloc (.cells z t)) := by
    simp [Instr.box, newVar, newRow, Value.cells, go_sem]
  refine wpList_plain hgd fun K hK => ?_
  unfold Oper.wp execOp
  simp only [ho, hx, Sem.run_bind, Sem.run_pure, hr, Result.andThen_ok]
  exact hK _ _ (h _ (Blk.made w t z) ((Touch.refl _ w).alloc _) (by simp))

/-- A whole row, read. -/
theorem wpList_load_row (hgd : o.guard = none) (t : TypeId) (x : Operand) (ho : o.op = .load t x) (g : Nat) (hx : a.eval x = .pointer (some ⟨g, 0, none⟩)) (ty : TypeId) (cs : Array Value) (hb : Blk w g ty cs)
    (n : Nat) (e : TypeId) (hu : P.underlying t = some (.array n e)) (hi : (P.info? t).map (·.size) = some cs.size)
    (h : wpList P ops Q rest (a.put o.dst (.agg cs)) w) : wpList P ops Q (o :: rest) a w := by
  have hr : (Instr.loadAt t (.pointer (some ⟨g, 0, none⟩))).run P w = .ok (.agg cs) w := by
    simp only [Instr.loadAt, Instr.sureAddr, Sem.run_bind, Sem.run_pure, Result.andThen]
    exact run_loadVar_row w g ty t cs (0, 0) _ hb hu rfl hi
  refine wpList_plain hgd fun K hK => ?_
  unfold Oper.wp execOp
  simp only [ho, hx, Sem.run_bind, Sem.run_pure, hr, Result.andThen_ok]
  exact hK _ _ h

/-- A whole row, written. -/
theorem wpList_store_row (hgd : o.guard = none) (t : TypeId) (x y : Operand) (ho : o.op = .store t x y) (hd : o.dst = none) (g : Nat) (hx : a.eval x = .pointer (some ⟨g, 0, none⟩)) (cells : Array Value) (hy : a.eval y = .agg cells) (ty : TypeId) (old : Array Value) (hb : Blk w g ty old)
    (hi : (P.info? t).map (·.size) = some cells.size) (hsz : old.size = cells.size) (h1 : cells.all (·.oneCell') = true)
    (h : ∀ W, Blk W g ty cells → Touch (fun k => k = g) w W → W.heap.size = w.heap.size → wpList P ops Q rest a W) : wpList P ops Q (o :: rest) a w := by
  have hr : (Instr.storeAt t (.pointer (some ⟨g, 0, none⟩)) (.agg cells)).run P w = .ok () (w.setRow g cells) := by
    simp only [Instr.storeAt, Instr.sureAddr, Sem.run_bind, Sem.run_pure, Result.andThen]
    exact run_storeVar_row w g ty t old cells hb hi hsz h1
  have h' := h _ (hb.setRow cells) ((Touch.refl _ w).setRow g cells (.inl rfl)) (by simp)
  refine wpList_plain hgd fun K hK => ?_
  unfold Oper.wp execOp
  simp only [ho, hx, hy, Sem.run_bind, Sem.run_pure, hr, Result.andThen_ok]
  refine hK _ _ ?_
  rw [hd]
  exact h'

/-- One element of a row by value. -/
theorem wpList_index_row (hgd : o.guard = none) (t : TypeId) (x y : Operand) (ho : o.op = .index t x y) (cs : Array Value) (hx : a.eval x = .agg cs) (k : IntKind) (i : Nat) (hy : a.eval y = .int k i) (n : Nat) (e : TypeId) (hu : P.underlying t = some (.array n e)) (hin : i < n)
    (hag : ∀ W, (isAgg e).run P W = .ok false W) (hsz : ∀ W, (sizeOf e).run P W = .ok 1 W) (u : Value) (hu' : cs[i]? = some u)
    (h : wpList P ops Q rest (a.put o.dst u) w) : wpList P ops Q (o :: rest) a w := by
  have hr : (Instr.index t (.agg cs) (.int k i)).run P w = .ok u w := by
    simp [Instr.index, run_underlying hu, asIntOf, hin, hsz, part, hag, hu', go_sem]
  refine wpList_plain hgd fun K hK => ?_
  unfold Oper.wp execOp
  simp only [ho, hx, hy, Sem.run_bind, Sem.run_pure, hr, Result.andThen_ok]
  exact hK _ _ h

/-- A value whose build is known. -/
theorem wpList_build_z (hgd : o.guard = none) (t : TypeId) (parts : Array (Nat × Operand)) (ho : o.op = .build t parts) (hp : parts = #[]) (z : Value) (hz : ∀ W, (Instr.build t #[]).run P W = .ok z W)
    (h : wpList P ops Q rest (a.put o.dst z) w) : wpList P ops Q (o :: rest) a w := by
  subst hp
  refine wpList_plain hgd fun K hK => ?_
  unfold Oper.wp execOp
  simp [ho, hz, Result.andThen_ok]
  exact hK _ _ h

/-- A slice that is made: its block is known whole. -/
theorem wpList_make_z (hgd : o.guard = none) (t : TypeId) (l c : Operand) (ho : o.op = .makeSlice t l c) (e : TypeId) (z : Value) (size bytes n : Nat) (hu : P.underlying t = some (.slice e))
    (hin : (P.info? e).map (fun i => (i.zero, i.size, i.bytes)) = some (some z, size, bytes)) (kl kc : IntKind) (L C : Int) (hl : a.eval l = .int kl L) (hc : a.eval c = .int kc C) (hL : L = n) (hC : C = n) (hb : bytes * n ≤ 281474976710656) (h63 : n ≤ 9223372036854775807)
    (h : ∀ W, Blk W w.heap.size e (va (n * size) (fun i => z.cells[i % z.cells.size]!)) → Touch (fun _ => False) w W → W.heap.size = w.heap.size + 1 → wpList P ops Q rest (a.put o.dst (.slice (some ⟨w.heap.size, 0, none⟩) n n)) W) : wpList P ops Q (o :: rest) a w := by
  subst hL hC
  obtain ⟨i, hi, hz0, hz1, hz2⟩ := info_parts hin
  have hr := run_make (P := P) w t e i z hu hi hz0 kl kc n n (by omega) (Int.le_refl _) (by rw [hz2]; omega) (by omega)
  rw [Int.toNat_natCast, hz1, va_made] at hr
  refine wpList_plain hgd fun K hK => ?_
  unfold Oper.wp execOp
  simp only [ho, hl, hc, Sem.run_bind, Sem.run_pure, hr, Result.andThen_ok]
  exact hK _ _ (h _ (Blk.made w e _) ((Touch.refl _ w).alloc _) (by simp))
end

/-- What one cell's result hands back. -/
theorem results_cell {fn : Func} {p : Tmp} {ty : TypeId} (h : fn.results = #[.cell p ty]) (tmps : Array Value) (P : Program) (w : World) (g : Nat) (hg : tmps.getD p undef = .pointer (some ⟨g, 0, none⟩)) (t : TypeId) (cs : Array Value) (hb : Blk w g t cs)
    (n : Nat) (e : TypeId) (hu : P.underlying ty = some (.array n e)) (hi : (P.info? ty).map (·.size) = some cs.size) :
    (results fn tmps).run P w = .ok (.agg cs) w := by
  have hg' : tmps[p]?.getD undef = .pointer (some ⟨g, 0, none⟩) := by rw [← hg, Array.getD_eq_getD_getElem?]
  simp [results, h, hg', asAddr, run_loadVar_row w g t ty cs (0, 0) _ hb hu rfl hi]
/-- What a cell's result and a slot's hand back. -/
theorem results_cell2 {fn : Func} {p q : Tmp} {ty : TypeId} (h : fn.results = #[.cell p ty, .tmp q]) (tmps : Array Value) (P : Program) (w : World) (g : Nat) (hg : tmps.getD p undef = .pointer (some ⟨g, 0, none⟩)) (t : TypeId) (cs : Array Value) (hb : Blk w g t cs)
    (n : Nat) (e : TypeId) (hu : P.underlying ty = some (.array n e)) (hi : (P.info? ty).map (·.size) = some cs.size) (v : Value) (hv : tmps.getD q undef = v) :
    (results fn tmps).run P w = .ok (.tuple #[.agg cs, v]) w := by
  have hg' : tmps[p]?.getD undef = .pointer (some ⟨g, 0, none⟩) := by rw [← hg, Array.getD_eq_getD_getElem?]
  have hv' : tmps[q]?.getD undef = v := by rw [← hv, Array.getD_eq_getD_getElem?]
  simp [results, h, hg', hv', asAddr, run_loadVar_row w g t ty cs (0, 0) _ hb hu rfl hi]

/-! ### Integers that came in -/
/-- A slice's address at which these integers lie. -/
def IS (w : World) (ao : Option Addr) (zs : List Int) : Prop :=
  zs = [] ∨ ∃ b off, ao = some ⟨b, off, none⟩ ∧ ∀ j, j < zs.length → w.cell? ⟨b, off + j, none⟩ = some (.int .i64 (zs.getD j 0))
theorem IS.below {w w' : World} {ao : Option Addr} {zs : List Int} (h : IS w ao zs) (hb : Below w.heap.size w w') : IS w' ao zs := by
  rcases h with h | ⟨b, off, rfl, hc⟩
  · exact .inl h
  · exact .inr ⟨b, off, rfl, fun j hj => by
      have := hc j hj
      exact (hb.cell (World.block_lt_of_cell? w _ this)).trans this⟩
theorem IS.drewN {w : World} {ao : Option Addr} {zs : List Int} (h : IS w ao zs) (n : Nat) : IS (w.drewN n) ao zs := h.below (below_drewN (Below.refl _ _) n)
theorem IS.touch {S : Nat → Prop} {w w' : World} {ao : Option Addr} {zs : List Int} (h : IS w ao zs) (ht : Touch S w w') (hs : ∀ b off, ao = some ⟨b, off, none⟩ → zs ≠ [] → ¬ S b) : IS w' ao zs := by
  rcases h with h | ⟨b, off, rfl, hc⟩
  · exact .inl h
  · by_cases hx : zs = []
    · exact .inl hx
    · refine .inr ⟨b, off, rfl, fun j hj => ?_⟩
      have h1 := hc j hj
      rw [← h1]
      exact World.cell?_of_block (ht.block b (World.block_lt_of_cell? w _ h1) (hs b off rfl hx))
theorem IS.at {w : World} {ao : Option Addr} {zs : List Int} (h : IS w ao zs) {k : Nat} (hk : k < zs.length) : ∃ b off, ao = some ⟨b, off, none⟩ ∧ w.cell? ⟨b, off + k, none⟩ = some (.int .i64 (zs.getD k 0)) := by
  rcases h with h | ⟨b, off, rfl, hc⟩
  · rw [h] at hk; simp at hk
  · exact ⟨b, off, rfl, hc k hk⟩

/-- Lengths as numbers. -/
def nat (zs : List Int) : List Nat := zs.map Int.toNat
theorem nat_len (zs : List Int) : (nat zs).length = zs.length := by simp [nat]
/-- Lengths that are 0 to 15, and not more than 320. -/
structure Vd (zs : List Int) : Prop where
  len : zs.length ≤ 320
  all : ∀ z ∈ zs, 0 ≤ z ∧ z ≤ 15
theorem getD_mem {zs : List Int} {k : Nat} (hk : k < zs.length) : zs.getD k 0 ∈ zs := by
  rw [List.getD_eq_getElem?_getD, List.getElem?_eq_getElem hk]
  exact List.getElem_mem hk
theorem nat_ln (zs : List Int) (k : Nat) : ln (nat zs) k = (zs.getD k 0).toNat := by
  unfold ln nat
  rcases Nat.lt_or_ge k zs.length with h | h <;> simp [List.getD, h]
theorem Vd.ln {zs : List Int} (h : Vd zs) {k : Nat} (hk : k < zs.length) : zs.getD k 0 = (YtjjjchdocnoabaaDoor.ln (nat zs) k : Nat) ∧ YtjjjchdocnoabaaDoor.ln (nat zs) k ≤ 15 := by
  have := h.all _ (getD_mem hk)
  rw [nat_ln]
  omega
end Go.Proofs.YtjjjchdocnoabaaDoor
