import Derived.Test.YtnnkegpnjedneaaDoorRows
import Derived.WalkKit
import Derived.WalkSpells
import Derived.WalkLawsBesides
import Derived.Deep.QuietTactic
import Derived.BigQuiet
import Derived.Lib.Hide
import Derived.BigRegion
import Derived.Deep.RegionLawGrows
import Derived.Deep.AppendLies
import Derived.Deep.RegionHeld3
import Derived.Laws.AppendOwnNone
import Derived.Laws.AppendOwn
import Derived.Laws.OwnMore
import Derived.OwnWalk
import Derived.Deep.MidRow
import Derived.Deep.Cut
import Derived.Laws.Rows
import Derived.Laws.Tables
import Derived.Laws.MakeOwn
import Derived.StillTailTactics

/-
  Blocks that may change, blocks that are known whole, rows of integers that came in; lengths counted.
-/
namespace Go.Proofs.YtnnkegpnjedneaaDoor.Z
open Go.RowKit
set_option maxRecDepth 100000

theorem ret_int {k : IntKind} {a b : Int} (h : a = b) : Ending.returned (.int k a) = .returned (.int k b) := by rw [h]
theorem two_cell {w : World} {p : Nat} {a b : Value} {t : TypeId} (h : w.heap[p]? = some (.cells #[a, b] t (0, 0))) :
    w.cell? ⟨p, 0, none⟩ = some a ∧ w.cell? ⟨p, 1, none⟩ = some b ∧ w.frozen? ⟨p, 0, none⟩ = false ∧ w.frozen? ⟨p, 1, none⟩ = false := by
  simp [World.cell?, World.frozen?, h]
/-- Of the blocks of w only those of S may have changed. -/
structure Touch (S : Nat → Prop) (w w' : World) : Prop where
  os : w'.os = w.os
  tape : w'.tape = w.tape
  output : w'.output = w.output
  size : w.heap.size ≤ w'.heap.size
  block : ∀ k, k < w.heap.size → ¬ S k → w'.heap[k]? = w.heap[k]?
theorem Touch.refl (S : Nat → Prop) (w : World) : Touch S w w := ⟨rfl, rfl, rfl, Nat.le_refl _, fun _ _ _ => rfl⟩
theorem Touch.trans {S : Nat → Prop} {a b c : World} (h : Touch S a b) (k : Touch S b c) : Touch S a c :=
  ⟨k.os.trans h.os, k.tape.trans h.tape, k.output.trans h.output, Nat.le_trans h.size k.size, fun i hi hs => (k.block i (Nat.lt_of_lt_of_le hi h.size) hs).trans (h.block i hi hs)⟩
/-- The second step may also touch what the first one has made. -/
theorem Touch.trans' {S T : Nat → Prop} {a b c : World} (h : Touch S a b) (k : Touch T b c) (hT : ∀ i, T i → i < a.heap.size → S i) : Touch S a c :=
  ⟨k.os.trans h.os, k.tape.trans h.tape, k.output.trans h.output, Nat.le_trans h.size k.size, fun i hi hs => (k.block i (Nat.lt_of_lt_of_le hi h.size) (fun ht => hs (hT i ht hi))).trans (h.block i hi hs)⟩
theorem Touch.mono {S T : Nat → Prop} {a b : World} (h : Touch S a b) (hT : ∀ i, S i → T i) : Touch T a b :=
  ⟨h.os, h.tape, h.output, h.size, fun i hi hs => h.block i hi fun s => hs (hT i s)⟩
theorem Touch.drewN {S : Nat → Prop} {a w : World} (h : Touch S a w) (n : Nat) : Touch S a (w.drewN n) := ⟨h.os, h.tape, h.output, h.size, h.block⟩
theorem Touch.drew {S : Nat → Prop} {a w : World} (h : Touch S a w) : Touch S a w.drew := ⟨h.os, h.tape, h.output, h.size, h.block⟩
theorem Touch.alloc {S : Nat → Prop} {a w : World} (h : Touch S a w) (o : Obj) : Touch S a (w.alloc o) :=
  h.trans ⟨rfl, rfl, rfl, by simp, fun k hk _ => Below.heap_alloc _ _ _ hk⟩
theorem Touch.setCell {S : Nat → Prop} {a w : World} (h : Touch S a w) (p : Addr) (u : Value) (hp : S p.block ∨ a.heap.size ≤ p.block) : Touch S a (w.setCell p u) :=
  ⟨h.os, h.tape, h.output, Nat.le_trans h.size (by simp [World.setCell]), fun k hk hs => (Below.heap_setCell _ _ _ _ (fun e => by subst e; rcases hp with hp | hp; exact hs hp; omega)).trans (h.block k hk hs)⟩
theorem Touch.grown {S : Nat → Prop} {a w w' : World} {row : Option Nat} (h : Touch S a w) (hg : w.grownBy w' row) (hr : ∀ k, row = some k → S k ∨ a.heap.size ≤ k) : Touch S a w' :=
  ⟨hg.os.trans h.os, hg.tape.trans h.tape, hg.output.trans h.output, Nat.le_trans h.size hg.size, fun k hk hs =>
    (hg.block k (Nat.lt_of_lt_of_le hk h.size) (fun e => by rcases hr k e.symm with hp | hp; exact hs hp; omega)).trans (h.block k hk hs)⟩
theorem Touch.below {S : Nat → Prop} {a b : World} {B : Nat} (h : Touch S a b) (hB : B ≤ a.heap.size) (hS : ∀ k, S k → B ≤ k) : Below B a b :=
  ⟨h.os, h.tape, h.output, h.size, fun k hk => h.block k (by omega) fun s => by have := hS k s; omega⟩
theorem ownsRow_touch {S : Nat → Prop} {w w' : World} {base : Nat} {e : TypeId} {size : Nat} {v : Value} {n : Nat} {xs : List Value} (h : w.ownsRow base e size v n xs) (ht : Touch S w w') (hs : ∀ k, v.ownBlock = some k → ¬ S k) : w'.ownsRow base e size v n xs := by
  refine ⟨h.1, ?_⟩
  rcases h.2 with hn | ⟨g, cap, cur, rfl, hb, hgg, rest⟩
  · exact .inl hn
  · refine .inr ⟨g, cap, cur, rfl, hb, ?_, rest⟩
    rw [ht.block g (Array.getElem?_eq_some_iff.1 hgg).1 (hs g (by simp [Value.ownBlock]))]
    exact hgg
theorem own_shape {w : World} {base : Nat} {e : TypeId} {size : Nat} {v : Value} {n : Nat} {xs : List Value} (h : w.ownsRow base e size v n xs) : ∃ a c, v = .slice a n c := by
  rcases h.2 with ⟨rfl, rfl⟩ | ⟨g, cap, cur, rfl, _⟩
  · exact ⟨_, _, rfl⟩
  · exact ⟨_, _, rfl⟩
theorem own_base {w : World} {base base' : Nat} {e : TypeId} {size : Nat} {v : Value} {n : Nat} {xs : List Value} (h : w.ownsRow base e size v n xs) (hb : base' ≤ base) : w.ownsRow base' e size v n xs := by
  refine ⟨h.1, ?_⟩
  rcases h.2 with h2 | ⟨g, cap, cur, hv, hg, r⟩
  · exact .inl h2
  · exact .inr ⟨g, cap, cur, hv, Nat.le_trans hb hg, r⟩
/-- How many of the lengths are n (none of 0). -/
def cn (ls : List Nat) (n : Nat) : Nat := if n = 0 then 0 else ls.count n
/-- How many codes are shorter than n. -/
def fp (ls : List Nat) : Nat → Nat
  | 0 => 0
  | n + 1 => fp ls n + cn ls n
/-- The room of the codes that are shorter than n. -/
def sp (ls : List Nat) : Nat → Nat
  | 0 => 0
  | n + 1 => sp ls n + cn ls n * 2 ^ (15 - n)
def ln (ls : List Nat) (s : Nat) : Nat := ls.getD s 0
/-- All room. -/
def room (ls : List Nat) : Nat := sp ls 16
theorem sp_mono (ls : List Nat) {m n : Nat} (h : m ≤ n) : sp ls m ≤ sp ls n := by
  induction n with
  | zero => obtain rfl : m = 0 := by omega
            exact Nat.le_refl _
  | succ n ih =>
    by_cases e : m = n + 1
    · subst e; exact Nat.le_refl _
    · have := ih (by omega)
      rw [sp]; omega

theorem Touch.setRow {S : Nat → Prop} {a w : World} (h : Touch S a w) (g : Nat) (cs : Array Value) (hp : S g ∨ a.heap.size ≤ g) : Touch S a (w.setRow g cs) :=
  ⟨h.os, h.tape, h.output, Nat.le_trans h.size (by simp), fun k hk hs => (setRow_other w g k cs (fun e => by subst e; rcases hp with hp | hp; exact hs hp; omega)).trans (h.block k hk hs)⟩
theorem Touch.of_below {S : Nat → Prop} {a b : World} (h : Below a.heap.size a b) : Touch S a b := ⟨h.os, h.tape, h.output, h.size, fun k hk _ => h.block k hk⟩
theorem below_drewN {B : Nat} {a w : World} (h : Below B a w) (q : Nat) : Below B a (w.drewN q) := ⟨h.os, h.tape, h.output, h.size, h.block⟩
theorem below_drew {B : Nat} {a w : World} (h : Below B a w) : Below B a w.drew := ⟨h.os, h.tape, h.output, h.size, h.block⟩

/-- Block g is just these cells. -/
def Blk (w : World) (g : Nat) (t : TypeId) (cs : Array Value) : Prop := w.heap[g]? = some (.cells cs t (0, 0))

theorem Blk.lt {w : World} {g : Nat} {t : TypeId} {cs : Array Value} (h : Blk w g t cs) : g < w.heap.size := by
  rcases Nat.lt_or_ge g w.heap.size with hlt | hge
  · exact hlt
  · rw [Blk, Array.getElem?_eq_none hge] at h; cases h
theorem Blk.cell {w : World} {g : Nat} {t : TypeId} {cs : Array Value} (h : Blk w g t cs) (i : Nat) : w.cell? ⟨g, i, none⟩ = cs[i]? := cell_of_row w g i cs t (0, 0) h
theorem Blk.free {w : World} {g : Nat} {t : TypeId} {cs : Array Value} (h : Blk w g t cs) (i : Nat) : w.frozen? ⟨g, i, none⟩ = false := by
  rw [Blk] at h
  simp [World.frozen?, h]
theorem Blk.made (w : World) (t : TypeId) (cs : Array Value) : Blk (w.alloc (.cells cs t)) w.heap.size t cs := by
  show (w.heap.push _)[w.heap.size]? = _
  simp
theorem Blk.touch {S : Nat → Prop} {w w' : World} {g : Nat} {t : TypeId} {cs : Array Value} (h : Blk w g t cs) (ht : Touch S w w') (hs : ¬ S g) : Blk w' g t cs :=
  (ht.block g h.lt hs).trans h
theorem Blk.below {w w' : World} {g : Nat} {t : TypeId} {cs : Array Value} (h : Blk w g t cs) (hb : Below w.heap.size w w') : Blk w' g t cs := (hb.block g h.lt).trans h
theorem Blk.low {w w' : World} {B g : Nat} {t : TypeId} {cs : Array Value} (h : Blk w g t cs) (hb : Below B w w') (hg : g < B) : Blk w' g t cs := (hb.block g hg).trans h
theorem Blk.drewN {w : World} {g : Nat} {t : TypeId} {cs : Array Value} (h : Blk w g t cs) (q : Nat) : Blk (w.drewN q) g t cs := h
theorem Blk.setCell {w : World} {g : Nat} {t : TypeId} {cs : Array Value} (h : Blk w g t cs) (i : Nat) (u : Value) : Blk (w.setCell ⟨g, i, none⟩ u) g t (cs.setIfInBounds i u) := by
  rw [Blk] at h ⊢
  simp [World.setCell, Array.getElem?_modify, h]
theorem Blk.other {w : World} {g g' : Nat} {t : TypeId} {cs : Array Value} (h : Blk w g t cs) (i : Nat) (u : Value) (hne : g' ≠ g) : Blk (w.setCell ⟨g', i, none⟩ u) g t cs :=
  h.touch ((Touch.refl (fun k => k = g') w).setCell ⟨g', i, none⟩ u (.inl rfl)) fun e => hne e.symm
theorem Blk.setRow {w : World} {g : Nat} {t : TypeId} {cs : Array Value} (h : Blk w g t cs) (u : Array Value) : Blk (w.setRow g u) g t u := setRow_heap w g cs u t (0, 0) h

/-- A row of n cells, told by a function. -/
def va (n : Nat) (F : Nat → Value) : Array Value := ((List.range n).map F).toArray
theorem va_size (n : Nat) (F : Nat → Value) : (va n F).size = n := by simp [va]
theorem va_at (n : Nat) (F : Nat → Value) (i : Nat) (h : i < n) : (va n F)[i]? = some (F i) := by simp [va, h]
theorem va_congr {n : Nat} {F G : Nat → Value} (h : ∀ i, i < n → F i = G i) : va n F = va n G := by
  unfold va
  congr 1
  apply List.map_congr_left
  intro i hi
  rw [h i (List.mem_range.1 hi)]
theorem va_set (n : Nat) (F : Nat → Value) (k : Nat) (u : Value) : (va n F).setIfInBounds k u = va n fun i => if i = k then u else F i := by
  apply Array.ext
  · simp [va]
  · intro i h1 h2
    rw [Array.getElem_setIfInBounds (by simpa [va] using h2)]
    simp only [va, List.getElem_toArray, List.getElem_map, List.getElem_range]
    by_cases h : k = i
    · subst h; simp
    · have h' : ¬ i = k := fun e => h e.symm
      simp [h, h']
theorem va_replicate (n : Nat) (u : Value) : Array.replicate n u = va n fun _ => u := by
  apply Array.ext
  · simp [va]
  · intro i h1 h2
    simp [va]
theorem va_made (z : Array Value) (n : Nat) : madeCells z n = va n (fun i => z[i % z.size]!) := by
  apply Array.ext
  · simp [va, madeCells]
  · intro i h1 h2
    simp [va, madeCells]
/-- A row of n integers. -/
abbrev ia (n : Nat) (f : Nat → Nat) : Array Value := va n fun i => .int .i64 (f i : Nat)
theorem ia_one (n : Nat) (f : Nat → Nat) : (ia n f).all (·.oneCell') = true := by
  rw [Array.all_eq_true_iff_forall_mem]
  intro v hv
  simp [ia, va] at hv
  obtain ⟨i, _, rfl⟩ := hv
  rfl
theorem ia_set (n : Nat) (f g : Nat → Nat) (k x : Nat) (h : ∀ i, i < n → g i = if i = k then x else f i) : (ia n f).setIfInBounds k (.int .i64 (x : Nat)) = ia n g := by
  rw [va_set]
  refine va_congr fun i hi => ?_
  rw [h i hi]
  split <;> rfl

/-! ### Whole rows by value, at a plain region's operations -/
section
variable {P : Program} {ops : Array Oper} {rest : List Oper} {o : Oper} {a : Act} {w : World} {Q : Exit → Act → World → Prop}

/-- A variable of a type whose zero value is known. -/
theorem wpList_alloc_z (hgd : o.guard = none) (t : TypeId) (ho : o.op = .alloc t) (z : Array Value) (hz : ∀ W, (zeroValue t).run P W = .ok (.agg z) W)
    (h : ∀ W, Blk W w.heap.size t z → Touch (fun _ => False) w W → W.heap.size = w.heap.size + 1 → wpList P ops Q rest (a.put o.dst (.pointer (some ⟨w.heap.size, 0, none⟩))) W) : wpList P ops Q (o :: rest) a w := by
  have hr : (Instr.alloc t true (.tuple #[])).run P w = .ok (.pointer (some ⟨w.heap.size, 0, none⟩)) (w.alloc (.cells z t)) := by
    simp [Instr.alloc, hz, newVar, newRow, Value.cells, go_sem]
  refine wpList_plain hgd fun K hK => ?_
  unfold Oper.wp execOp
  simp only [ho, Sem.run_bind, Sem.run_pure, hr, Result.andThen_ok]
  exact hK _ _ (h _ (Blk.made w t z) ((Touch.refl _ w).alloc _) (by simp))

/-- A value of many cells goes into a new variable. -/
theorem wpList_box_row (hgd : o.guard = none) (t : TypeId) (x : Operand) (ho : o.op = .box t x) (z : Array Value) (hx : a.eval x = .agg z)
    (h : ∀ W, Blk W w.heap.size t z → Touch (fun _ => False) w W → W.heap.size = w.heap.size + 1 → wpList P ops Q rest (a.put o.dst (.pointer (some ⟨w.heap.size, 0, none⟩))) W) : wpList P ops Q (o :: rest) a w := by
  have hr : (Instr.box t (.agg z)).run P w = .ok (.pointer (some ⟨w.heap.size, 0, none⟩)) (w.alloc (.cells z t)) := by
    simp [Instr.box, newVar, newRow, Value.cells, go_sem]
  refine wpList_plain hgd fun K hK => ?_
  unfold Oper.wp execOp
  simp only [ho, hx, Sem.run_bind, Sem.run_pure, hr, Result.andThen_ok]
  exact hK _ _ (h _ (Blk.made w t z) ((Touch.refl _ w).alloc _) (by simp))

/-- A whole row, read. -/
theorem wpList_load_row (hgd : o.guard = none) (t : TypeId) (x : Operand) (ho : o.op = .load t x) (g : Nat) (hx : a.eval x = .pointer (some ⟨g, 0, none⟩)) (ty : TypeId) (cs : Array Value) (hb : Blk w g ty cs)
    (n : Nat) (e : TypeId) (hu : P.underlying t = some (.array n e)) (hi : (P.info? t).map (·.size) = some cs.size)
    (h : wpList P ops Q rest (a.put o.dst (.agg cs)) w) : wpList P ops Q (o :: rest) a w := by
  have hr : (Instr.loadAt t (.pointer (some ⟨g, 0, none⟩))).run P w = .ok (.agg cs) w := by
    simp only [Instr.loadAt, Instr.sureAddr, Sem.run_bind, Sem.run_pure, Result.andThen]
    exact run_loadVar_row w g ty t cs (0, 0) _ hb hu rfl hi
  refine wpList_plain hgd fun K hK => ?_
  unfold Oper.wp execOp
  simp only [ho, hx, Sem.run_bind, Sem.run_pure, hr, Result.andThen_ok]
  exact hK _ _ h

/-- A whole row, written. -/
theorem wpList_store_row (hgd : o.guard = none) (t : TypeId) (x y : Operand) (ho : o.op = .store t x y) (hd : o.dst = none) (g : Nat) (hx : a.eval x = .pointer (some ⟨g, 0, none⟩)) (cells : Array Value) (hy : a.eval y = .agg cells) (ty : TypeId) (old : Array Value) (hb : Blk w g ty old)
    (hi : (P.info? t).map (·.size) = some cells.size) (hsz : old.size = cells.size) (h1 : cells.all (·.oneCell') = true)
    (h : ∀ W, Blk W g ty cells → Touch (fun k => k = g) w W → W.heap.size = w.heap.size → wpList P ops Q rest a W) : wpList P ops Q (o :: rest) a w := by
  have hr : (Instr.storeAt t (.pointer (some ⟨g, 0, none⟩)) (.agg cells)).run P w = .ok () (w.setRow g cells) := by
    simp only [Instr.storeAt, Instr.sureAddr, Sem.run_bind, Sem.run_pure, Result.andThen]
    exact run_storeVar_row w g ty t old cells hb hi hsz h1
  have h' := h _ (hb.setRow cells) ((Touch.refl _ w).setRow g cells (.inl rfl)) (by simp)
  refine wpList_plain hgd fun K hK => ?_
  unfold Oper.wp execOp
  simp only [ho, hx, hy, Sem.run_bind, Sem.run_pure, hr, Result.andThen_ok]
  refine hK _ _ ?_
  rw [hd]
  exact h'

/-- One element of a row by value. -/
theorem wpList_index_row (hgd : o.guard = none) (t : TypeId) (x y : Operand) (ho : o.op = .index t x y) (cs : Array Value) (hx : a.eval x = .agg cs) (k : IntKind) (i : Nat) (hy : a.eval y = .int k i) (n : Nat) (e : TypeId) (hu : P.underlying t = some (.array n e)) (hin : i < n)
    (hag : ∀ W, (isAgg e).run P W = .ok false W) (hsz : ∀ W, (sizeOf e).run P W = .ok 1 W) (u : Value) (hu' : cs[i]? = some u)
    (h : wpList P ops Q rest (a.put o.dst u) w) : wpList P ops Q (o :: rest) a w := by
  have hr : (Instr.index t (.agg cs) (.int k i)).run P w = .ok u w := by
    simp [Instr.index, run_underlying hu, asIntOf, hin, hsz, part, hag, hu', go_sem]
  refine wpList_plain hgd fun K hK => ?_
  unfold Oper.wp execOp
  simp only [ho, hx, hy, Sem.run_bind, Sem.run_pure, hr, Result.andThen_ok]
  exact hK _ _ h

/-- A value whose build is known. -/
theorem wpList_build_z (hgd : o.guard = none) (t : TypeId) (parts : Array (Nat × Operand)) (ho : o.op = .build t parts) (hp : parts = #[]) (z : Value) (hz : ∀ W, (Instr.build t #[]).run P W = .ok z W)
    (h : wpList P ops Q rest (a.put o.dst z) w) : wpList P ops Q (o :: rest) a w := by
  subst hp
  refine wpList_plain hgd fun K hK => ?_
  unfold Oper.wp execOp
  simp [ho, hz, Result.andThen_ok]
  exact hK _ _ h

/-- A slice that is made: its block is known whole. -/
theorem wpList_make_z (hgd : o.guard = none) (t : TypeId) (l c : Operand) (ho : o.op = .makeSlice t l c) (e : TypeId) (z : Value) (size bytes n : Nat) (hu : P.underlying t = some (.slice e))
    (hin : (P.info? e).map (fun i => (i.zero, i.size, i.bytes)) = some (some z, size, bytes)) (kl kc : IntKind) (L C : Int) (hl : a.eval l = .int kl L) (hc : a.eval c = .int kc C) (hL : L = n) (hC : C = n) (hb : bytes * n ≤ 281474976710656) (h63 : n ≤ 9223372036854775807)
    (h : ∀ W, Blk W w.heap.size e (va (n * size) (fun i => z.cells[i % z.cells.size]!)) → Touch (fun _ => False) w W → W.heap.size = w.heap.size + 1 → wpList P ops Q rest (a.put o.dst (.slice (some ⟨w.heap.size, 0, none⟩) n n)) W) : wpList P ops Q (o :: rest) a w := by
  subst hL hC
  obtain ⟨i, hi, hz0, hz1, hz2⟩ := info_parts hin
  have hr := run_make (P := P) w t e i z hu hi hz0 kl kc n n (by omega) (Int.le_refl _) (by rw [hz2]; omega) (by omega)
  rw [Int.toNat_natCast, hz1, va_made] at hr
  refine wpList_plain hgd fun K hK => ?_
  unfold Oper.wp execOp
  simp only [ho, hl, hc, Sem.run_bind, Sem.run_pure, hr, Result.andThen_ok]
  exact hK _ _ (h _ (Blk.made w e _) ((Touch.refl _ w).alloc _) (by simp))
end

/-- What one cell's result hands back. -/
theorem results_cell {fn : Func} {p : Tmp} {ty : TypeId} (h : fn.results = #[.cell p ty]) (tmps : Array Value) (P : Program) (w : World) (g : Nat) (hg : tmps.getD p undef = .pointer (some ⟨g, 0, none⟩)) (t : TypeId) (cs : Array Value) (hb : Blk w g t cs)
    (n : Nat) (e : TypeId) (hu : P.underlying ty = some (.array n e)) (hi : (P.info? ty).map (·.size) = some cs.size) :
    (results fn tmps).run P w = .ok (.agg cs) w := by
  have hg' : tmps[p]?.getD undef = .pointer (some ⟨g, 0, none⟩) := by rw [← hg, Array.getD_eq_getD_getElem?]
  simp [results, h, hg', asAddr, run_loadVar_row w g t ty cs (0, 0) _ hb hu rfl hi]
/-- What a cell's result and a slot's hand back. -/
theorem results_cell2 {fn : Func} {p q : Tmp} {ty : TypeId} (h : fn.results = #[.cell p ty, .tmp q]) (tmps : Array Value) (P : Program) (w : World) (g : Nat) (hg : tmps.getD p undef = .pointer (some ⟨g, 0, none⟩)) (t : TypeId) (cs : Array Value) (hb : Blk w g t cs)
    (n : Nat) (e : TypeId) (hu : P.underlying ty = some (.array n e)) (hi : (P.info? ty).map (·.size) = some cs.size) (v : Value) (hv : tmps.getD q undef = v) :
    (results fn tmps).run P w = .ok (.tuple #[.agg cs, v]) w := by
  have hg' : tmps[p]?.getD undef = .pointer (some ⟨g, 0, none⟩) := by rw [← hg, Array.getD_eq_getD_getElem?]
  have hv' : tmps[q]?.getD undef = v := by rw [← hv, Array.getD_eq_getD_getElem?]
  simp [results, h, hg', hv', asAddr, run_loadVar_row w g t ty cs (0, 0) _ hb hu rfl hi]

/-! ### Integers that came in -/
/-- A slice's address at which these integers lie. -/
def IS (w : World) (ao : Option Addr) (zs : List Int) : Prop :=
  zs = [] ∨ ∃ b off, ao = some ⟨b, off, none⟩ ∧ ∀ j, j < zs.length → w.cell? ⟨b, off + j, none⟩ = some (.int .i64 (zs.getD j 0))
theorem IS.below {w w' : World} {ao : Option Addr} {zs : List Int} (h : IS w ao zs) (hb : Below w.heap.size w w') : IS w' ao zs := by
  rcases h with h | ⟨b, off, rfl, hc⟩
  · exact .inl h
  · exact .inr ⟨b, off, rfl, fun j hj => by
      have := hc j hj
      exact (hb.cell (World.block_lt_of_cell? w _ this)).trans this⟩
theorem IS.drewN {w : World} {ao : Option Addr} {zs : List Int} (h : IS w ao zs) (n : Nat) : IS (w.drewN n) ao zs := h.below (below_drewN (Below.refl _ _) n)
theorem IS.touch {S : Nat → Prop} {w w' : World} {ao : Option Addr} {zs : List Int} (h : IS w ao zs) (ht : Touch S w w') (hs : ∀ b off, ao = some ⟨b, off, none⟩ → zs ≠ [] → ¬ S b) : IS w' ao zs := by
  rcases h with h | ⟨b, off, rfl, hc⟩
  · exact .inl h
  · by_cases hx : zs = []
    · exact .inl hx
    · refine .inr ⟨b, off, rfl, fun j hj => ?_⟩
      have h1 := hc j hj
      rw [← h1]
      exact World.cell?_of_block (ht.block b (World.block_lt_of_cell? w _ h1) (hs b off rfl hx))
theorem IS.at {w : World} {ao : Option Addr} {zs : List Int} (h : IS w ao zs) {k : Nat} (hk : k < zs.length) : ∃ b off, ao = some ⟨b, off, none⟩ ∧ w.cell? ⟨b, off + k, none⟩ = some (.int .i64 (zs.getD k 0)) := by
  rcases h with h | ⟨b, off, rfl, hc⟩
  · rw [h] at hk; simp at hk
  · exact ⟨b, off, rfl, hc k hk⟩

/-- Lengths as numbers. -/
def nat (zs : List Int) : List Nat := zs.map Int.toNat
theorem nat_len (zs : List Int) : (nat zs).length = zs.length := by simp [nat]
/-- Lengths that are 0 to 15, and not more than 320. -/
structure Vd (zs : List Int) : Prop where
  len : zs.length ≤ 320
  all : ∀ z ∈ zs, 0 ≤ z ∧ z ≤ 15
theorem getD_mem {zs : List Int} {k : Nat} (hk : k < zs.length) : zs.getD k 0 ∈ zs := by
  rw [List.getD_eq_getElem?_getD, List.getElem?_eq_getElem hk]
  exact List.getElem_mem hk
theorem nat_ln (zs : List Int) (k : Nat) : ln (nat zs) k = (zs.getD k 0).toNat := by
  unfold ln nat
  rcases Nat.lt_or_ge k zs.length with h | h <;> simp [List.getD, h]
theorem Vd.ln {zs : List Int} (h : Vd zs) {k : Nat} (hk : k < zs.length) : zs.getD k 0 = (YtnnkegpnjedneaaDoor.Z.ln (nat zs) k : Nat) ∧ YtnnkegpnjedneaaDoor.Z.ln (nat zs) k ≤ 15 := by
  have := h.all _ (getD_mem hk)
  rw [nat_ln]
  omega

end Go.Proofs.YtnnkegpnjedneaaDoor.Z


/-
  Append onto a row of the call's own; the lengths of each kind, their room; integers copied and compared.
-/
namespace Go.Proofs.YtnnkegpnjedneaaDoor.Z
open Go.RowKit
set_option maxRecDepth 100000

theorem Touch.none_below {a b : World} (h : Touch (fun _ => False) a b) : Below a.heap.size a b := h.below (Nat.le_refl _) fun _ h => h.elim
theorem ownsRow_below {w w' : World} {base : Nat} {e : TypeId} {size : Nat} {v : Value} {n : Nat} {xs : List Value} (h : w.ownsRow base e size v n xs) (hb : Below w.heap.size w w') : w'.ownsRow base e size v n xs :=
  ownsRow_touch h (Touch.of_below (S := fun _ => False) hb) fun _ _ h => h
theorem own_none (w : World) (e size : Nat) : (w.alloc (.cells #[] e)).ownsRow w.heap.size e size (.slice (some ⟨w.heap.size, 0, none⟩) 0 0) 0 [] :=
  World.ownsRow_made w #[] 0 (Nat.le_refl _) (Nat.zero_le _) (by simp)

/-- Behind an append: the row is owned; only the old row may have been written; the new row is the old one or a new one. -/
structure Apg (w : World) (base e sz : Nat) (v : Value) (n : Nat) (xs : List Value) (v' : Value) (w' : World) : Prop where
  own : w'.ownsRow base e sz v' n xs
  touch : Touch (fun k => v.ownBlock = some k) w w'
  row : ∀ k, v'.ownBlock = some k → v.ownBlock = some k ∨ w.heap.size ≤ k

theorem Apg.trans {a b c : World} {base e sz n m : Nat} {v1 v2 v3 : Value} {xs ys : List Value} (h : Apg a base e sz v1 n xs v2 b) (k : Apg b base e sz v2 m ys v3 c) : Apg a base e sz v1 m ys v3 c := by
  refine ⟨k.own, h.touch.trans' k.touch fun i hi hlt => ?_, fun i hi => ?_⟩
  · rcases h.row i hi with h1 | h1
    · exact h1
    · omega
  · rcases k.row i hi with h1 | h1
    · exact h.row i h1
    · right; have := h.touch.size; omega
theorem Apg.alloc {a b : World} {base e sz n : Nat} {v1 v2 : Value} {xs : List Value} {o : Obj} (k : Apg (a.alloc o) base e sz v1 n xs v2 b) : Apg a base e sz v1 n xs v2 b :=
  ⟨k.own, ((Touch.refl _ a).alloc o).trans k.touch, fun i hi => by
    rcases k.row i hi with h | h
    · exact .inl h
    · right; simp at h; omega⟩
theorem Apg.below {a b : World} {base e sz n : Nat} {v1 v2 : Value} {xs ys : List Value} {m : Nat} (k : Apg a base e sz v1 n xs v2 b) (h : a.ownsRow base e sz v1 m ys) (hb : base ≤ a.heap.size) : Below base a b :=
  k.touch.below hb fun i hi => (h.lt i hi).1

/-- A slice value whose cells are these, m elements. -/
def CellsAt (w : World) (sv : Value) (m : Nat) (ys : List Value) : Prop :=
  (sv = .slice none 0 0 ∧ m = 0 ∧ ys = []) ∨ ∃ ad c, sv = .slice (some ad) m c ∧ ∀ j u, ys[j]? = some u → w.cell? (ad.add j) = some u

/-- What append wants to know of a slice type. -/
structure AT (t e : Nat) (z : Value) (size bytes : Nat) : Prop where
  hu : Tryd.prog.underlying t = some (.slice e)
  info : (Tryd.prog.info? e).map (fun i => (i.zero, i.size, i.bytes)) = some (some z, size, bytes)
  zs : z.cells.size = size
  pos : 0 < size

theorem run_append_g {t e : Nat} {z : Value} {size bytes : Nat} (T : AT t e z size bytes) (w : World) {base : Nat} {v sv : Value} {n m : Nat} {xs ys : List Value} (ty : TypeId) (hown : w.ownsRow base e size v n xs) (hs : CellsAt w sv m ys)
    (hyl : ys.length = m * size) (h1 : ∀ u ∈ ys, u.oneCell' = true) (hbase : base ≤ w.heap.size) (hl : n + m ≤ 140737488355328) (hby : (n + m) * bytes ≤ 140737488355328) :
    ∃ v' w', (Builtin.append_ #[t, t] ty #[v, sv]).run Tryd.prog w = .ok v' w' ∧ Apg w base e size v (n + m) (xs ++ ys) v' w' := by
  obtain ⟨i0, hi, hz0, hz1, hz2⟩ := info_parts T.info
  rcases hs with ⟨rfl, rfl, rfl⟩ | ⟨ad, c, rfl, hcell⟩
  · refine ⟨v, w, run_append_owned_none w base t ty e i0 size T.hu hi v n xs hown, ?_, Touch.refl _ _, fun k hk => .inl hk⟩
    simpa using hown
  · rcases hown.2 with ⟨rfl, hn0⟩ | ⟨g, cap, cur, rfl, hbg, hh, hnc, hcm, hcs, htake⟩
    · subst hn0
      have hx : xs = [] := List.eq_nil_of_length_eq_zero (by rw [hown.1, Nat.zero_mul])
      subst hx
      obtain ⟨v', w', hr, ho, hg, _⟩ := run_append_own (P := Tryd.prog) w w.heap.size t ty e i0 z size bytes T.hu hi hz0 hz1 hz2 T.zs T.pos (.slice none 0 0) 0 [] (World.ownsRow_nil _ _ _ _) ad m c ys hyl hcell h1 (by unfold maxLen; omega) hby (Nat.le_refl _)
      exact ⟨v', w', hr, own_base ho hbase, (Touch.refl _ w).grown hg fun k hk => by simp [Value.ownBlock] at hk, fun k hk => .inr (ho.lt k hk).1⟩
    · by_cases hroom : n + m ≤ cap
      · obtain ⟨w', hr, ho, hg⟩ := run_append_fits (P := Tryd.prog) w base t ty e i0 size T.hu hi hz1 g n cap xs hown ad m c ys hyl hcell h1 hroom
        exact ⟨_, w', hr, ho, (Touch.refl _ w).grown hg fun k hk => .inl (by cases hk; simp [Value.ownBlock]), fun k hk => .inl (by simpa [Value.ownBlock] using hk)⟩
      · obtain ⟨v', w', hr, ho, hg⟩ := run_append_arg_grows (P := Tryd.prog) w t ty e i0 z size bytes T.hu hi hz0 hz1 hz2 T.zs T.pos ⟨g, 0, none⟩ n cap xs hown.1 (hown.cells (by simp [Value.ownBlock])) ad m c ys hyl hcell (by omega) (by unfold maxLen; omega) hby
        exact ⟨v', w', hr, own_base ho hbase, (Touch.refl _ w).grown hg (fun k hk => by cases hk), fun k hk => .inr (ho.lt k hk).1⟩

theorem wpList_append_g {t e : Nat} {z : Value} {size bytes : Nat} (T : AT t e z size bytes) {w : World} {ops : Array Oper} {rest : List Oper} {o : Oper} {a : Act} {Q : Exit → Act → World → Prop} (hgd : o.guard = none) (s x : Operand)
    (ho : o.op = .call { callee := .builtin .append, args := #[s, x], argTypes := #[t, t] })
    (base : Nat) (v sv : Value) (n m : Nat) (xs ys : List Value) (hs : a.eval s = v) (hx : a.eval x = sv) (hown : w.ownsRow base e size v n xs) (hsrc : CellsAt w sv m ys)
    (hyl : ys.length = m * size) (h1 : ∀ u ∈ ys, u.oneCell' = true) (hbase : base ≤ w.heap.size) (hl : n + m ≤ 140737488355328) (hby : (n + m) * bytes ≤ 140737488355328)
    (h : ∀ ao c w', Apg w base e size v (n + m) (xs ++ ys) (.slice ao (n + m) c) w' → wpList Tryd.prog ops Q rest (a.put o.dst (.slice ao (n + m) c)) w') : wpList Tryd.prog ops Q (o :: rest) a w := by
  refine wpList_plain hgd fun K hK => ?_
  obtain ⟨v', w', hrun, hA⟩ := run_append_g T w o.type hown hsrc hyl h1 hbase hl hby
  obtain ⟨ao, c, rfl⟩ := own_shape hA.own
  unfold Oper.wp
  simp [execOp, ho, resolve, invoke, builtin, hs, hx, hrun, Result.andThen]
  exact hK _ _ (by simpa using h ao c w' hA)


/-- A row of integers. -/
def iv (zs : List Int) : List Value := zs.map fun z => .int .i64 z
theorem iv_len (zs : List Int) : (iv zs).length = zs.length := by simp [iv]
theorem iv_one (zs : List Int) : ∀ u ∈ iv zs, u.oneCell' = true := by
  intro u hu
  obtain ⟨_, _, rfl⟩ := List.mem_map.1 hu
  rfl
theorem iv_app (a b : List Int) : iv a ++ iv b = iv (a ++ b) := by simp [iv]
theorem iv_at (zs : List Int) (j : Nat) (h : j < zs.length) : (iv zs)[j]? = some (.int .i64 (zs.getD j 0)) := by simp [iv, h, List.getD]
theorem at22 : AT 29 3 (.int .i64 0) 1 8 := ⟨by kernel_rfl, by kernel_rfl, rfl, by omega⟩
/-- Integers that came in, as append wants them. -/
theorem IS.cells {w : World} {ao : Option Addr} {zs : List Int} {c : Nat} (h : IS w ao zs) (hn : zs = [] → ao = none → c = 0) : CellsAt w (.slice ao zs.length c) zs.length (iv zs) := by
  rcases h with rfl | ⟨b, off, rfl, hc⟩
  · cases ao with
    | none => exact .inl ⟨by rw [hn rfl rfl]; rfl, rfl, rfl⟩
    | some ad => exact .inr ⟨ad, c, rfl, fun j u hu => by simp [iv] at hu⟩
  · refine .inr ⟨_, c, rfl, fun j u hu => ?_⟩
    have hj : j < zs.length := by
      have := (List.getElem?_eq_some_iff.1 hu).1
      rwa [iv_len] at this
    rw [Addr.add_lit, hc j hj, ← hu, iv_at zs j hj]
theorem own_is {w : World} {base : Nat} {ao : Option Addr} {c n : Nat} {zs : List Int} (h : w.ownsRow base 3 1 (.slice ao n c) n (iv zs)) (hn : zs.length = n) : IS w ao zs := by
  subst hn
  rcases h.2 with ⟨e, h0⟩ | ⟨g, cap, cur, e, hbg, hh, hnc, hcm, hcs, htake⟩
  · exact .inl (List.eq_nil_of_length_eq_zero h0)
  · simp only [Value.slice.injEq] at e
    obtain ⟨rfl, _, rfl⟩ := e
    refine .inr ⟨g, 0, rfl, fun j hj => ?_⟩
    rw [Nat.zero_add, World.ownsRow.cellAt h j (by omega), iv_at zs j hj]
theorem blk_is {w : World} {g n : Nat} {f : Nat → Nat} (h : Blk w g 3 (ia n f)) (zs : List Int) (hn : zs.length = n) (hf : ∀ j, j < n → zs.getD j 0 = (f j : Nat)) : IS w (some ⟨g, 0, none⟩) zs :=
  .inr ⟨g, 0, rfl, fun j hj => by rw [Nat.zero_add, h.cell, va_at n _ j (by omega), hf j (by omega)]⟩

theorem z61 : ∀ W, (zeroValue 72).run Tryd.prog W = .ok (.agg (ia 16 fun _ => 0)) W := by
  intro W
  rw [show ia 16 (fun _ => 0) = Array.replicate 16 (.int .i64 0) from (va_replicate 16 _).symm]
  kernel_rfl
theorem b61 : ∀ W, (Instr.build 72 #[]).run Tryd.prog W = .ok (.agg (ia 16 fun _ => 0)) W := by
  intro W
  rw [show ia 16 (fun _ => 0) = Array.replicate 16 (.int .i64 0) from (va_replicate 16 _).symm]
  kernel_rfl
theorem i61 {F : Nat → Value} : (Tryd.prog.info? 72).map (·.size) = some (va 16 F).size := by rw [va_size]; kernel_rfl
theorem a3 : ∀ W, (isAgg 3).run Tryd.prog W = .ok false W := fun _ => by kernel_rfl
theorem s3 : ∀ W, (sizeOf 3).run Tryd.prog W = .ok 1 W := fun _ => by kernel_rfl

/-- Two rows of the call's own. -/
structure Two (w : World) (p q : Nat) (B C : Array Value) (wr : World) : Prop where
  b : Blk wr p 72 B
  c : Blk wr q 72 C
  below : Below w.heap.size w wr
  lo : w.heap.size ≤ p ∧ p < q
theorem Two.grow {w wr w' : World} {p q : Nat} {B C : Array Value} (h : Two w p q B C wr) (hb : Below wr.heap.size wr w') : Two w p q B C w' :=
  ⟨h.b.below hb, h.c.below hb, h.below.trans (hb.mono h.below.size), h.lo⟩
theorem Two.setC {w wr : World} {p q : Nat} {B C : Array Value} (h : Two w p q B C wr) (i : Nat) (u : Value) : Two w p q B (C.setIfInBounds i u) (wr.setCell ⟨q, i, none⟩ u) := by
  have := h.lo
  exact ⟨h.b.other i u (by omega), h.c.setCell i u, h.below.setCell (by show w.heap.size ≤ q; omega) _, h.lo⟩
theorem Two.setB {w wr W : World} {p q : Nat} {B B' C : Array Value} (h : Two w p q B C wr) (hb : Blk W p 72 B') (ht : Touch (fun k => k = p) wr W) : Two w p q B' C W := by
  have := h.lo
  exact ⟨hb, h.c.touch ht (by omega), h.below.trans (ht.below h.below.size fun k hk => by omega), h.lo⟩

def hist (zs : List Int) (k n : Nat) : Nat := (nat (zs.take k)).count n
theorem hist_le (zs : List Int) (k n : Nat) : hist zs k n ≤ k := by
  unfold hist
  refine Nat.le_trans List.count_le_length ?_
  rw [nat_len, List.length_take]; omega
theorem hist_step {zs : List Int} {k x : Nat} (hk : k < zs.length) (hx : zs.getD k 0 = (x : Int)) (i : Nat) : hist zs (k + 1) i = if i = x then hist zs k x + 1 else hist zs k i := by
  unfold hist
  rw [List.take_succ_eq_append_getElem hk, show zs[k] = (x : Int) by rw [← hx]; simp [List.getD, hk], nat, List.map_append, List.count_append]
  show (nat (zs.take k)).count i + [x].count i = _
  by_cases h : i = x
  · subst h; simp
  · rw [if_neg h, List.count_singleton]; simp [Ne.symm h]
theorem hist_all {zs : List Int} (f : Nat → Nat) (hf : ∀ i, f i = if i = 0 then 0 else hist zs zs.length i) (i : Nat) : f i = cn (nat zs) i := by
  rw [hf]; unfold hist cn
  rw [List.take_length]

def CountNo (w : World) (e : Ending) (w' : World) : Prop := e = .returned (.tuple #[.agg (ia 16 fun _ => 0), .bool false]) ∧ Below w.heap.size w w'
def CountYes (zs : List Int) (w : World) (e : Ending) (w' : World) : Prop := e = .returned (.tuple #[.agg (ia 16 (cn (nat zs))), .bool true]) ∧ Below w.heap.size w w'
def CountBoth (zs : List Int) (w : World) (e : Ending) (w' : World) : Prop := (Vd zs → CountYes zs w e w') ∧ (¬ Vd zs → CountNo w e w')

set_option maxHeartbeats 800000 in
theorem count_long (ao : Option Addr) (L c : Nat) (w : World) (hl : 320 < L) :
    Calls Tryd.prog 35 #[.slice ao L c] w (CountNo w) := by
  have hl' : (320 : Int) < L := by omega
  go_enter Tryd.func35, Tryd.ntmps35
  go_upto_region 2 with (refine wpList_alloc_z rfl 72 rfl _ z61 ?_; intro W hb ht hs; have HS := Lib.hid hs; clear hs)
  rename_i W1 hb1 ht1 HS1 K1 hK1 K0 hK0
  obtain ⟨p, hp⟩ : ∃ p, p = w.heap.size := ⟨_, rfl⟩
  obtain ⟨q, hq⟩ : ∃ q, q = W1.heap.size := ⟨_, rfl⟩
  have H3 : Hid (Two w p q (ia 16 fun _ => 0) (ia 16 fun _ => 0) W) := by
    subst hp hq
    have h1 := HS1.out
    exact Lib.hid ⟨hb1.touch ht (fun h => h), hb, (ht1.trans ht).below (Nat.le_refl _) (fun _ h => h.elim), by omega, by omega⟩
  rw [← hp, ← hq]
  clear hp hq hb1 ht1 HS1 hb ht HS
  go_wp2_with (first
    | (refine wpList_load_row rfl 72 (.tmp 4) rfl q rfl 72 _ H3.out.c 16 3 Tryd.underlying72 i61 ?_)
    | (refine wpList_store_row rfl 72 (.tmp 2) (.tmp 10) rfl rfl p rfl _ rfl 72 _ H3.out.b i61 (by simp only [va_size]) (ia_one 16 _) ?_; intro W4 hb4 ht4 hs4; have HB := Lib.hid (H3.out.setB hb4 ht4); clear hb4 ht4 hs4))
  exact bodyPost_ret (results_cell2 Tryd.results35 _ _ _ p rfl 72 _ HB.out.b 16 3 Tryd.underlying72 i61 _ rfl) rfl ⟨rfl, HB.out.below⟩

set_option maxHeartbeats 1600000 in
theorem count_any (ao : Option Addr) (c : Nat) (zs : List Int) (w : World) (h : IS w ao zs) (hl : zs.length ≤ 320) :
    Calls Tryd.prog 35 #[.slice ao zs.length c] w (CountBoth zs w) := by
  have HI := Lib.hid h
  clear h
  have hl' : (zs.length : Int) ≤ 320 := by omega
  go_enter Tryd.func35, Tryd.ntmps35
  go_upto_region 2 with (refine wpList_alloc_z rfl 72 rfl _ z61 ?_; intro W hb ht hs; have HS := Lib.hid hs; clear hs)
  rename_i W1 hb1 ht1 HS1 K1 hK1 K0 hK0
  obtain ⟨p, hp⟩ : ∃ p, p = w.heap.size := ⟨_, rfl⟩
  obtain ⟨q, hq⟩ : ∃ q, q = W1.heap.size := ⟨_, rfl⟩
  have H3 : Hid (Two w p q (ia 16 fun _ => 0) (ia 16 fun _ => 0) W) := by
    subst hp hq
    have h1 := HS1.out
    exact Lib.hid ⟨hb1.touch ht (fun h => h), hb, (ht1.trans ht).below (Nat.le_refl _) (fun _ h => h.elim), by omega, by omega⟩
  rw [← hp, ← hq]
  clear hp hq hb1 ht1 HS1 hb ht HS
  go_wp2
  go_loopw [13] (fun i wr => ∃ k : Nat, k ≤ zs.length ∧ i = .int .i64 k ∧ (∀ j, j < k → 0 ≤ zs.getD j 0 ∧ zs.getD j 0 ≤ 15) ∧ Two w p q (ia 16 fun _ => 0) (ia 16 (hist zs k)) wr) (fun i _ => zs.length - (intOf i).toNat)
  case atStart => exact ⟨0, Nat.zero_le _, rfl, fun j hj => absurd hj (Nat.not_lt_zero j), H3.out⟩
  case round =>
    obtain ⟨k, hk, rfl, hgood, hrel⟩ := hrel
    have HR := Lib.hid hrel
    have HG := Lib.hid hgood
    clear hrel hgood H3
    by_cases hlt : k < zs.length
    · have hkk : (k : Int) < zs.length := by omega
      obtain ⟨b, off, rfl, hcell⟩ := (HI.out.below HR.out.below).at hlt
      obtain ⟨x, hx⟩ : ∃ x, x = zs.getD k 0 := ⟨_, rfl⟩
      have HX := Lib.hid hx
      rw [← hx] at hcell
      clear hx
      by_cases hbad : x < 0 ∨ 15 < x
      · have hb' : decide (x < 0) = false → decide (15 < x) = true := by
          intro h; simp at h ⊢; omega
        have hno : Hid (¬ Vd zs) := Lib.hid fun v => by
          have := v.all _ (getD_mem hlt)
          rw [← HX.out] at this
          omega
        rcases hbad with hbad | hbad
        · go_wp2_with (first
            | (refine wpList_build_z rfl 72 _ rfl rfl _ b61 ?_)
            | (refine wpList_store_row rfl 72 (.tmp 2) (.tmp 23) rfl rfl p rfl _ rfl 72 _ HR.out.b i61 (by simp only [va_size]) (ia_one 16 _) ?_; intro W4 hb4 ht4 hs4; have HB := Lib.hid (HR.out.setB hb4 ht4); clear hb4 ht4 hs4))
          exact bodyPost_ret (results_cell2 Tryd.results35 _ _ _ p rfl 72 _ HB.out.b 16 3 Tryd.underlying72 i61 _ rfl) rfl ⟨fun v => absurd v hno.out, fun _ => ⟨rfl, HB.out.below⟩⟩
        · have hpos : 0 ≤ x := by omega
          go_wp2_with (first
            | (refine wpList_build_z rfl 72 _ rfl rfl _ b61 ?_)
            | (refine wpList_store_row rfl 72 (.tmp 2) (.tmp 23) rfl rfl p rfl _ rfl 72 _ HR.out.b i61 (by simp only [va_size]) (ia_one 16 _) ?_; intro W4 hb4 ht4 hs4; have HB := Lib.hid (HR.out.setB hb4 ht4); clear hb4 ht4 hs4))
          exact bodyPost_ret (results_cell2 Tryd.results35 _ _ _ p rfl 72 _ HB.out.b 16 3 Tryd.underlying72 i61 _ rfl) rfl ⟨fun v => absurd v hno.out, fun _ => ⟨rfl, HB.out.below⟩⟩
      · obtain ⟨n, rfl⟩ : ∃ n : Nat, x = (n : Int) := ⟨x.toNat, by omega⟩
        have hn : n ≤ 15 := by omega
        have hn16 : n < 16 := by omega
        have hn0 : ((n : Int) < 16) := by omega
        have h1 : decide ((n : Int) < 0) = false := by simp
        have h2 : decide (15 < (n : Int)) = false := by simp; omega
        clear hbad
        have hy := hist_le zs k n
        have hc2 := (HR.out.c.cell n).trans (va_at 16 _ n hn16)
        have hf2 := HR.out.c.free n
        have HSt := Lib.hid fun i (_ : i < 16) => hist_step hlt HX.out.symm i
        obtain ⟨y, hyy⟩ : ∃ y, y = hist zs k n := ⟨_, rfl⟩
        rw [← hyy] at hy hc2
        have HY := Lib.hid hyy
        clear hyy
        go_wp2
        go_roundw
        case rel =>
          refine ⟨k + 1, by omega, by go_num, fun j hj => ?_, ?_⟩
          · by_cases e : j = k
            · subst e; rw [← HX.out]; omega
            · exact HG.out j (by omega)
          · have := HR.out.setC n (.int .i64 ((y + 1 : Nat) : Int))
            rw [ia_set 16 _ (hist zs (k + 1)) n (y + 1) (by rw [HY.out]; exact HSt.out)] at this
            simpa using this
        case measure => simp [intOf]; omega
    · have hk' : k = zs.length := by omega
      subst hk'
      have hf0 := HR.out.c.free 0
      have hc0 := (HR.out.c.cell 0).trans (va_at 16 _ 0 (by omega))
      have HV : Hid (Vd zs) := Lib.hid ⟨hl, fun z hz => by
        obtain ⟨j, hj, rfl⟩ := List.getElem_of_mem hz
        have := HG.out j hj
        simpa [List.getD, hj] using this⟩
      have H4 : Hid (Two w p q (ia 16 fun _ => 0) (ia 16 (cn (nat zs))) (wr.setCell ⟨q, 0, none⟩ (.int .i64 0))) := by
        have := HR.out.setC 0 (.int .i64 ((0 : Nat) : Int))
        rw [ia_set 16 _ (cn (nat zs)) 0 0 (fun i _ => by rw [← hist_all (zs := zs) _ (fun _ => rfl)])] at this
        exact Lib.hid this
      go_wp2_with (first
        | (refine wpList_load_row rfl 72 (.tmp 4) rfl q rfl 72 _ H4.out.c 16 3 Tryd.underlying72 i61 ?_)
        | (refine wpList_store_row rfl 72 (.tmp 2) (.tmp 31) rfl rfl p rfl _ rfl 72 _ H4.out.b i61 (by simp only [va_size]) (ia_one 16 _) ?_; intro W4 hb4 ht4 hs4; have HB := Lib.hid (H4.out.setB hb4 ht4); clear hb4 ht4 hs4))
      exact bodyPost_ret (results_cell2 Tryd.results35 _ _ _ p rfl 72 _ HB.out.b 16 3 Tryd.underlying72 i61 _ rfl) rfl ⟨fun _ => ⟨rfl, HB.out.below⟩, fun v => absurd HV.out v⟩

theorem count_yes (ao : Option Addr) (c : Nat) (zs : List Int) (w : World) (h : IS w ao zs) (hv : Vd zs) :
    Calls Tryd.prog 35 #[.slice ao zs.length c] w (CountYes zs w) :=
  (count_any ao c zs w h hv.len).mono fun _ _ k => k.1 hv
theorem count_no (ao : Option Addr) (c : Nat) (zs : List Int) (w : World) (h : IS w ao zs) (hv : ¬ Vd zs) :
    Calls Tryd.prog 35 #[.slice ao zs.length c] w (CountNo w) := by
  by_cases hl : zs.length ≤ 320
  · exact (count_any ao c zs w h hl).mono fun _ _ k => k.2 hv
  · exact count_long ao zs.length c w (by omega)

theorem cn_le (ls : List Nat) (n : Nat) : cn ls n ≤ ls.length := by
  unfold cn
  split
  · omega
  · exact List.count_le_length
theorem sp_le (ls : List Nat) (hl : ls.length ≤ 320) (n : Nat) : sp ls n ≤ n * 10485760 := by
  induction n with
  | zero => simp [sp]
  | succ n ih =>
    rw [sp]
    have h1 := cn_le ls n
    have h2 : 2 ^ (15 - n) ≤ 2 ^ 15 := Nat.pow_le_pow_right (by omega) (by omega)
    have h3 : cn ls n * 2 ^ (15 - n) ≤ 320 * 2 ^ 15 := Nat.mul_le_mul (by omega) h2
    omega
theorem fp_le (ls : List Nat) (hl : ls.length ≤ 320) (n : Nat) : fp ls n ≤ n * 320 := by
  induction n with
  | zero => simp [fp]
  | succ n ih =>
    rw [fp]
    have h1 := cn_le ls n
    omega
theorem shr_pow (k : Nat) (hk : k < 16) : (32768 : Int) / 2 ^ k = ((2 ^ (15 - k) : Nat) : Int) := by
  have : ∀ k, k < 16 → (32768 : Int) / 2 ^ k = ((2 ^ (15 - k) : Nat) : Int) := by decide
  exact this k hk
theorem sp_int (ls : List Nat) (hl : ls.length ≤ 320) (k : Nat) (hk : k < 16) : wrap64 ((sp ls k : Int) + wrap64 ((cn ls k : Int) * (32768 / 2 ^ k))) = (sp ls (k + 1) : Nat) := by
  have h1 := cn_le ls k
  have h2 := sp_le ls hl k
  rw [shr_pow k hk, ← Int.natCast_mul, sp]
  have h3 : 2 ^ (15 - k) ≤ 2 ^ 15 := Nat.pow_le_pow_right (by omega) (by omega)
  have h4 : cn ls k * 2 ^ (15 - k) ≤ 320 * 2 ^ 15 := Nat.mul_le_mul (by omega) h3
  generalize cn ls k * 2 ^ (15 - k) = z at *
  unfold wrap64
  omega

set_option maxHeartbeats 800000 in
theorem room_any (ls : List Nat) (hl : ls.length ≤ 320) (w : World) :
    Calls Tryd.prog 36 #[.agg (ia 16 (cn ls))] w fun e w' => e = .returned (.int .i64 (room ls : Nat)) ∧ Below w.heap.size w w' := by
  go_enter Tryd.func36, Tryd.ntmps36
  go_upto_region 1 with (refine wpList_box_row rfl 72 (.tmp 0) rfl (ia 16 (cn ls)) rfl ?_; intro W hb ht hs; have HS := Lib.hid hs; clear hs)
  have HB := Lib.hid (ht.below (Nat.le_refl _) (fun _ h => h.elim))
  clear ht HS
  go_wp2_with (refine wpList_load_row rfl 72 (.tmp 1) rfl w.heap.size rfl 72 _ hb 16 3 Tryd.underlying72 i61 ?_)
  go_loop [3, 7] (fun sv i => ∃ k : Nat, k ≤ 16 ∧ i = .int .i64 k ∧ sv = .int .i64 (sp ls k : Nat)) (fun _ i => 16 - (intOf i).toNat)
  case atStart => exact ⟨0, by omega, rfl, rfl⟩
  case round =>
    obtain ⟨k, hk, rfl, rfl⟩ := hrel
    by_cases hlt : k < 16
    · have hkk : (k : Int) < 16 := by omega
      go_wp2_with (refine wpList_index_row rfl 72 (.tmp 6) (.tmp 7) rfl (ia 16 (cn ls)) rfl .i64 k rfl 16 3 Tryd.underlying72 hlt a3 s3 _ (va_at 16 _ k hlt) ?_)
      go_round
      case rel => exact ⟨k + 1, by omega, by go_num, by rw [sp_int ls hl k hlt]⟩
      case measure => simp [intOf]; omega
    · have hk' : k = 16 := by omega
      subst hk'
      go_wp2
      go_ret
      exact ⟨rfl, HB.out⟩

/-- The room, symbol by symbol. -/
def part1 (x : Nat) : Nat := if x = 0 then 0 else 2 ^ (15 - x)
def rsum (l : List Nat) : Nat := (l.map part1).sum
theorem rsum_app (l : List Nat) (x : Nat) : rsum (l ++ [x]) = rsum l + part1 x := by simp [rsum]
theorem cn_app (l : List Nat) (x n : Nat) : cn (l ++ [x]) n = cn l n + if n = x ∧ n ≠ 0 then 1 else 0 := by
  unfold cn
  by_cases h0 : n = 0
  · simp [h0]
  · rw [if_neg h0, if_neg h0, List.count_append, List.count_singleton]
    by_cases h : n = x
    · simp [h]; intro e; omega
    · simp [h, Ne.symm h]
theorem sp_app (l : List Nat) (x n : Nat) : sp (l ++ [x]) n = sp l n + if x < n then part1 x else 0 := by
  induction n with
  | zero => simp [sp]
  | succ n ih =>
    rw [sp, sp, ih, cn_app, Nat.add_mul]
    by_cases h : n = x
    · subst h
      rw [if_neg (Nat.lt_irrefl n), if_pos (Nat.lt_succ_self n)]
      by_cases h0 : n = 0
      · rw [if_neg (show ¬ (n = n ∧ n ≠ 0) from fun e => e.2 h0), Nat.zero_mul]
        unfold part1
        rw [if_pos h0]
        omega
      · rw [if_pos ⟨rfl, h0⟩, Nat.one_mul]
        unfold part1
        rw [if_neg h0]
        omega
    · rw [if_neg (show ¬ (n = x ∧ n ≠ 0) from fun e => h e.1), Nat.zero_mul]
      by_cases h2 : x < n
      · rw [if_pos h2, if_pos (show x < n + 1 by omega)]
        omega
      · rw [if_neg h2, if_neg (show ¬ x < n + 1 by omega)]
        omega
theorem sp_nil (n : Nat) : sp [] n = 0 := by
  induction n with
  | zero => rfl
  | succ n ih => rw [sp, ih]; simp [cn]
theorem room_rsum (l : List Nat) (h : ∀ x ∈ l, x ≤ 15) : room l = rsum l := by
  have key : ∀ k, k ≤ l.length → sp (l.take k) 16 = rsum (l.take k) := by
    intro k
    induction k with
    | zero => intro _; rw [List.take_zero, sp_nil]; rfl
    | succ k ih =>
      intro hk
      rw [List.take_succ_eq_append_getElem (by omega), sp_app, rsum_app, ih (by omega), if_pos]
      have := h _ (List.getElem_mem (show k < l.length by omega))
      omega
  have := key l.length (Nat.le_refl _)
  rwa [List.take_length] at this
theorem part1_le (x : Nat) : part1 x ≤ 32768 := by
  unfold part1
  split
  · omega
  · have : 2 ^ (15 - x) ≤ 2 ^ 15 := Nat.pow_le_pow_right (by omega) (by omega)
    omega
theorem rsum_le (l : List Nat) : rsum l ≤ l.length * 32768 := by
  unfold rsum
  induction l with
  | nil => simp
  | cons x r ih => have := part1_le x; simp only [List.map_cons, List.sum_cons, List.length_cons]; omega

def RoomTo (zs : List Int) (w : World) (e : Ending) (w' : World) : Prop := w = w' ∧ (Vd zs → e = .returned (.tuple #[.int .i64 (room (nat zs) : Nat), .bool true])) ∧ (¬ Vd zs → e = .returned (.tuple #[.int .i64 0, .bool false]))

theorem rtake {zs : List Int} {k : Nat} {x : Nat} (hk : k < zs.length) (hx : zs.getD k 0 = (x : Int)) : rsum (nat (zs.take (k + 1))) = rsum (nat (zs.take k)) + part1 x := by
  rw [List.take_succ_eq_append_getElem hk, show zs[k] = (x : Int) by rw [← hx]; simp [List.getD, hk], nat, List.map_append]
  exact rsum_app _ _
theorem shr_part {x : Nat} (h1 : 1 ≤ x) (h15 : x ≤ 15) : (32768 : Int) / 2 ^ x = (part1 x : Nat) := by
  unfold part1
  rw [if_neg (by omega)]
  exact shr_pow x (by omega)

/-! ### Integers copied and compared -/
def Copied (zs : List Int) (w : World) (e : Ending) (w' : World) : Prop := ∃ ao c, e = .returned (.slice ao zs.length c) ∧ IS w' ao zs ∧ Below w.heap.size w w'
set_option maxHeartbeats 800000 in
theorem same_any (a b : Option Addr) (c d : Nat) (zs : List Int) (w : World) (h : IS w a zs) (h2 : IS w b zs) (hl : zs.length ≤ 1000) :
    Calls Tryd.prog 20 #[.slice a zs.length c, .slice b zs.length d] w fun e w' => e = .returned (.bool true) ∧ ∃ q, w' = w.drewN q := by
  have H1 := Lib.hid h
  have H2 := Lib.hid h2
  clear h h2
  have hnn : ((zs.length : Int) != zs.length) = false := by simp
  go_enter Tryd.func20, Tryd.ntmps20
  go_wp2
  go_loopw [5] (fun i wr => ∃ k q : Nat, k ≤ zs.length ∧ i = .int .i64 k ∧ wr = w.drewN q) (fun i _ => zs.length - (intOf i).toNat)
  case atStart => exact ⟨0, 0, Nat.zero_le _, rfl, rfl⟩
  case round =>
    obtain ⟨k, q, hk, rfl, rfl⟩ := hrel
    by_cases hlt : k < zs.length
    · have hkk : (k : Int) < zs.length := by omega
      obtain ⟨b1, o1, rfl, c1⟩ := H1.out.at hlt
      obtain ⟨b2, o2, rfl, c2⟩ := H2.out.at hlt
      obtain ⟨x, hx⟩ : ∃ x, x = zs.getD k 0 := ⟨_, rfl⟩
      rw [← hx] at c1 c2
      clear hx
      have hxx : (x != x) = false := by simp
      go_wp2
      go_quiet (fail)
      go_wp2
      go_roundw
      case rel => exact ⟨k + 1, _, by omega, by go_num, rfl⟩
      case measure => simp [intOf]; omega
    · have hk' : k = zs.length := by omega
      subst hk'
      go_wp2
      go_ret
      exact ⟨rfl, _, rfl⟩

end Go.Proofs.YtnnkegpnjedneaaDoor.Z


/-
  Contracts: outside and its closure, ContainsFunc over it.
-/
namespace Go.Proofs.YtnnkegpnjedneaaDoor.Z
open Go.RowKit
set_option maxRecDepth 100000

/-- A number that is not within bounds. -/
def Bad (l m n : Int) : Prop := n < l ∨ m < n
instance (l m n : Int) : Decidable (Bad l m n) := inferInstanceAs (Decidable (_ ∨ _))
/-- The bounds that such a closure has kept. -/
structure Kept (w : World) (p q : Nat) (l m : Int) : Prop where
  lo : w.cell? ⟨p, 0, none⟩ = some (.int .i64 l)
  hi : w.cell? ⟨q, 0, none⟩ = some (.int .i64 m)
def fnOut (p q : Nat) : Value := .func (.func 101) #[] #[.pointer (some ⟨p, 0, none⟩), .pointer (some ⟨q, 0, none⟩)]
theorem Kept.below {w w' : World} {p q : Nat} {l m : Int} {B : Nat} (h : Kept w p q l m) (hb : Below B w w') (hp : p < B) (hq : q < B) : Kept w' p q l m :=
  ⟨(hb.cell (p := ⟨p, 0, none⟩) hp).trans h.lo, (hb.cell (p := ⟨q, 0, none⟩) hq).trans h.hi⟩
theorem Kept.lt {w : World} {p q : Nat} {l m : Int} (h : Kept w p q l m) : p < w.heap.size ∧ q < w.heap.size :=
  ⟨World.block_lt_of_cell? w _ h.lo, World.block_lt_of_cell? w _ h.hi⟩
theorem Kept.on {w w' : World} {p q : Nat} {l m : Int} (h : Kept w p q l m) (hb : Below w.heap.size w w') : Kept w' p q l m := h.below hb h.lt.1 h.lt.2
theorem Kept.drewN {w : World} {p q : Nat} {l m : Int} (h : Kept w p q l m) (n : Nat) : Kept (w.drewN n) p q l m := ⟨h.lo, h.hi⟩

/-- A closure that tells numbers out of bounds has been made. -/
def MadeOut (l m : Int) (w : World) (e : Ending) (w' : World) : Prop := ∃ p q, e = .returned (fnOut p q) ∧ Kept w' p q l m ∧ Below w.heap.size w w' ∧ w.heap.size ≤ p ∧ w.heap.size ≤ q

theorem outside_any (l m : Int) (w : World) : Calls Tryd.prog 99 #[.int .i64 l, .int .i64 m] w (MadeOut l m w) := by
  go_enter Tryd.func99, Tryd.ntmps99
  go_wp2
  go_ret
  refine ⟨_, _, rfl, ?_, ((Below.refl _ w).alloc (Nat.le_refl _) _).alloc (by simp) _, Nat.le_refl _, by simp⟩
  exact ⟨by simp, by simp⟩

theorem bad_yes (p q : Nat) (l m n : Int) (w : World) (hK : Kept w p q l m) (h : Bad l m n) :
    Calls Tryd.prog 101 #[.int .i64 n, .pointer (some ⟨p, 0, none⟩), .pointer (some ⟨q, 0, none⟩)] w fun e w' => e = .returned (.bool true) ∧ w' = w := by
  have h1 := hK.lo
  have h2 := hK.hi
  clear hK
  by_cases c : n < l
  · go_enter Tryd.func101, Tryd.ntmps101
    go_wp2
    go_ret
    exact ⟨rfl, rfl⟩
  · have c2 : m < n := by rcases h with h | h; exact absurd h c; exact h
    have c' : l ≤ n := Int.not_lt.mp c
    clear h c
    go_enter Tryd.func101, Tryd.ntmps101
    go_wp2
    go_ret
    exact ⟨rfl, rfl⟩
theorem bad_no (p q : Nat) (l m n : Int) (w : World) (hK : Kept w p q l m) (h : ¬ Bad l m n) :
    Calls Tryd.prog 101 #[.int .i64 n, .pointer (some ⟨p, 0, none⟩), .pointer (some ⟨q, 0, none⟩)] w fun e w' => e = .returned (.bool false) ∧ w' = w := by
  have h1 := hK.lo
  have h2 := hK.hi
  have c1 : l ≤ n := Int.not_lt.mp fun c => h (.inl c)
  have c2 : n ≤ m := Int.not_lt.mp fun c => h (.inr c)
  clear hK h
  have d2 : decide (m < n) = false := decide_eq_false (by omega)
  have d1 : decide (n < l) = false := decide_eq_false (by omega)
  go_enter Tryd.func101, Tryd.ntmps101
  go_wp2
  go_ret
  exact ⟨rfl, rfl⟩
theorem bad_any (p q : Nat) (l m n : Int) (w : World) (hK : Kept w p q l m) :
    Calls Tryd.prog 101 #[.int .i64 n, .pointer (some ⟨p, 0, none⟩), .pointer (some ⟨q, 0, none⟩)] w fun e w' => e = .returned (.bool (decide (Bad l m n))) ∧ w' = w := by
  by_cases h : Bad l m n
  · rw [decide_eq_true h]; exact bad_yes p q l m n w hK h
  · rw [decide_eq_false h]; exact bad_no p q l m n w hK h

/-- One is out of bounds. -/
def anyBad (l m : Int) (zs : List Int) : Bool := zs.any fun z => decide (Bad l m z)
end Go.Proofs.YtnnkegpnjedneaaDoor.Z


/-
  Contracts: spanOf, sameAt, longestAt.
-/
namespace Go.Proofs.YtnnkegpnjedneaaDoor.Z
open Go.RowKit
set_option maxRecDepth 100000

/-- How few lengths an item tells, how many. -/
def spl (s : Int) : Nat := if s = 16 then 3 else if s = 17 then 3 else if s = 18 then 11 else 1
def spm (s : Int) : Nat := if s = 16 then 6 else if s = 17 then 10 else if s = 18 then 138 else 1
theorem span_any (s : Int) (w : World) : Calls Tryd.prog 98 #[.int .i64 s] w fun e w' => e = .returned (.tuple #[.int .i64 (spl s : Nat), .int .i64 (spm s : Nat)]) ∧ w' = w := by
  by_cases h1 : s = 16
  · subst h1
    go_enter Tryd.func98, Tryd.ntmps98
    go_wp2
    go_ret2
    exact ⟨rfl, rfl⟩
  · have b1 : (s == 16) = false := by simp [h1]
    by_cases h2 : s = 17
    · subst h2
      go_enter Tryd.func98, Tryd.ntmps98
      go_wp2
      go_ret2
      exact ⟨rfl, rfl⟩
    · have b2 : (s == 17) = false := by simp [h2]
      by_cases h3 : s = 18
      · subst h3
        go_enter Tryd.func98, Tryd.ntmps98
        go_wp2
        go_ret2
        exact ⟨rfl, rfl⟩
      · have b3 : (s == 18) = false := by simp [h3]
        have e1 := Lib.hid (show spl s = 1 by simp [spl, h1, h2, h3])
        have e2 := Lib.hid (show spm s = 1 by simp [spm, h1, h2, h3])
        rw [e1.out, e2.out]
        clear h1 h2 h3
        go_enter Tryd.func98, Tryd.ntmps98
        go_wp2
        go_ret2
        exact ⟨rfl, rfl⟩

/-- How many at a row's head are x. -/
def cnt (x : Int) : List Int → Nat
  | [] => 0
  | y :: t => if y = x then cnt x t + 1 else 0
theorem cnt_le (x : Int) (l : List Int) : cnt x l ≤ l.length := by
  induction l with
  | nil => exact Nat.le_refl _
  | cons y t ih => rw [cnt]; split <;> simp <;> omega
theorem cnt_at {x : Int} {l : List Int} {i : Nat} (h : i < cnt x l) : l.getD i 0 = x := by
  induction l generalizing i with
  | nil => simp [cnt] at h
  | cons y t ih =>
    rw [cnt] at h
    split at h
    · next e =>
      cases i with
      | zero => simpa using e
      | succ i => rw [List.getD_cons_succ]; exact ih (by omega)
    · omega
theorem cnt_stop {x : Int} {l : List Int} (h : cnt x l < l.length) : l.getD (cnt x l) 0 ≠ x := by
  induction l with
  | nil => simp at h
  | cons y t ih =>
    rw [cnt] at h ⊢
    split at h
    · next e => rw [if_pos e, List.getD_cons_succ]; exact ih (by simpa using h)
    · next e => rw [if_neg e]; simpa using e
/-- How many lengths from a place on are the same. -/
def rl (zs : List Int) (a : Nat) : Nat := cnt (zs.getD a 0) (zs.drop a)
theorem getD_drop (zs : List Int) (a i : Nat) : (zs.drop a).getD i 0 = zs.getD (a + i) 0 := by simp [List.getD]
theorem rl_pos {zs : List Int} {a : Nat} (h : a < zs.length) : 1 ≤ rl zs a := by
  unfold rl
  rw [List.drop_eq_getElem_cons h, cnt, if_pos (by simp [List.getD, h])]
  omega
theorem rl_le (zs : List Int) (a : Nat) (h : a ≤ zs.length) : a + rl zs a ≤ zs.length := by
  have := cnt_le (zs.getD a 0) (zs.drop a)
  rw [List.length_drop] at this
  unfold rl
  omega
theorem rl_at {zs : List Int} {a i : Nat} (h : i < rl zs a) : zs.getD (a + i) 0 = zs.getD a 0 := by
  rw [← getD_drop]; exact cnt_at h
theorem rl_stop {zs : List Int} {a : Nat} (h : a + rl zs a < zs.length) : zs.getD (a + rl zs a) 0 ≠ zs.getD a 0 := by
  rw [← getD_drop]
  exact cnt_stop (by rw [List.length_drop]; unfold rl at h; omega)
/-- Where a walk along such a row stops. -/
theorem rl_end {zs : List Int} {a n m : Nat} (hn : n ≤ rl zs a) (hnm : n ≤ m) (ha : a ≤ zs.length) (hs : n = m ∨ zs.length ≤ a + n ∨ zs.getD (a + n) 0 ≠ zs.getD a 0) : n = min m (rl zs a) := by
  have h1 := rl_le zs a ha
  rcases hs with h | h | h
  · omega
  · omega
  · have : ¬ n < rl zs a := fun hlt => h (rl_at hlt)
    omega

end Go.Proofs.YtnnkegpnjedneaaDoor.Z


/-
  Contract: longestAt.
-/
namespace Go.Proofs.YtnnkegpnjedneaaDoor.Z
open Go.RowKit
set_option maxRecDepth 100000

/-- The sign of the item at a place, how many lengths it tells. -/
def lsym (zs : List Int) (a : Nat) : Int :=
  if zs.getD a 0 = 0 ∧ 11 ≤ rl zs a then 18 else if zs.getD a 0 = 0 ∧ 3 ≤ rl zs a then 17
  else if zs.getD a 0 ≠ 0 ∧ 3 ≤ rl zs a ∧ 0 < a ∧ zs.getD (a - 1) 0 = zs.getD a 0 then 16 else zs.getD a 0
def lmany (zs : List Int) (a : Nat) : Nat := min (rl zs a) (spm (lsym zs a))
theorem spm_le (s : Int) : spm s ≤ 138 := by unfold spm; split <;> (try split) <;> (try split) <;> omega
theorem ret_two {x y : Int} {a b : Int} (h1 : x = a) (h2 : y = b) : Ending.returned (.tuple #[.int .i64 x, .int .i64 y]) = .returned (.tuple #[.int .i64 a, .int .i64 b]) := by rw [h1, h2]

end Go.Proofs.YtnnkegpnjedneaaDoor.Z


/-
  Items in memory; contract of Pack.
-/
namespace Go.Proofs.YtnnkegpnjedneaaDoor.Z
open Go.RowKit
set_option maxRecDepth 100000

/-- The cells of items. -/
def icl (r : List (Int × Int)) : List Value := r.flatMap fun x => [.int .i64 x.1, .int .i64 x.2]
theorem icl_cons (x : Int × Int) (r : List (Int × Int)) : icl (x :: r) = .int .i64 x.1 :: .int .i64 x.2 :: icl r := rfl
theorem icl_app (a b : List (Int × Int)) : icl a ++ icl b = icl (a ++ b) := by simp [icl]
theorem icl_len (r : List (Int × Int)) : (icl r).length = r.length * 2 := by
  induction r with
  | nil => rfl
  | cons x r ih => rw [icl_cons, List.length_cons, List.length_cons, ih, List.length_cons]; omega
theorem icl_one (r : List (Int × Int)) : ∀ u ∈ icl r, u.oneCell' = true := by
  induction r with
  | nil => intro u hu; cases hu
  | cons x r ih =>
    intro u hu
    rw [icl_cons, List.mem_cons, List.mem_cons] at hu
    rcases hu with rfl | rfl | hu
    · rfl
    · rfl
    · exact ih u hu
/-- The item at a place. -/
def itm (r : List (Int × Int)) (k : Nat) : Int × Int := r.getD k (0, 0)
theorem icl_at (r : List (Int × Int)) (k : Nat) (h : k < r.length) : (icl r)[k * 2]? = some (.int .i64 (itm r k).1) ∧ (icl r)[k * 2 + 1]? = some (.int .i64 (itm r k).2) := by
  induction r generalizing k with
  | nil => simp at h
  | cons x r ih =>
    cases k with
    | zero => exact ⟨rfl, rfl⟩
    | succ k =>
      have := ih k (by simpa using h)
      rw [icl_cons, show (k + 1) * 2 = k * 2 + 1 + 1 by omega, List.getElem?_cons_succ, List.getElem?_cons_succ, List.getElem?_cons_succ, List.getElem?_cons_succ]
      exact this

/-- A slice's address at which these items lie. -/
def TS (w : World) (ao : Option Addr) (r : List (Int × Int)) : Prop := r = [] ∨ ∃ b off, ao = some ⟨b, off, none⟩ ∧ w.rangeAt b off (icl r)
theorem TS.on {w w' : World} {ao : Option Addr} {r : List (Int × Int)} (h : TS w ao r) (hb : Below w.heap.size w w') : TS w' ao r := by
  rcases h with h | ⟨b, off, rfl, hc⟩
  · exact .inl h
  · exact .inr ⟨b, off, rfl, fun j v hv => by
      have := hc j v hv
      exact (hb.cell (World.block_lt_of_cell? w _ this)).trans this⟩
theorem TS.at {w : World} {ao : Option Addr} {r : List (Int × Int)} (h : TS w ao r) {k : Nat} (hk : k < r.length) :
    ∃ b off, ao = some ⟨b, off, none⟩ ∧ w.cell? ⟨b, off + k * 2, none⟩ = some (.int .i64 (itm r k).1) ∧ w.cell? ⟨b, off + k * 2 + 1, none⟩ = some (.int .i64 (itm r k).2) := by
  rcases h with rfl | ⟨b, off, rfl, hc⟩
  · simp at hk
  · have := icl_at r k hk
    exact ⟨b, off, rfl, hc _ _ this.1, by have := hc _ _ this.2; rwa [← Nat.add_assoc] at this⟩
theorem own_ts {w : World} {base e : Nat} {ao : Option Addr} {c n : Nat} {r : List (Int × Int)} (h : w.ownsRow base e 2 (.slice ao n c) n (icl r)) (hn : r.length = n) : TS w ao r := by
  subst hn
  rcases h.2 with ⟨e, h0⟩ | ⟨g, cap, cur, e, hbg, hh, hnc, hcm, hcs, htake⟩
  · exact .inl (List.eq_nil_of_length_eq_zero h0)
  · simp only [Value.slice.injEq] at e
    obtain ⟨rfl, _, rfl⟩ := e
    refine .inr ⟨g, 0, rfl, fun j v hv => ?_⟩
    have hj : j < r.length * 2 := by
      have := (List.getElem?_eq_some_iff.1 hv).1
      rwa [icl_len] at this
    rw [Nat.zero_add, World.ownsRow.cellAt h j (by omega), hv]
theorem at35 : AT 146 147 (.agg #[.int .i64 0, .int .i64 0]) 2 16 := ⟨by kernel_rfl, by kernel_rfl, rfl, by omega⟩
theorem at37 : AT 110 112 (.agg #[.int .i64 0, .int .i64 0]) 2 16 := ⟨by kernel_rfl, by kernel_rfl, rfl, by omega⟩
/-- One item in a block of its own, as append wants it. -/
theorem cells_item (w : World) (B : Nat) (hB : w.heap.size = B) (e : TypeId) (x : Int × Int) : CellsAt (w.alloc (.cells #[.int .i64 x.1, .int .i64 x.2] e)) (.slice (some ⟨B, 0, none⟩) 1 1) 1 (icl [x]) := by
  subst hB
  refine .inr ⟨_, 1, rfl, fun j u hu => ?_⟩
  rw [Addr.add_lit, Nat.zero_add, (Blk.made w e _).cell]
  have : j < 2 := by
    have := (List.getElem?_eq_some_iff.1 hu).1
    simpa [icl] using this
  rcases (by omega : j = 0 ∨ j = 1) with rfl | rfl
  · simpa [icl] using hu
  · simpa [icl] using hu

/-- A row of items of the call's own. -/
structure Tr (w : World) (e : Nat) (P : List (Int × Int)) (v : Value) (wr : World) : Prop where
  own : wr.ownsRow w.heap.size e 2 v P.length (icl P)
  below : Below w.heap.size w wr
theorem Tr.put {w wr w1 : World} {e : Nat} {P R : List (Int × Int)} {v v' : Value} {n : Nat} {o : Obj} (h : Tr w e P v wr) (hA : Apg (wr.alloc o) w.heap.size e 2 v n (icl P ++ icl R) v' w1) (hn : n = P.length + R.length) : Tr w e (P ++ R) v' w1 := by
  subst hn
  refine ⟨?_, h.below.trans (hA.alloc.below h.own h.below.size)⟩
  rw [List.length_append, ← icl_app]
  exact hA.own
theorem Tr.drewN {w wr : World} {e : Nat} {P : List (Int × Int)} {v : Value} (h : Tr w e P v wr) (q : Nat) : Tr w e P v (wr.drewN q) :=
  ⟨ownsRow_below h.own (below_drewN (Below.refl _ _) q), below_drewN h.below q⟩

/-- The item at a place of the lengths, the items from there on. -/
def pit (zs : List Int) (a : Nat) : Int × Int := (lsym zs a, ((lmany zs a - spl (lsym zs a) : Nat) : Int))
def pk (zs : List Int) : Nat → Nat → List (Int × Int)
  | 0, _ => []
  | f + 1, a => if a < zs.length then pit zs a :: pk zs f (a + lmany zs a) else []
def pkl (zs : List Int) : List (Int × Int) := pk zs zs.length 0
theorem lsym_or (zs : List Int) (a : Nat) : (lsym zs a = 18 ∧ 11 ≤ rl zs a) ∨ (lsym zs a = 17 ∧ 3 ≤ rl zs a) ∨ (lsym zs a = 16 ∧ 3 ≤ rl zs a) ∨ lsym zs a = zs.getD a 0 := by
  unfold lsym
  split
  · next h => exact .inl ⟨rfl, h.2⟩
  · split
    · next h => exact .inr (.inl ⟨rfl, h.2⟩)
    · split
      · next h => exact .inr (.inr (.inl ⟨rfl, h.2.1⟩))
      · exact .inr (.inr (.inr rfl))
theorem spl_small {x : Int} (h : x ≤ 15) : spl x = 1 ∧ spm x = 1 := by
  unfold spl spm
  constructor
  · rw [if_neg (by omega), if_neg (by omega), if_neg (by omega)]
  · rw [if_neg (by omega), if_neg (by omega), if_neg (by omega)]
theorem lmany_ge {zs : List Int} {a : Nat} (ha : a < zs.length) (hb : zs.getD a 0 ≤ 15) : spl (lsym zs a) ≤ lmany zs a ∧ 1 ≤ spl (lsym zs a) ∧ lmany zs a ≤ 138 ∧ a + lmany zs a ≤ zs.length := by
  have h1 := rl_pos ha
  have h2 := rl_le zs a (by omega)
  have h3 := spm_le (lsym zs a)
  unfold lmany
  rcases lsym_or zs a with ⟨h, k⟩ | ⟨h, k⟩ | ⟨h, k⟩ | h
  · rw [h] at h3 ⊢; simp [spl, spm]; omega
  · rw [h] at h3 ⊢; simp [spl, spm]; omega
  · rw [h] at h3 ⊢; simp [spl, spm]; omega
  · rw [h] at h3 ⊢; rw [(spl_small hb).1, (spl_small hb).2]; omega
theorem pk_fuel {zs : List Int} (hz : ∀ k, k < zs.length → zs.getD k 0 ≤ 15) (f : Nat) : ∀ g a, zs.length ≤ a + f → zs.length ≤ a + g → pk zs f a = pk zs g a := by
  induction f with
  | zero =>
    intro g a h1 h2
    cases g with
    | zero => rfl
    | succ g => rw [pk, pk, if_neg (by omega)]
  | succ f ih =>
    intro g a h1 h2
    by_cases ha : a < zs.length
    · have := lmany_ge ha (hz a ha)
      cases g with
      | zero => omega
      | succ g => rw [pk, pk, if_pos ha, if_pos ha, ih g _ (by omega) (by omega)]
    · cases g with
      | zero => rw [pk, pk, if_neg ha]
      | succ g => rw [pk, pk, if_neg ha, if_neg ha]
theorem pk_step {zs : List Int} (hz : ∀ k, k < zs.length → zs.getD k 0 ≤ 15) {a : Nat} (ha : a < zs.length) : pk zs (zs.length - a) a = pit zs a :: pk zs (zs.length - (a + lmany zs a)) (a + lmany zs a) := by
  have h := lmany_ge ha (hz a ha)
  obtain ⟨f, hf⟩ : ∃ f, zs.length - a = f + 1 := ⟨zs.length - a - 1, by omega⟩
  rw [hf, pk, if_pos ha, pk_fuel hz f (zs.length - (a + lmany zs a)) _ (by omega) (by omega)]
theorem pk_end {zs : List Int} {a : Nat} (ha : zs.length ≤ a) (f : Nat) : pk zs f a = [] := by
  cases f with
  | zero => rfl
  | succ f => rw [pk, if_neg (by omega)]

/-- Items have been made. -/
def Packed (zs : List Int) (w : World) (e : Ending) (w' : World) : Prop := ∃ ao c, e = .returned (.slice ao (pkl zs).length c) ∧ TS w' ao (pkl zs) ∧ Below w.heap.size w w'

end Go.Proofs.YtnnkegpnjedneaaDoor.Z


/-
  Contracts: toldBy.
-/
namespace Go.Proofs.YtnnkegpnjedneaaDoor.Z
open Go.RowKit
set_option maxRecDepth 100000

/-- The length that an item tells. -/
def tv (s : Int) (ts : List Int) : Int := if s = 16 then ts.getD (ts.length - 1) 0 else if s = 17 then 0 else if s = 18 then 0 else s
set_option maxHeartbeats 4000000 in
theorem told_any (ao : Option Addr) (c : Nat) (s : Int) (ts : List Int) (w : World) (h : IS w ao ts) (hs : s = 16 → ts ≠ []) (hl : ts.length ≤ 1000) :
    Calls Tryd.prog 100 #[.int .i64 s, .slice ao ts.length c] w fun e w' => e = .returned (.int .i64 (tv s ts)) ∧ w' = w := by
  by_cases h1 : s = 16
  · subst h1
    have hn : 0 < ts.length := List.length_pos_iff.2 (hs rfl)
    obtain ⟨b, o, rfl, q1⟩ := h.at (k := ts.length - 1) (by omega)
    obtain ⟨x, hx⟩ : ∃ x, x = ts.getD (ts.length - 1) 0 := ⟨_, rfl⟩
    have e0 := Lib.hid (show tv 16 ts = x by rw [tv, if_pos rfl, hx])
    rw [e0.out]
    rw [← hx] at q1
    clear hx hs h
    obtain ⟨k, hk⟩ : ∃ k, k = ts.length - 1 := ⟨_, rfl⟩
    obtain ⟨L, hL⟩ : ∃ L, L = ts.length := ⟨_, rfl⟩
    rw [← hk] at q1
    rw [← hL] at hk hl hn ⊢
    have e1 : IntKind.i64.wrap ((L : Int) - 1) = k := by rw [IntKind.wrap_i64]; omega
    have hk2 : (k : Int) < L := by omega
    clear hk hL
    go_enter Tryd.func100, Tryd.ntmps100
    go_wp2
    go_ret
    exact ⟨rfl, rfl⟩
  · have b1 : (s == 16) = false := by simp [h1]
    clear hs h
    by_cases h2 : s = 17
    · subst h2
      go_enter Tryd.func100, Tryd.ntmps100
      go_wp2
      go_ret
      exact ⟨rfl, rfl⟩
    · have b2 : (s == 17) = false := by simp [h2]
      by_cases h3 : s = 18
      · subst h3
        go_enter Tryd.func100, Tryd.ntmps100
        go_wp2
        go_ret
        exact ⟨rfl, rfl⟩
      · have b3 : (s == 18) = false := by simp [h3]
        have e1 := Lib.hid (show tv s ts = s by simp [tv, h1, h2, h3])
        rw [e1.out]
        clear h1 h2 h3
        go_enter Tryd.func100, Tryd.ntmps100
        go_wp2
        go_ret
        exact ⟨rfl, rfl⟩
end Go.Proofs.YtnnkegpnjedneaaDoor.Z


/-
  What Unpack tells, as a plain function; what is packed is unpacked.
-/
namespace Go.Proofs.YtnnkegpnjedneaaDoor.Z
open Go.RowKit
set_option maxRecDepth 100000

/-- An item out of bounds behind n lengths. -/
def Wi (s x : Int) (n : Nat) : Prop := Bad 0 18 s ∨ Bad 0 ((spm s : Int) - spl s) x ∨ (s = 16 ∧ n = 0) ∨ (320 - n : Int) < spl s + x
instance (s x : Int) (n : Nat) : Decidable (Wi s x n) := inferInstanceAs (Decidable (_ ∨ _))
theorem sp_lim (s : Int) : 1 ≤ spl s ∧ spl s ≤ 11 ∧ spl s ≤ spm s ∧ spm s ≤ 138 := by
  unfold spl spm
  by_cases h1 : s = 16
  · simp [h1]
  · by_cases h2 : s = 17
    · simp [h2]
    · by_cases h3 : s = 18
      · simp [h3]
      · simp [h1, h2, h3]
/-- The lengths that items tell behind these. -/
def un : List (Int × Int) → List Int → Option (List Int)
  | [], ts => some ts
  | (s, x) :: r, ts => if Wi s x ts.length then none else un r (ts ++ List.replicate ((spl s : Int) + x).toNat (tv s ts))

theorem lsym_sure (zs : List Int) (a : Nat) : (lsym zs a = 18 ∧ zs.getD a 0 = 0) ∨ (lsym zs a = 17 ∧ zs.getD a 0 = 0) ∨ (lsym zs a = 16 ∧ 0 < a ∧ zs.getD (a - 1) 0 = zs.getD a 0) ∨ lsym zs a = zs.getD a 0 := by
  unfold lsym
  split
  · next h => exact .inl ⟨rfl, h.1⟩
  · split
    · next h => exact .inr (.inl ⟨rfl, h.1⟩)
    · split
      · next h => exact .inr (.inr (.inl ⟨rfl, h.2.2⟩))
      · exact .inr (.inr (.inr rfl))
theorem tv_take {zs : List Int} {a : Nat} (ha : a < zs.length) (hb : zs.getD a 0 ≤ 15) : tv (lsym zs a) (zs.take a) = zs.getD a 0 := by
  rcases lsym_sure zs a with ⟨h, k⟩ | ⟨h, k⟩ | ⟨h, k1, k2⟩ | h
  · rw [h, k]; rfl
  · rw [h, k]; rfl
  · rw [h, tv, if_pos rfl, List.length_take, ← k2, Nat.min_eq_left (by omega)]
    simp only [List.getD]
    rw [List.getElem?_take_of_lt (by omega)]
  · rw [h, tv, if_neg (by omega), if_neg (by omega), if_neg (by omega)]
theorem take_run {zs : List Int} {a m : Nat} (hm : m ≤ rl zs a) (ha : a ≤ zs.length) : zs.take (a + m) = zs.take a ++ List.replicate m (zs.getD a 0) := by
  have h2 := rl_le zs a ha
  rw [List.take_add]
  congr 1
  apply List.ext_getElem
  · rw [List.length_take, List.length_drop, List.length_replicate]; omega
  · intro i h1 h3
    rw [List.getElem_replicate, List.getElem_take, List.getElem_drop]
    rw [List.length_take, List.length_drop] at h1
    have h4 := rl_at (zs := zs) (a := a) (i := i) (by omega)
    rw [← h4]
    simp only [List.getD]
    rw [List.getElem?_eq_getElem (by omega)]
    rfl
theorem pit_ok {zs : List Int} {a : Nat} (hl : zs.length ≤ 320) (ha : a < zs.length) (hb : 0 ≤ zs.getD a 0 ∧ zs.getD a 0 ≤ 15) : ¬ Wi (lsym zs a) ((lmany zs a - spl (lsym zs a) : Nat) : Int) a := by
  have h1 := lmany_ge ha hb.2
  have h2 := sp_lim (lsym zs a)
  have h3 : lmany zs a ≤ spm (lsym zs a) := Nat.min_le_right _ _
  have h4 : 0 ≤ lsym zs a ∧ lsym zs a ≤ 18 ∧ (lsym zs a = 16 → 0 < a) := by
    rcases lsym_sure zs a with ⟨h, k⟩ | ⟨h, k⟩ | ⟨h, k1, k2⟩ | h <;> rw [h] <;> refine ⟨by omega, by omega, fun e => ?_⟩ <;> omega
  unfold Wi Bad
  rintro (h | h | h | h)
  · omega
  · omega
  · have := h4.2.2 h.1; omega
  · omega
/-- What is packed is unpacked. -/
theorem un_pk {zs : List Int} (hl : zs.length ≤ 320) (hb : ∀ k, k < zs.length → 0 ≤ zs.getD k 0 ∧ zs.getD k 0 ≤ 15) (n : Nat) : ∀ a, a ≤ zs.length → zs.length - a ≤ n → un (pk zs (zs.length - a) a) (zs.take a) = some zs := by
  induction n with
  | zero =>
    intro a h1 h2
    have e : a = zs.length := by omega
    subst e
    rw [pk_end (Nat.le_refl _), un, List.take_length]
  | succ n ih =>
    intro a h1 h2
    by_cases ha : a < zs.length
    · have h3 := lmany_ge ha (hb a ha).2
      have h4 : lmany zs a ≤ rl zs a := Nat.min_le_left _ _
      rw [pk_step (fun k hk => (hb k hk).2) ha]
      unfold pit
      rw [un, List.length_take, Nat.min_eq_left (by omega), if_neg (pit_ok hl ha (hb a ha)), tv_take ha (hb a ha).2]
      rw [show ((spl (lsym zs a) : Int) + ((lmany zs a - spl (lsym zs a) : Nat) : Int)).toNat = lmany zs a by omega, ← take_run h4 h1]
      exact ih _ h3.2.2.2 (by omega)
    · have e : a = zs.length := by omega
      subst e
      rw [pk_end (Nat.le_refl _), un, List.take_length]
theorem un_pkl {zs : List Int} (hl : zs.length ≤ 320) (hb : ∀ k, k < zs.length → 0 ≤ zs.getD k 0 ∧ zs.getD k 0 ≤ 15) : un (pkl zs) [] = some zs := by
  have := un_pk hl hb zs.length 0 (Nat.zero_le _) (by omega)
  simpa [pkl] using this
end Go.Proofs.YtnnkegpnjedneaaDoor.Z


namespace Go.Proofs.YtnnkegpnjedneaaDoor.Z
open Go.RowKit
set_option maxRecDepth 100000

theorem run_call1 {ρ : Operand → Value} {o : Oper} {w : World} (x y : Operand) (ts : Array TypeId) (f : Nat) (caps : Array Value) (v : Value) (hF : ∀ A : Array Value, (callFunc f A).run Tryd.prog w = .ok (.enter f A) w) (ho : o.op = .call { callee := .value x, args := #[y], argTypes := ts }) (hx : ρ x = .func (.func f) #[] caps) (hy : ρ y = v) :
    (execOp ρ o).run Tryd.prog w = .ok (.enter f (#[v] ++ caps)) w := by
  unfold execOp
  simp [ho, hx, hy, hF, go_sem]
theorem run_call2 {ρ : Operand → Value} {o : Oper} {w : World} (x y z : Operand) (ts : Array TypeId) (f : Nat) (caps : Array Value) (v u : Value) (hF : ∀ A : Array Value, (callFunc f A).run Tryd.prog w = .ok (.enter f A) w) (ho : o.op = .call { callee := .value x, args := #[y, z], argTypes := ts }) (hx : ρ x = .func (.func f) #[] caps) (hy : ρ y = v) (hz : ρ z = u) :
    (execOp ρ o).run Tryd.prog w = .ok (.enter f (#[v, u] ++ caps)) w := by
  unfold execOp
  simp [ho, hx, hy, hz, hF, go_sem]
theorem enter35 (A : Array Value) (w : World) : (callFunc 101 A).run Tryd.prog w = .ok (.enter 101 A) w := by kernel_rfl
theorem enter21 (A : Array Value) (w : World) : (callFunc 99 A).run Tryd.prog w = .ok (.enter 99 A) w := by kernel_rfl
theorem step_call {ops : Array Oper} {o : Oper} {a : Act} {w : World} {K : Act → World → Prop} {Q : Exit → Act → World → Prop} {E : Prop} (hw : Region.wanted o (yielded ops a.tmps) = true) (f : FuncId) (args : Array Value)
    (hr : (execOp a.eval o).run Tryd.prog w = .ok (.enter f args) w) (R : Value → World → Prop) (hc : Calls Tryd.prog f args w fun e w' => ∃ v, e = .returned v ∧ R v w') (h : ∀ v w', R v w' → K (a.put o.dst v) w') :
    if Region.wanted o (yielded ops a.tmps) = true then Oper.wp Tryd.prog o a w K Q else E := by
  rw [if_pos hw]
  unfold Oper.wp
  rw [hr]
  exact hc.mono (by rintro e w' ⟨v, rfl, hR⟩; exact h v w' hR)
end Go.Proofs.YtnnkegpnjedneaaDoor.Z

