/-
  A code in memory; the codes are given to the symbols.
-/
import Derived.Test.YthgehgdbplbcfaaMb
import Derived.Deep.RegionHeld3
namespace Go.Proofs.Ythgehgdbplbcfaa
open Go.RowKit

/-- The cells of a code: its words, its order, the first codes, the counts. -/
def cc (vw vo : Value) (f g : Nat → Nat) : Array Value :=
  va 34 fun i => if i = 0 then vw else if i = 1 then vo else if i < 18 then .int .i64 (f (i - 2) : Nat) else .int .i64 (g (i - 18) : Nat)
def il (f : Nat → Nat) : List Value := (List.range 16).map fun i => .int .i64 (f i : Nat)
theorem cc_0 (vw vo : Value) (f g : Nat → Nat) : (cc vw vo f g)[0]? = some vw := va_at 34 _ 0 (by omega)
theorem cc_1 (vw vo : Value) (f g : Nat → Nat) : (cc vw vo f g)[1]? = some vo := va_at 34 _ 1 (by omega)
theorem cc_f (vw vo : Value) (f g : Nat → Nat) (j : Nat) (h : j < 16) : (cc vw vo f g)[2 + j]? = some (.int .i64 (f j : Nat)) := by
  rw [cc, va_at 34 _ (2 + j) (by omega)]
  rw [if_neg (by omega), if_neg (by omega), if_pos (by omega), show 2 + j - 2 = j by omega]
theorem cc_g (vw vo : Value) (f g : Nat → Nat) (j : Nat) (h : j < 16) : (cc vw vo f g)[18 + j]? = some (.int .i64 (g j : Nat)) := by
  rw [cc, va_at 34 _ (18 + j) (by omega)]
  rw [if_neg (by omega), if_neg (by omega), if_neg (by omega), show 18 + j - 18 = j by omega]
theorem cc_set0 (vw vo u : Value) (f g : Nat → Nat) : (cc vw vo f g).setIfInBounds 0 u = cc u vo f g := by
  unfold cc
  rw [va_set]
  refine va_congr fun i _ => ?_
  by_cases h : i = 0
  · simp [h]
  · simp [h]
theorem cc_set1 (vw vo u : Value) (f g : Nat → Nat) : (cc vw vo f g).setIfInBounds 1 u = cc vw u f g := by
  unfold cc
  rw [va_set]
  refine va_congr fun i _ => ?_
  by_cases h : i = 1
  · simp [h]
  · simp [h]
theorem cc_rf {w : World} {p : Nat} {vw vo : Value} {f g : Nat → Nat} (h : Blk w p 68 (cc vw vo f g)) : w.rangeAt p 2 (il f) := fun j v hv => by
  have hj : j < 16 := by have := (List.getElem?_eq_some_iff.1 hv).1; simpa [il] using this
  rw [h.cell, cc_f _ _ _ _ _ hj, ← hv]
  simp [il, hj]
theorem cc_rg {w : World} {p : Nat} {vw vo : Value} {f g : Nat → Nat} (h : Blk w p 68 (cc vw vo f g)) : w.rangeAt p 18 (il g) := fun j v hv => by
  have hj : j < 16 := by have := (List.getElem?_eq_some_iff.1 hv).1; simpa [il] using this
  rw [h.cell, cc_g _ _ _ _ _ hj, ← hv]
  simp [il, hj]
theorem ia_r {w : World} {p : Nat} {f : Nat → Nat} (h : Blk w p 61 (ia 16 f)) : w.rangeAt p 0 (il f) := fun j v hv => by
  have hj : j < 16 := by have := (List.getElem?_eq_some_iff.1 hv).1; simpa [il] using this
  rw [Nat.zero_add, h.cell, va_at 16 _ j hj, ← hv]
  simp [il, hj]
theorem il_i (f : Nat → Nat) : (Try.prog.info? 61).map (·.size) = some (il f).length := by rw [show (il f).length = 16 by simp [il]]; kernel_rfl

/-- A row of sixteen integers, read out of the midst of a block. -/
theorem wpList_load_il {ops : Array Oper} {rest : List Oper} {op : Oper} {a : Act} {w : World} {Q : Exit → Act → World → Prop} (hgd : op.guard = none) (x : Operand) (ho : op.op = .load 61 x)
    (b o : Nat) (hx : a.eval x = .pointer (some ⟨b, o, none⟩)) (f : Nat → Nat) (hc : w.rangeAt b o (il f))
    (h : wpList Try.prog ops Q rest (a.put op.dst (.agg (ia 16 f))) w) : wpList Try.prog ops Q (op :: rest) a w :=
  wpList_load_mid hgd 61 x ho b o hx (il f) _ hc Try.underlying61 rfl (il_i f) h

/-- The cells of the words: of each symbol its code, turned, and its length. -/
def wordF (ls : List Nat) (i : Nat) : Value := if i % 2 = 0 then .int .u32 (rv (ln ls (i / 2)) (cd ls (i / 2)) : Nat) else .int .i64 (ln ls (i / 2) : Nat)
def wordK (ls : List Nat) (k i : Nat) : Value := if i / 2 < k then wordF ls i else if i % 2 = 0 then .int .u32 0 else .int .i64 0
/-- In the order of the codes the symbols stand. -/
def Ordered (ls : List Nat) (k : Nat) (F : Nat → Value) : Prop := ∀ s, s < k → ln ls s ≠ 0 → F (fp ls (ln ls s) + rk ls s) = .int .i64 (s : Nat)

/-- A code of these lengths stands at p. -/
structure CodeAt (w : World) (p : Nat) (ls : List Nat) : Prop where
  ok : Ok ls
  blk : ∃ gw go F, Blk w p 68 (cc (.slice (some ⟨gw, 0, none⟩) ls.length ls.length) (.slice (some ⟨go, 0, none⟩) (many ls) (many ls)) (fc ls) (cn ls)) ∧
    Blk w gw 71 (va (ls.length * 2) (wordF ls)) ∧ Blk w go 3 (va (many ls) F) ∧ Ordered ls ls.length F

theorem CodeAt.below {w w' : World} {p : Nat} {ls : List Nat} (h : CodeAt w p ls) (hb : Below w.heap.size w w') : CodeAt w' p ls := by
  obtain ⟨ho, gw, go, F, h1, h2, h3, h4⟩ := h
  exact ⟨ho, gw, go, F, h1.below hb, h2.below hb, h3.below hb, h4⟩
theorem CodeAt.drewN {w : World} {p : Nat} {ls : List Nat} (h : CodeAt w p ls) (n : Nat) : CodeAt (w.drewN n) p ls := h.below (below_drewN (Below.refl _ _) n)

/-- While the codes are given. -/
structure Gv (w : World) (pc gw go pp pk : Nat) (CC W O P K : Array Value) (wr : World) : Prop where
  c : Blk wr pc 68 CC
  wd : Blk wr gw 71 W
  od : Blk wr go 3 O
  pl : Blk wr pp 61 P
  cs : Blk wr pk 61 K
  touch : Touch (fun k => k = pc) w wr
  lo : pc < w.heap.size ∧ w.heap.size ≤ gw ∧ gw < go ∧ go < pp ∧ pp < pk
section
variable {w wr : World} {pc gw go pp pk : Nat} {CC W O P K : Array Value}
theorem Gv.drew (h : Gv w pc gw go pp pk CC W O P K wr) : Gv w pc gw go pp pk CC W O P K wr.drew := ⟨h.c, h.wd, h.od, h.pl, h.cs, h.touch.drew, h.lo⟩
theorem Gv.setW (h : Gv w pc gw go pp pk CC W O P K wr) (i : Nat) (u : Value) : Gv w pc gw go pp pk CC (W.setIfInBounds i u) O P K (wr.setCell ⟨gw, i, none⟩ u) := by
  have := h.lo
  exact ⟨h.c.other i u (by omega), h.wd.setCell i u, h.od.other i u (by omega), h.pl.other i u (by omega), h.cs.other i u (by omega), h.touch.setCell _ _ (.inr (by show w.heap.size ≤ gw; omega)), h.lo⟩
theorem Gv.setO (h : Gv w pc gw go pp pk CC W O P K wr) (i : Nat) (u : Value) : Gv w pc gw go pp pk CC W (O.setIfInBounds i u) P K (wr.setCell ⟨go, i, none⟩ u) := by
  have := h.lo
  exact ⟨h.c.other i u (by omega), h.wd.other i u (by omega), h.od.setCell i u, h.pl.other i u (by omega), h.cs.other i u (by omega), h.touch.setCell _ _ (.inr (by show w.heap.size ≤ go; omega)), h.lo⟩
theorem Gv.setP (h : Gv w pc gw go pp pk CC W O P K wr) (i : Nat) (u : Value) : Gv w pc gw go pp pk CC W O (P.setIfInBounds i u) K (wr.setCell ⟨pp, i, none⟩ u) := by
  have := h.lo
  exact ⟨h.c.other i u (by omega), h.wd.other i u (by omega), h.od.other i u (by omega), h.pl.setCell i u, h.cs.other i u (by omega), h.touch.setCell _ _ (.inr (by show w.heap.size ≤ pp; omega)), h.lo⟩
theorem Gv.setK (h : Gv w pc gw go pp pk CC W O P K wr) (i : Nat) (u : Value) : Gv w pc gw go pp pk CC W O P (K.setIfInBounds i u) (wr.setCell ⟨pk, i, none⟩ u) := by
  have := h.lo
  exact ⟨h.c.other i u (by omega), h.wd.other i u (by omega), h.od.other i u (by omega), h.pl.other i u (by omega), h.cs.setCell i u, h.touch.setCell _ _ (.inr (by show w.heap.size ≤ pk; omega)), h.lo⟩
end

/-- What a row of sixteen holds behind k symbols. -/
def run_ (b : Nat → Nat) (ls : List Nat) (k n : Nat) : Nat := b n + if n = 0 then 0 else (ls.take k).count n
theorem run_zero (b : Nat → Nat) (ls : List Nat) : run_ b ls 0 = b := by funext n; simp [run_]
theorem run_same (b : Nat → Nat) {ls : List Nat} {k : Nat} (hk : k < ls.length) (h : ln ls k = 0) : run_ b ls (k + 1) = run_ b ls k := by
  funext n
  unfold run_
  rw [take_succ_ln hk, List.count_append, h]
  by_cases e : n = 0
  · simp [e]
  · simp [e, Ne.symm e]
theorem run_step (b : Nat → Nat) {ls : List Nat} {k : Nat} (hk : k < ls.length) (h : ln ls k ≠ 0) (n : Nat) : run_ b ls (k + 1) n = if n = ln ls k then run_ b ls k (ln ls k) + 1 else run_ b ls k n := by
  unfold run_
  rw [take_succ_ln hk, List.count_append, List.count_singleton]
  by_cases e : n = ln ls k
  · subst e; simp [h]; omega
  · simp [e, Ne.symm e]
theorem run_at (b : Nat → Nat) {ls : List Nat} {k : Nat} (h : ln ls k ≠ 0) : run_ b ls k (ln ls k) = b (ln ls k) + rk ls k := by
  unfold run_ rk
  rw [if_neg h]

theorem word_zero (ls : List Nat) : wordK ls 0 = fun i => if i % 2 = 0 then .int .u32 0 else .int .i64 0 := by
  funext i
  simp [wordK]
theorem word_same {ls : List Nat} {k : Nat} (h : ln ls k = 0) : wordK ls (k + 1) = wordK ls k := by
  funext i
  unfold wordK
  by_cases h1 : i / 2 < k
  · simp [h1, show i / 2 < k + 1 by omega]
  · by_cases h2 : i / 2 = k
    · rw [if_pos (by omega), if_neg h1]
      unfold wordF
      rw [h2, h]
      rfl
    · simp [h1, show ¬ i / 2 < k + 1 by omega]
theorem word_step (n : Nat) (ls : List Nat) (k : Nat) : ((va n (wordK ls k)).setIfInBounds (k * 2) (.int .u32 (rv (ln ls k) (cd ls k) : Nat))).setIfInBounds (k * 2 + 1) (.int .i64 (ln ls k : Nat)) = va n (wordK ls (k + 1)) := by
  rw [va_set, va_set]
  refine va_congr fun i _ => ?_
  unfold wordK
  by_cases h0 : i = k * 2 + 1
  · subst h0
    rw [if_pos rfl, if_pos (by omega)]
    unfold wordF
    rw [if_neg (by omega), show (k * 2 + 1) / 2 = k by omega]
  · rw [if_neg h0]
    by_cases h1 : i = k * 2
    · subst h1
      rw [if_pos rfl, if_pos (by omega)]
      unfold wordF
      rw [if_pos (by omega), show k * 2 / 2 = k by omega]
    · rw [if_neg h1]
      by_cases h2 : i / 2 < k
      · simp [h2, show i / 2 < k + 1 by omega]
      · simp [h2, show ¬ i / 2 < k + 1 by omega]
theorem word_all (ls : List Nat) : va (ls.length * 2) (wordK ls ls.length) = va (ls.length * 2) (wordF ls) := by
  refine va_congr fun i hi => ?_
  unfold wordK
  rw [if_pos (by omega)]
theorem ordered_step {ls : List Nat} {k : Nat} {F : Nat → Value} (h : Ordered ls k F) (hk : ln ls k ≠ 0) : Ordered ls (k + 1) (fun i => if i = fp ls (ln ls k) + rk ls k then .int .i64 (k : Nat) else F i) := by
  intro s hs hl
  show (if _ then _ else _) = _
  by_cases e : s = k
  · subst e; rw [if_pos rfl]
  · rw [if_neg (fun x => e (fp_inj hl hk x))]
    exact h s (by omega) hl
theorem ordered_same {ls : List Nat} {k : Nat} {F : Nat → Value} (h : Ordered ls k F) (hk : ln ls k = 0) : Ordered ls (k + 1) F := by
  intro s hs hl
  by_cases e : s = k
  · subst e; exact absurd hk hl
  · exact h s (by omega) hl
end Go.Proofs.Ythgehgdbplbcfaa
