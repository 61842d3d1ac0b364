
/-
  Objects of two cells whose bytes lie in a row of the call's own; what a reader's Peek answers of such an object.
-/
import Derived.Test.YtjjjchdocnoabaaDoorB
namespace Go.Proofs.YtjjjchdocnoabaaDoor
open Go.RowKit

/-- Of the blocks of w only those of S may have changed. -/
structure Touch (S : Nat → Prop) (w w' : World) : Prop where
  os : w'.os = w.os
  tape : w'.tape = w.tape
  output : w'.output = w.output
  size : w.heap.size ≤ w'.heap.size
  block : ∀ k, k < w.heap.size → ¬ S k → w'.heap[k]? = w.heap[k]?

theorem Touch.refl (S : Nat → Prop) (w : World) : Touch S w w := ⟨rfl, rfl, rfl, Nat.le_refl _, fun _ _ _ => rfl⟩
theorem Touch.trans {S : Nat → Prop} {a b c : World} (h : Touch S a b) (k : Touch S b c) : Touch S a c :=
  ⟨k.os.trans h.os, k.tape.trans h.tape, k.output.trans h.output, Nat.le_trans h.size k.size, fun i hi hs => (k.block i (Nat.lt_of_lt_of_le hi h.size) hs).trans (h.block i hi hs)⟩
/-- The second step may also touch what the first one has made. -/
theorem Touch.trans' {S T : Nat → Prop} {a b c : World} (h : Touch S a b) (k : Touch T b c) (hT : ∀ i, T i → i < a.heap.size → S i) : Touch S a c :=
  ⟨k.os.trans h.os, k.tape.trans h.tape, k.output.trans h.output, Nat.le_trans h.size k.size, fun i hi hs => (k.block i (Nat.lt_of_lt_of_le hi h.size) (fun ht => hs (hT i ht hi))).trans (h.block i hi hs)⟩
theorem Touch.mono {S T : Nat → Prop} {a b : World} (h : Touch S a b) (hT : ∀ i, S i → T i) : Touch T a b :=
  ⟨h.os, h.tape, h.output, h.size, fun i hi hs => h.block i hi fun s => hs (hT i s)⟩
theorem Touch.drewN {S : Nat → Prop} {a w : World} (h : Touch S a w) (n : Nat) : Touch S a (w.drewN n) := ⟨h.os, h.tape, h.output, h.size, h.block⟩
theorem Touch.drew {S : Nat → Prop} {a w : World} (h : Touch S a w) : Touch S a w.drew := ⟨h.os, h.tape, h.output, h.size, h.block⟩
theorem Touch.alloc {S : Nat → Prop} {a w : World} (h : Touch S a w) (o : Obj) : Touch S a (w.alloc o) :=
  h.trans ⟨rfl, rfl, rfl, by simp, fun k hk _ => Below.heap_alloc _ _ _ hk⟩
theorem Touch.setCell {S : Nat → Prop} {a w : World} (h : Touch S a w) (p : Addr) (u : Value) (hp : S p.block ∨ a.heap.size ≤ p.block) : Touch S a (w.setCell p u) :=
  ⟨h.os, h.tape, h.output, Nat.le_trans h.size (by simp [World.setCell]), fun k hk hs => (Below.heap_setCell _ _ _ _ (fun e => by subst e; rcases hp with hp | hp; exact hs hp; omega)).trans (h.block k hk hs)⟩
theorem Touch.grown {S : Nat → Prop} {a w w' : World} {row : Option Nat} (h : Touch S a w) (hg : w.grownBy w' row) (hr : ∀ k, row = some k → S k ∨ a.heap.size ≤ k) : Touch S a w' :=
  ⟨hg.os.trans h.os, hg.tape.trans h.tape, hg.output.trans h.output, Nat.le_trans h.size hg.size, fun k hk hs =>
    (hg.block k (Nat.lt_of_lt_of_le hk h.size) (fun e => by rcases hr k e.symm with hp | hp; exact hs hp; omega)).trans (h.block k hk hs)⟩
theorem Touch.below {S : Nat → Prop} {a b : World} {B : Nat} (h : Touch S a b) (hB : B ≤ a.heap.size) (hS : ∀ k, S k → B ≤ k) : Below B a b :=
  ⟨h.os, h.tape, h.output, h.size, fun k hk => h.block k (by omega) fun s => by have := hS k s; omega⟩

/-- An object of two cells, bytes and a number, whose bytes lie in a row of the call's own (block g). -/
structure Ob (w : World) (base t p : Nat) (g : Option Nat) (bs : List Nat) (n : Nat) : Prop where
  blk : ∃ sv, w.heap[p]? = some (.cells #[sv, .int .i64 n] t (0, 0)) ∧ sv.ownBlock = g ∧ w.ownsRow base 5 1 sv bs.length (bs.map fun x : Nat => Value.int .u8 (x : Int))
  hp : base ≤ p
  hb : Bs bs
  ht : t ≠ 5

/-- The blocks of such an object. -/
def Foot (p : Nat) (g : Option Nat) (k : Nat) : Prop := k = p ∨ g = some k

theorem ownsRow_touch {S : Nat → Prop} {w w' : World} {base : Nat} {e : TypeId} {size : Nat} {v : Value} {n : Nat} {xs : List Value} (h : w.ownsRow base e size v n xs) (ht : Touch S w w') (hs : ∀ k, v.ownBlock = some k → ¬ S k) : w'.ownsRow base e size v n xs := by
  refine ⟨h.1, ?_⟩
  rcases h.2 with hn | ⟨g, cap, cur, rfl, hb, hgg, rest⟩
  · exact .inl hn
  · refine .inr ⟨g, cap, cur, rfl, hb, ?_, rest⟩
    rw [ht.block g (Array.getElem?_eq_some_iff.1 hgg).1 (hs g (by simp [Value.ownBlock]))]
    exact hgg

theorem Ob.lt {w : World} {base t p : Nat} {g : Option Nat} {bs : List Nat} {n : Nat} (h : Ob w base t p g bs n) : p < w.heap.size ∧ ∀ k, g = some k → base ≤ k ∧ k < w.heap.size ∧ k ≠ p := by
  obtain ⟨sv, h1, rfl, h3⟩ := h.blk
  refine ⟨lt_of_block h1, fun k hk => ⟨(h3.lt k hk).1, (h3.lt k hk).2, fun e => ?_⟩⟩
  rcases h3.2 with ⟨rfl, _⟩ | ⟨g', cap, cur, rfl, _, hh, _⟩
  · simp [Value.ownBlock] at hk
  · simp [Value.ownBlock] at hk
    subst hk; subst e
    rw [hh] at h1
    simp at h1
    exact h.ht h1.2.symm

theorem Ob.touch {S : Nat → Prop} {w w' : World} {base t p : Nat} {g : Option Nat} {bs : List Nat} {n : Nat} (h : Ob w base t p g bs n) (ht : Touch S w w') (hs : ∀ k, Foot p g k → ¬ S k) : Ob w' base t p g bs n := by
  obtain ⟨hp, hg⟩ := h.lt
  obtain ⟨sv, h1, h2, h3⟩ := h.blk
  exact ⟨⟨sv, (ht.block p hp (hs p (.inl rfl))).trans h1, h2, ownsRow_touch h3 ht fun k hk => hs k (.inr (h2 ▸ hk))⟩, h.hp, h.hb, h.ht⟩

theorem Ob.foot_lt {w : World} {base t p : Nat} {g : Option Nat} {bs : List Nat} {n : Nat} (h : Ob w base t p g bs n) {k : Nat} (hk : Foot p g k) : base ≤ k ∧ k < w.heap.size := by
  rcases hk with rfl | hk
  · exact ⟨h.hp, h.lt.1⟩
  · exact ⟨(h.lt.2 k hk).1, (h.lt.2 k hk).2.1⟩

theorem Ob.drewN {w : World} {base t p : Nat} {g : Option Nat} {bs : List Nat} {n : Nat} (h : Ob w base t p g bs n) (m : Nat) : Ob (w.drewN m) base t p g bs n := ⟨h.blk, h.hp, h.hb, h.ht⟩

/-- What the walk wants of such an object. -/
structure Seen (w : World) (base p : Nat) (g : Option Nat) (bs : List Nat) (n : Nat) (sv : Value) : Prop where
  c0 : w.cell? ⟨p, 0, none⟩ = some sv
  c1 : w.cell? ⟨p, 1, none⟩ = some (.int .i64 n)
  f0 : w.frozen? ⟨p, 0, none⟩ = false
  f1 : w.frozen? ⟨p, 1, none⟩ = false
  own : w.ownsRow base 5 1 sv bs.length (bs.map fun x : Nat => Value.int .u8 (x : Int))
  hg : sv.ownBlock = g

theorem row_cell {w : World} {base g cap : Nat} {bs : List Nat} (h : w.ownsRow base 5 1 (.slice (some ⟨g, 0, none⟩) bs.length cap) bs.length (bs.map fun x : Nat => Value.int .u8 (x : Int))) (j : Nat) (hj : j < bs.length) : w.cell? ⟨g, j, none⟩ = some (.int .u8 (byt bs j)) := by
  rw [h.cellAt j (by omega)]
  simp [byt, List.getD, hj]

theorem Ob.see {w : World} {base t p : Nat} {g : Option Nat} {bs : List Nat} {n : Nat} (h : Ob w base t p g bs n) :
    (Seen w base p g bs n (.slice none 0 0) ∧ bs = [] ∧ g = none) ∨
    ∃ g0 cap, Seen w base p g bs n (.slice (some ⟨g0, 0, none⟩) bs.length cap) ∧ g = some g0 ∧ bs.length ≤ cap ∧ cap ≤ maxLen := by
  obtain ⟨sv, h1, h2, h3⟩ := h.blk
  obtain ⟨c0, c1, f0, f1⟩ := two_cell h1
  have hs : Seen w base p g bs n sv := ⟨c0, c1, f0, f1, h3, h2⟩
  rcases h3.2 with ⟨rfl, hl⟩ | ⟨g', cap, cur, rfl, _, hh, hc, hm, _⟩
  · exact .inl ⟨hs, List.eq_nil_of_length_eq_zero hl, by simpa [Value.ownBlock] using h2.symm⟩
  · exact .inr ⟨g', cap, hs, by simpa [Value.ownBlock] using h2.symm, hc, hm⟩

/-- Behind a store into the second cell. -/
theorem two_set1 {w : World} {p : Nat} {a b u : Value} {t : TypeId} (h : w.heap[p]? = some (.cells #[a, b] t (0, 0))) : (w.setCell ⟨p, 1, none⟩ u).heap[p]? = some (.cells #[a, u] t (0, 0)) := by
  have hlt := lt_of_block h
  have h' : w.heap[p] = .cells #[a, b] t (0, 0) := by simpa [Array.getElem?_eq_getElem hlt] using h
  show (w.heap.modify p _)[p]? = _
  rw [Array.getElem?_eq_getElem (by simpa using hlt), Array.getElem_modify_self, h']
  rfl
theorem two_set0 {w : World} {p : Nat} {a b u : Value} {t : TypeId} (h : w.heap[p]? = some (.cells #[a, b] t (0, 0))) : (w.setCell ⟨p, 0, none⟩ u).heap[p]? = some (.cells #[u, b] t (0, 0)) := by
  have hlt := lt_of_block h
  have h' : w.heap[p] = .cells #[a, b] t (0, 0) := by simpa [Array.getElem?_eq_getElem hlt] using h
  show (w.heap.modify p _)[p]? = _
  rw [Array.getElem?_eq_getElem (by simpa using hlt), Array.getElem_modify_self, h']
  rfl

theorem Ob.set1 {w : World} {base t p : Nat} {g : Option Nat} {bs : List Nat} {n : Nat} (h : Ob w base t p g bs n) (m : Nat) : Ob (w.setCell ⟨p, 1, none⟩ (.int .i64 m)) base t p g bs m := by
  have hg := h.lt.2
  obtain ⟨sv, h1, h2, h3⟩ := h.blk
  exact ⟨⟨sv, two_set1 h1, h2, ownsRow_setCell_other h3 (fun e => by have := hg p (h2 ▸ e); omega) _⟩, h.hp, h.hb, h.ht⟩

/-! ### The reader -/
def pk (bs : List Nat) (at_ n : Nat) : Nat := num bs / 2 ^ at_ % 2 ^ n

end Go.Proofs.YtjjjchdocnoabaaDoor
