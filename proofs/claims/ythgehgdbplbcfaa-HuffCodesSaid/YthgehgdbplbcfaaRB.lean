/-
  The reference's code in memory: a list of rows of bits.
-/
import Derived.Test.YthgehgdbplbcfaaRA
namespace Go.Proofs.Ythgehgdbplbcfaa
open Go.RowKit

/-- The bits of a symbol's code, the first one first. -/
def cb (ls : List Nat) (s : Nat) : List Nat := (List.range (ln ls s)).map fun j => cd ls s / 2 ^ (ln ls s - 1 - j) % 2
theorem cb_len (ls : List Nat) (s : Nat) : (cb ls s).length = ln ls s := by simp [cb]
theorem cb_at (ls : List Nat) (s j : Nat) (h : j < ln ls s) : (cb ls s).getD j 0 = cd ls s / 2 ^ (ln ls s - 1 - j) % 2 := by simp [cb, List.getD, h]
theorem cb_bs (ls : List Nat) (s : Nat) : Bs (cb ls s) := fun x hx => by
  obtain ⟨j, _, rfl⟩ := List.mem_map.1 hx
  omega
theorem cb_take (ls : List Nat) (s j : Nat) (h : j < ln ls s) : (cb ls s).take (j + 1) = (cb ls s).take j ++ [cd ls s / 2 ^ (ln ls s - 1 - j) % 2] := by
  rw [List.take_succ_eq_append_getElem (by rw [cb_len]; exact h)]
  simp [cb]

/-- The reference's code, while its rows grow. -/
structure Rw (w : World) (pr gl N rm : Nat) (F : Nat → Value) (X : Nat → List Nat) (wr : World) : Prop where
  c : Blk wr pr 41 #[.slice (some ⟨gl, 0, none⟩) N N, .int .i64 (rm : Nat)]
  l : Blk wr gl 38 (va N F)
  rows : ∀ s, s < N → wr.ownsRow w.heap.size 5 1 (F s) (X s).length (u8s (X s))
  ap : ∀ s t k, s < N → t < N → s ≠ t → (F s).ownBlock = some k → (F t).ownBlock ≠ some k
  off : ∀ s k, s < N → (F s).ownBlock = some k → k ≠ pr ∧ k ≠ gl
  ne : pr ≠ gl
  below : Below w.heap.size w wr
  lo : w.heap.size ≤ pr ∧ w.heap.size ≤ gl

theorem Rw.put {w wr w1 : World} {pr gl N rm : Nat} {F : Nat → Value} {X : Nat → List Nat} (h : Rw w pr gl N rm F X wr) {s : Nat} (hs : s < N) {o : Obj} {bit : Nat} {v' : Value} (hA : Apd (wr.alloc o).drew w.heap.size (F s) (X s ++ [bit]) v' w1) :
    Rw w pr gl N rm (fun t => if t = s then v' else F t) (fun t => if t = s then X s ++ [bit] else X t) (w1.setCell ⟨gl, s, none⟩ v') := by
  have t1 : Touch (fun k => (F s).ownBlock = some k) wr w1 := (((Touch.refl _ wr).alloc o).drew).trans hA.touch
  have t2 : Touch (fun k => k = gl) w1 (w1.setCell ⟨gl, s, none⟩ v') := (Touch.refl _ _).setCell _ _ (.inl rfl)
  have hc := h.c.touch t1 (fun e => (h.off s _ hs e).1 rfl)
  have hl := h.l.touch t1 (fun e => (h.off s _ hs e).2 rfl)
  have hv : ∀ k, v'.ownBlock = some k → k ≠ pr ∧ k ≠ gl := fun k hk => by
    rcases hA.row k hk with h1 | h1
    · exact h.off s k hs h1
    · have h2 := h.c.lt
      have h3 := h.l.lt
      have h4 : wr.heap.size ≤ k := by
        have : (wr.alloc o).drew.heap.size = wr.heap.size + 1 := by simp [World.drew]
        omega
      omega
  have hB : w.heap.size ≤ wr.heap.size := h.below.size
  refine ⟨hc.touch t2 h.ne, ?_, fun t ht => ?_, fun a b k ha hb hab hk => ?_, fun t k ht hk => ?_, h.ne, ?_, h.lo⟩
  · have := hl.setCell s v'
    rwa [va_set] at this
  · show (w1.setCell ⟨gl, s, none⟩ v').ownsRow _ 5 1 (if t = s then v' else F t) (if t = s then X s ++ [bit] else X t).length (u8s (if t = s then X s ++ [bit] else X t))
    by_cases e : t = s
    · subst e
      rw [if_pos rfl, if_pos rfl]
      exact ownsRow_touch hA.own t2 (fun k hk e => (hv k hk).2 e)
    · rw [if_neg e, if_neg e]
      refine ownsRow_touch (ownsRow_touch (h.rows t ht) t1 (fun k hk hk2 => h.ap t s k ht hs e hk hk2)) t2 (fun k hk e2 => (h.off t k ht hk).2 e2)
  · have hk' : (if a = s then v' else F a).ownBlock = some k := hk
    show (if b = s then v' else F b).ownBlock ≠ some k
    intro hk2
    by_cases ea : a = s
    · rw [if_pos ea] at hk'
      have eb : b ≠ s := fun e => hab (ea.trans e.symm)
      rw [if_neg eb] at hk2
      rcases hA.row k hk' with h1 | h1
      · exact h.ap s b k hs hb (fun e => eb e.symm) h1 hk2
      · have h2 := (h.rows b hb).lt k hk2
        have : (wr.alloc o).drew.heap.size = wr.heap.size + 1 := by simp [World.drew]
        omega
    · rw [if_neg ea] at hk'
      by_cases eb : b = s
      · rw [if_pos eb] at hk2
        rcases hA.row k hk2 with h1 | h1
        · exact h.ap a s k ha hs ea hk' h1
        · have h2 := (h.rows a ha).lt k hk'
          have : (wr.alloc o).drew.heap.size = wr.heap.size + 1 := by simp [World.drew]
          omega
      · rw [if_neg eb] at hk2
        exact h.ap a b k ha hb hab hk' hk2
  · have hk' : (if t = s then v' else F t).ownBlock = some k := hk
    by_cases e : t = s
    · rw [if_pos e] at hk'; exact hv k hk'
    · rw [if_neg e] at hk'; exact h.off t k ht hk'
  · exact (h.below.trans (t1.below hB fun k hk => ((h.rows s hs).lt k hk).1)).setCell (by show w.heap.size ≤ gl; exact h.lo.2) _

/-- The reference's code of these lengths stands at p. -/
def RAt (w : World) (p : Nat) (ls : List Nat) : Prop :=
  ∃ (gl rm : Nat) (F : Nat → Value), w.cell? ⟨p, 0, none⟩ = some (.slice (some ⟨gl, 0, none⟩) ls.length ls.length) ∧ w.cell? ⟨p, 1, none⟩ = some (.int .i64 (rm : Nat)) ∧
    ∀ s, s < ls.length → w.cell? ⟨gl, s, none⟩ = some (F s) ∧ BySl w (F s) (cb ls s)
end Go.Proofs.Ythgehgdbplbcfaa
