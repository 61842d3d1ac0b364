/-
  HuffBack: the walk, first half: what is written.
-/
import Derived.Test.YthgehgdbplbcfaaW
namespace Go.Proofs.Ythgehgdbplbcfaa
open Go.RowKit

theorem cells_one (W : World) (u : Value) (e : TypeId) : CellsAt (W.alloc (.cells #[u] e)) (.slice (some ⟨W.heap.size, 0, none⟩) 1 1) 1 [u] := by
  refine .inr ⟨_, 1, rfl, fun j x hx => ?_⟩
  match j, hx with
  | 0, hx =>
    rw [Addr.add_lit, World.cell?_alloc_at _ _ _ _ rfl]
    exact hx

/-- The head of the first loop. -/
def Sent (w2 : World) (pw gc : Nat) (ls : List Nat) (k : Nat) (v : Value) (wr : World) : Prop :=
  ∃ (m sc : Nat) (so : Option Addr) (l : List Nat), m ≤ k ∧ v = .slice so m sc ∧ (∀ s ∈ l, ln ls s ≠ 0) ∧ Bw w2.heap.size pw gc so sc (ia ls.length fun s => l.count s) m l (wl ls l).1 (wl ls l).2 w2 wr

theorem sent_start {w2 w3 W : World} {pw gc : Nat} {ls : List Nat} (hw : WrT w2 w3 w2.heap.size pw 0 0) (hg : gc = w3.heap.size) (hb : Blk W gc 3 (ia ls.length fun _ => 0)) (ht : Touch (fun _ => False) w3 W) (hs : W.heap.size = w3.heap.size + 1) :
    Sent w2 pw gc ls 0 (.slice (some ⟨W.heap.size, 0, none⟩) 0 0) (W.alloc (.cells #[] 3)) := by
  obtain ⟨g, h1, h2⟩ := hw
  have t := ht.alloc (.cells #[] 3)
  have hB : w2.heap.size ≤ w3.heap.size := h2.size
  refine ⟨0, 0, some ⟨W.heap.size, 0, none⟩, [], Nat.le_refl _, rfl, (fun s h => by cases h), ⟨g, h1.touch t (fun _ _ h => h), fun k hk => ?_⟩, ?_, ?_, rfl, ?_, h2.trans (t.mono fun _ h => h.elim), by omega⟩
  · have := (h1.foot hk).2
    refine ⟨by omega, fun e => ?_⟩
    simp [Value.ownBlock] at e
    omega
  · have : Blk (W.alloc (.cells #[] 3)) gc 3 (ia ls.length fun _ => 0) := hb.touch ((Touch.refl (fun _ => False) W).alloc _) (fun h => h)
    simpa using this
  · exact own_base (own_none W 3 1) (by omega)
  · simp [Value.ownBlock]; omega

theorem iz' (n : Nat) : va (n * 1) (fun i => (Value.int .i64 0).cells[i % (Value.int .i64 0).cells.size]!) = ia n (fun _ => 0) := iz n
end Go.Proofs.Ythgehgdbplbcfaa
