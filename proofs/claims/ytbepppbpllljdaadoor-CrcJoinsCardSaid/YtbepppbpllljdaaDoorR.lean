/-
  A row of bytes that append has made.
-/
import Derived.Test.YtbepppbpllljdaaDoorQ
import Derived.Laws.OwnMore
import Derived.Laws.AppendOwn
import Derived.OwnWalk
namespace Go.Proofs.YtbepppbpllljdaaDoor
open Go.RowKit CrcPlain

def u8s (l : List Nat) : List Value := l.map fun x : Nat => Value.int .u8 (x : Int)
theorem u8s_len (l : List Nat) : (u8s l).length = l.length := by simp [u8s]
theorem u8s_one (l : List Nat) : ∀ u ∈ u8s l, u.oneCell' = true := by
  intro u hu
  obtain ⟨_, _, rfl⟩ := List.mem_map.1 hu
  rfl
theorem u8s_at (l : List Nat) (j : Nat) (h : j < l.length) : (u8s l)[j]? = some (.int .u8 ((l.getD j 0 : Nat) : Int)) := by simp [u8s, h, List.getD]
theorem own_shape {w : World} {base : Nat} {e : TypeId} {size : Nat} {v : Value} {n : Nat} {xs : List Value} (h : w.ownsRow base e size v n xs) (hn : 0 < n) : ∃ g c, v = .slice (some ⟨g, 0, none⟩) n c ∧ base ≤ g := by
  rcases h.2 with ⟨rfl, rfl⟩ | ⟨g, cap, cur, rfl, hb, _⟩
  · omega
  · exact ⟨g, cap, rfl, hb⟩
theorem own_empty (w : World) : (w.alloc (.cells #[] 5)).ownsRow w.heap.size 5 1 (.slice (some ⟨w.heap.size, 0, none⟩) 0 0) 0 [] :=
  World.ownsRow_made w #[] 0 (Nat.le_refl _) (Nat.zero_le _) rfl

/-- Block g holds n bytes, told by f, and maybe room behind. -/
def Own (w : World) (B g cap n : Nat) (f : Nat → Nat) : Prop := w.ownsRow B 5 1 (.slice (some ⟨g, 0, none⟩) n cap) n (u8s (blist n f))

theorem Own.cell {w : World} {B g cap n : Nat} {f : Nat → Nat} (h : Own w B g cap n f) (j : Nat) (hj : j < n) : w.cell? ⟨g, j, none⟩ = some (.int .u8 ((f j : Nat) : Int)) := by
  rw [World.ownsRow.cellAt h j (by omega), u8s_at _ j (by rw [blist_len]; exact hj), blist_at _ _ _ hj]
theorem Own.free {w : World} {B g cap n : Nat} {f : Nat → Nat} (h : Own w B g cap n f) (j : Nat) : w.frozen? ⟨g, j, none⟩ = false := World.ownsRow.frozenAt h j
theorem Own.src {w : World} {B g cap n : Nat} {f : Nat → Nat} (h : Own w B g cap n f) : Src w (some ⟨g, 0, none⟩) (blist n f) := by
  refine .inr ⟨_, _, rfl, fun j hj => ?_⟩
  rw [blist_len] at hj
  rw [Nat.zero_add, h.cell j hj, blist_at _ _ _ hj]
theorem Own.set {w : World} {B g cap n : Nat} {f f' : Nat → Nat} (h : Own w B g cap n f) (j x : Nat) (hf : ∀ i, i < n → f' i = if i = j then x else f i) : Own (w.setCell ⟨g, j, none⟩ (.int .u8 ((x : Nat) : Int))) B g cap n f' := by
  have := (World.ownsRow.stored h j (.int .u8 ((x : Nat) : Int))).1
  have e : (u8s (blist n f)).set j (.int .u8 ((x : Nat) : Int)) = u8s (blist n f') := by
    apply List.ext_getElem?
    intro i
    by_cases hi : i < n
    · rw [u8s_at _ i (by rw [blist_len]; exact hi), blist_at _ _ _ hi, hf i hi, List.getElem?_set]
      by_cases hj : j = i
      · subst hj
        simp [u8s_len, blist_len, hi]
      · have hj' : ¬ i = j := fun e => hj e.symm
        rw [if_neg hj, if_neg hj', u8s_at _ i (by rw [blist_len]; exact hi), blist_at _ _ _ hi]
    · rw [List.getElem?_eq_none (by rw [List.length_set, u8s_len, blist_len]; omega), List.getElem?_eq_none (by rw [u8s_len, blist_len]; omega)]
  rw [e] at this
  exact this
theorem Own.drew {w : World} {B g cap n : Nat} {f : Nat → Nat} (h : Own w B g cap n f) : Own w.drew B g cap n f := h
end Go.Proofs.YtbepppbpllljdaaDoor
