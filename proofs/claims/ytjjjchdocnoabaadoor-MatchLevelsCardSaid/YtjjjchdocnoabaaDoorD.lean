
/-
  Contracts of a reader's other calls.
-/
import Derived.Test.YtjjjchdocnoabaaDoorC
namespace Go.Proofs.YtjjjchdocnoabaaDoor
open Go.RowKit

/-- Only block p may have changed; there stands an object with the number m. -/
def Moved (w : World) (base t p : Nat) (g : Option Nat) (bs : List Nat) (m : Nat) (w' : World) : Prop :=
  Ob w' base t p g bs m ∧ Touch (fun k => k = p) w w'

theorem Moved.mk' {w : World} {base t p : Nat} {g : Option Nat} {bs : List Nat} {n : Nat} (h : Ob w base t p g bs n) (nq m : Nat) {x : Int} (hx : x = (m : Int)) :
    Moved w base t p g bs m ((w.drewN nq).setCell ⟨p, 1, none⟩ (.int .i64 x)) := by
  subst hx
  exact ⟨(h.drewN nq).set1 m, ((Touch.refl _ w).drewN nq).setCell _ _ (.inl rfl)⟩

/-- The next multiple of 8. -/
def up8 (n : Nat) : Nat := (n + 7) / 8 * 8

end Go.Proofs.YtjjjchdocnoabaaDoor
