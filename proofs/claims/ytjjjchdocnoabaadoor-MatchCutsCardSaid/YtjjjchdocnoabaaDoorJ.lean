
/-
  The contract of a writer's Put.
-/
import Derived.Test.YtjjjchdocnoabaaDoorH
namespace Go.Proofs.YtjjjchdocnoabaaDoor
open Go.RowKit

/-- The bytes of a writer hold its bits, and noughts behind. -/
structure WI (bs : List Nat) (n : Nat) : Prop where
  lo : n ≤ 8 * bs.length
  hi : 8 * bs.length < n + 8
  lt : num bs < 2 ^ n

theorem u64_of_u32 (v : Nat) (hv : v < 4294967296) : IntKind.u64.wrap (v : Int) = (v : Int) := by
  rw [IntKind.wrap_u64]; omega

theorem by_one (W : World) (y : Nat) {u : Int} (hu : u = (y : Int)) : BySl (W.alloc (.cells #[.int .u8 u] 5)) (.slice (some ⟨W.heap.size, 0, none⟩) 1 1) [y] := by
  subst hu
  refine .inr ⟨⟨W.heap.size, 0, none⟩, 1, rfl, by simp, fun j u hj => ?_⟩
  match j, hj with
  | 0, hj => simp [u8s] at hj; subst hj; simp [Addr.add]

theorem wrap8 (X d : Nat) : IntKind.u8.wrap ((X : Int) / 2 ^ d) = ((X / 2 ^ d % 256 : Nat) : Int) := by
  rw [IntKind.wrap_u8']; simp

end Go.Proofs.YtjjjchdocnoabaaDoor
