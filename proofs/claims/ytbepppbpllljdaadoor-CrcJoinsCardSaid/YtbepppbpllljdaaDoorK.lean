/-
  From the row's condition on the library's table to the walk's fact; noughts behind noughts.
-/
import Derived.Test.YtbepppbpllljdaaDoorJ
import Derived.Test.YtbepppbpllljdaaDoorCards
import Derived.Test.YtbepppbpllljdaaDoorTie
import Derived.ProofKit
import Derived.OpenShut
import Derived.ShutString
import Derived.ChangeOld
import Derived.SizedLaws
import Derived.LaidMore
import Derived.Lay
import Derived.SevenTiedAt
import Derived.Stop.Joined
import Derived.Lib.LaidTab
namespace Go.Proofs.YtbepppbpllljdaaDoor
open Go.ChangeShapes Go.WideShapes Go.ChangeAt Go.RowKit CrcPlain

theorem own : ownKnob Tryd.prog.godebug = none := by kernel_rfl
theorem laidOut : laidOutB Tryd.prog = true := by kernel_rfl

def dbj : List Int := [0, 1, 28, 2, 29, 14, 24, 3, 30, 22, 20, 15, 25, 17, 4, 8, 31, 27, 13, 23, 21, 19, 16, 7, 26, 12, 18, 6, 11, 5, 10, 9]
theorem dbj_at : ∀ j, j < 32 → dbj.getD j 0 = ((Lib.deBruijn32tab.getD j 0 : Nat) : Int) := by decide

abbrev laidL : List (String × DataW Unit) := [("math/bits.deBruijn32tab", Rows.laid_math_bits_deBruijn32tab)]

theorem tab_of {W : World} (h : laidMetH Tryd.prog laidL W) : Tab W := by
  rw [MakeChecks.laidMetH_plain _ _ _ (by kernel_rfl)] at h
  have ht := Lib.tabIs_of_head (P := Tryd.prog) (name := "math/bits.deBruijn32tab") (k := .u8) (zs := dbj) (rest := []) (g := 0) (t := 51) (e := 5) (n := 32) (by kernel_rfl) (by kernel_rfl) Tryd.underlying51 Tryd.underlying5 (by kernel_rfl) (by kernel_rfl) h
  intro j hj
  have := ht.cell (g := 0) (by kernel_rfl) j hj
  rw [dbj_at j hj] at this
  exact this

theorem zeros_zeros (s : BitVec 32) (n m : Nat) : zeros (zeros s n) m = zeros s (n + m) := by
  unfold zeros
  rw [BitVec.not_not, ← hvs_add, Nat.mul_add]
theorem join_none (s : BitVec 32) : join s 0#32 0 = s := by
  unfold join
  rw [Nat.mul_zero]
  simp [hvs]
theorem join_zeros (s : BitVec 32) (n : Nat) : join s (zeros 0#32 n) n = zeros s n := by
  have h := upd_join s (List.replicate n 0#8)
  rw [upd, upd, feed_zeros, feed_zeros, List.length_replicate] at h
  exact h.symm

theorem zeros_v (x V : BitVec 32) (n : Int) (hn : n ≤ 9223372036854775807) (hV : zeros x n.toNat = V) (w : World) (hT : Tab w) :
    Calls Tryd.prog 13 #[.int .u32 (x.toNat : Int), .int .i64 n] w fun e w' => e = .returned (.int .u32 (V.toNat : Int)) ∧ Below w.heap.size w w' := by
  subst hV; exact zeros_any x n hn w hT
theorem zeros_0 (V : BitVec 32) (n : Int) (hn : n ≤ 9223372036854775807) (hV : zeros 0#32 n.toNat = V) (w : World) (hT : Tab w) :
    Calls Tryd.prog 13 #[.int .u32 0, .int .i64 n] w fun e w' => e = .returned (.int .u32 (V.toNat : Int)) ∧ Below w.heap.size w w' := by
  subst hV; exact zeros_any 0#32 n hn w hT
theorem join_v (a b V : BitVec 32) (n : Int) (hn : n ≤ 9223372036854775807) (hV : join a b n.toNat = V) (w : World) (hT : Tab w) :
    Calls Tryd.prog 15 #[.int .u32 (a.toNat : Int), .int .u32 (b.toNat : Int), .int .i64 n] w fun e w' => e = .returned (.int .u32 (V.toNat : Int)) ∧ Below w.heap.size w w' := by
  subst hV; exact join_any a b n hn w hT
theorem join_0 (a : BitVec 32) (w : World) (hT : Tab w) :
    Calls Tryd.prog 15 #[.int .u32 (a.toNat : Int), .int .u32 0, .int .i64 0] w fun e w' => e = .returned (.int .u32 (a.toNat : Int)) ∧ Below w.heap.size w w' := by
  have h := join_any a 0#32 0 (by omega) w hT
  rw [show (0 : Int).toNat = 0 from rfl, join_none] at h
  exact h

theorem u32_of {a : Int} (h : (Lit.int .u32 a).wf = true) : ∃ x : BitVec 32, a = (x.toNat : Int) := by
  have hb := bounds_u32 h
  refine ⟨BitVec.ofNat 32 a.toNat, ?_⟩
  rw [BitVec.toNat_ofNat, Nat.mod_eq_of_lt (by omega)]
  omega
end Go.Proofs.YtbepppbpllljdaaDoor
