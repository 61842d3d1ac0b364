/-
  CrcSums where n is below 0.
-/
import Derived.Test.YtbepppbpllljdaaDoorL
namespace Go.Proofs.YtbepppbpllljdaaDoor.crcSums
open Go.ChangeShapes Go.WideShapes Go.ChangeAt Go.RowKit CrcPlain
set_option linter.unusedVariables false

set_option maxHeartbeats 1600000 in
theorem walk_neg (ao : Option Addr) (cap : Nat) (xs : List Nat) (s : BitVec 32) (n : Int) (hl : xs.length ≤ 5000) (hn : n < 0) (hb : Bs xs) (w : World) (hs : Src w ao xs) (hT : Tab w) :
    Calls Tryd.prog 3 #[.slice ao xs.length cap, .int .u32 (s.toNat : Int), .int .i64 n] w fun e w' => e = .returned (.bool true) ∧ Below w.heap.size w w' := by
  obtain ⟨V1, V2, V3, hC⟩ := sumsC w ao cap xs s n hl (by omega) hb hs hT
  rw [show n.toNat = 0 from by omega] at hC
  have HC := Lib.hid hC
  have HA := Lib.hid (alive_any w hT)
  have h1' : decide ((5000 : Int) < xs.length) = false := by simp; omega
  have h1'' : decide (5000 < xs.length) = false := by simp; omega
  have h2' : decide ((5000 : Int) < n) = false := by simp; omega
  have HM := make22_0
  have hmax : (if (0 : Int) > n then 0 else n) = 0 := if_pos (by omega)
  clear hT hb hs hC
  go_enter Tryd.func3, Tryd.ntmps3
  go_wp2_with (go_at_call 8; refine HA.out.mono ?_; rintro e w1 ⟨rfl, hb1⟩; have HB := Lib.hid hb1.drew; clear hb1)
  go_region_with (first
    | (go_at_call 9; (with_reducible refine (HC.out.a9 _ HB.out).mono ?_); rintro e w2 ⟨rfl, hb2⟩; have HB := Lib.hid hb2; clear hb2)
    | (go_at_call 10; (with_reducible refine (HC.out.a10 _ HB.out).mono ?_); rintro e w2 ⟨rfl, hb2⟩; have HB := Lib.hid hb2; clear hb2)
    | (go_at_call 11; (with_reducible refine (HC.out.a11 _ HB.out).mono ?_); rintro e w2 ⟨rfl, hb2⟩; have HB := Lib.hid hb2; clear hb2)
    | (go_at_call 13; (with_reducible refine (HC.out.a13 _ HB.out).mono ?_); rintro e w2 ⟨rfl, hb2⟩; have HB := Lib.hid hb2; clear hb2)
    | (go_at_call 13; (with_reducible refine (HC.out.a13m _ HB.out).mono ?_); rintro e w2 ⟨rfl, hb2, hz2⟩; have HB := Lib.hid hb2; have HZ := Lib.hid hz2; clear hb2 hz2)
    | (go_at_call_of 12 ao; (with_reducible refine (HC.out.a12 _ HB.out).mono ?_); rintro e w2 ⟨rfl, hb2⟩; have HB := Lib.hid hb2; clear hb2)
    | (go_at_call 12; (with_reducible refine (HC.out.n12 _ _ HB.out HZ.out).mono ?_); rintro e w2 ⟨rfl, hb2⟩; have HB := Lib.hid hb2; clear hb2)
    | (go_at_call 12; (with_reducible refine (HC.out.m12 _ HB.out).mono ?_); rintro e w2 ⟨rfl, hb2⟩; have HB := Lib.hid hb2; clear hb2))
  all_goals
    go_wp2
    go_ret
    exact ⟨rfl, HB.out⟩

end Go.Proofs.YtbepppbpllljdaaDoor.crcSums
