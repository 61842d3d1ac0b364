/-
  Contracts of the small functions of package crc: one halving, and the number of noughts at a number's end.
-/
import Derived.Test.YtbepppbpllljdaaDoorRows
import Derived.WalkKit
import Derived.WalkSpells
import Derived.WalkLawsBesides
import Derived.Deep.QuietTactic
import Derived.BigQuiet
import Derived.Lib.Hide
import Derived.BigRegion
import Derived.Below
import Derived.Lib.TrailingZeros
import Derived.Test.YtbepppbpllljdaaDoorPlain
namespace Go.Proofs.YtbepppbpllljdaaDoor
open Go.RowKit CrcPlain

theorem b_xor (x y : BitVec 32) : bits BinOp.xor IntKind.u32 (x.toNat : Int) (y.toNat : Int) = ((x ^^^ y).toNat : Int) := by
  rw [u32_xor_nat _ _ x.isLt y.isLt, BitVec.toNat_xor]
theorem b_and (x y : BitVec 32) : bits BinOp.and IntKind.u32 (x.toNat : Int) (y.toNat : Int) = ((x &&& y).toNat : Int) := by
  rw [u32_and_nat _ _ x.isLt y.isLt, BitVec.toNat_and]
theorem b_poly (x : BitVec 32) : bits BinOp.xor IntKind.u32 (x.toNat : Int) 3988292384 = ((x ^^^ poly).toNat : Int) := b_xor x poly
theorem b_one (x : BitVec 32) : bits BinOp.and IntKind.u32 (x.toNat : Int) 1 = if x.getLsbD 0 then 1 else 0 := by
  rw [show (1 : Int) = ((1 : Nat) : Int) from rfl, u32_and_nat _ _ x.isLt (by omega), nat_mask1, BitVec.getLsbD, Nat.testBit_zero]
  rcases Nat.mod_two_eq_zero_or_one x.toNat with h | h <;> simp [h]
theorem b_half (x : BitVec 32) : Int.ofNat x.toNat / (2 : Int) = Int.ofNat (x >>> 1).toNat := by
  rw [BitVec.toNat_ushiftRight, Nat.shiftRight_eq_div_pow]; simp

theorem ret_int {k : IntKind} {a b : Int} (h : a = b) : Ending.returned (.int k a) = .returned (.int k b) := by rw [h]

theorem halve_any (x : BitVec 32) (w : World) :
    Calls Tryd.prog 22 #[.int .u32 (x.toNat : Int)] w fun e w' => e = .returned (.int .u32 ((hv1 x).toNat : Int)) ∧ w = w' := by
  have h1 := b_one x
  have hx := x.isLt
  cases hb : x.getLsbD 0
  · have HS := Lib.hid (show ((x.toNat : Int) / 2) = ((hv1 x).toNat : Int) by unfold hv1; rw [hb]; exact (b_half x).trans (by simp))
    rw [hb] at h1
    clear hb
    simp only [Bool.false_eq_true, if_false] at h1
    go_enter Tryd.func22, Tryd.ntmps22
    go_wp2
    go_ret
    exact ⟨ret_int HS.out, rfl⟩
  · have HS := Lib.hid (show bits BinOp.xor IntKind.u32 ((x.toNat : Int) / 2) 3988292384 = ((hv1 x).toNat : Int) by unfold hv1; rw [hb]; exact (congrArg (fun z => bits BinOp.xor IntKind.u32 z 3988292384) (b_half x)).trans ((b_poly _).trans (by simp)))
    rw [hb] at h1
    clear hb
    simp only [if_true] at h1
    go_enter Tryd.func22, Tryd.ntmps22
    go_wp2
    go_ret
    exact ⟨ret_int HS.out, rfl⟩

/-- The table by which the library finds a number's lowest bit stands in its variable. -/
def Tab (w : World) : Prop := ∀ j, j < 32 → w.cell? ⟨0, j, none⟩ = some (.int .u8 (Lib.deBruijn32tab.getD j 0))

theorem tz_key (x a : Nat) (hx : x < 4294967296) (hx0 : x ≠ 0) (hlow : x &&& (4294967296 - x) = a) :
    bits BinOp.and IntKind.u32 (x : Int) (-(x : Int) % 4294967296) * 125613361 % 4294967296 / 134217728 = ((a * 125613361 % 4294967296 / 134217728 : Nat) : Int) := by
  have e1 : -(x : Int) % 4294967296 = ((4294967296 - x : Nat) : Int) := by omega
  rw [e1, u32_and_nat x _ hx (by omega), hlow]
  omega

theorem tz_core (x k idx : Nat) (w : World) (hx0 : ((x : Int) == 0) = false)
    (key : bits BinOp.and IntKind.u32 (x : Int) (-(x : Int) % 4294967296) * 125613361 % 4294967296 / 134217728 = (idx : Int))
    (hi : idx < 32) (hk : k < 32) (hcell : w.cell? ⟨0, idx, none⟩ = some (.int .u8 k)) :
    Calls Tryd.prog 26 #[.int .u32 x] w fun e w' => e = .returned (.int .i64 k) ∧ w = w' := by
  go_enter Tryd.func26, Tryd.ntmps26
  go_wp2_with (simp only [key])
  go_ret
  exact ⟨rfl, rfl⟩

/-- What noughts stand at the end of x, x not 0. -/
theorem tz_any (x : Nat) (h0 : x ≠ 0) (hx : x < 4294967296) (w : World) (hT : Tab w) :
    Calls Tryd.prog 26 #[.int .u32 x] w fun e w' => e = .returned (.int .i64 (Lib.ctz 32 x)) ∧ w = w' := by
  obtain ⟨hlow, hk⟩ := Lib.lowest_bit 32 x h0 hx
  obtain ⟨hi, htab⟩ := Lib.deBruijn32_at _ hk
  have hcell := hT _ hi
  rw [htab] at hcell
  exact tz_core x _ _ w (by simp; omega) (tz_key x _ hx h0 hlow) hi hk hcell
end Go.Proofs.YtbepppbpllljdaaDoor
