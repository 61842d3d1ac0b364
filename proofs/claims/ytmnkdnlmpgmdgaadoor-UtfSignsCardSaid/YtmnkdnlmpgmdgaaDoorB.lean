
/-
  Small calls on bytes: cut, number, clone, compare, and numbers appended.
-/
import Derived.Test.YtmnkdnlmpgmdgaaDoorA
import Derived.BigQuiet
import Derived.Deep.QuietTactic
import Derived.Deep.LoopGhost
import Derived.Lib.Slices
namespace Go.Proofs.YtmnkdnlmpgmdgaaDoor
open Go.RowKit

/-! ### Numbers -/
/-- The number that bytes are, the lowest first. -/
def num : List Nat → Nat
  | [] => 0
  | x :: r => x + 256 * num r
/-- The lowest k bytes of a number. -/
def le (n : Int) : Nat → List Nat
  | 0 => []
  | k + 1 => le n k ++ [(n / 256 ^ k % 256).toNat]

theorem le_len (n : Int) (k : Nat) : (le n k).length = k := by
  induction k with
  | zero => rfl
  | succ k ih => simp [le, ih]
theorem le_bs (n : Int) (k : Nat) : Bs (le n k) := by
  induction k with
  | zero => exact Bs.nil
  | succ k ih =>
    refine ih.app fun x h => ?_
    rw [List.mem_singleton] at h
    have : 0 ≤ n / 256 ^ k % 256 ∧ n / 256 ^ k % 256 < 256 := ⟨Int.emod_nonneg _ (by omega), Int.emod_lt_of_pos _ (by omega)⟩
    omega
theorem num_app (a b : List Nat) : num (a ++ b) = num a + 256 ^ a.length * num b := by
  induction a with
  | nil => simp [num]
  | cons x r ih => simp only [List.cons_append, num, ih, List.length_cons, Nat.pow_succ, Nat.mul_add]; rw [Nat.mul_comm (256 ^ r.length) 256, Nat.mul_assoc]; omega
theorem num_lt {l : List Nat} (h : Bs l) : num l < 256 ^ l.length := by
  induction l with
  | nil => simp [num]
  | cons x r ih =>
    have h1 := ih fun y hy => h y (List.mem_cons_of_mem _ hy)
    have h2 := h x (List.mem_cons_self)
    simp only [num, List.length_cons, Nat.pow_succ]
    omega
theorem num_le2 (n : Int) : (num (le n 2) : Int) = n % 65536 := by
  simp [le, num]; omega
theorem num_le4 (n : Int) : (num (le n 4) : Int) = n % 4294967296 := by
  simp [le, num]; omega
theorem le_num2 {l : List Nat} (h : Bs l) (hl : l.length = 2) : le (num l) 2 = l := by
  match l, hl with
  | [a, b], _ =>
    have ha := h a (by simp)
    have hb := h b (by simp)
    simp [le, num]; omega
theorem le_num4 {l : List Nat} (h : Bs l) (hl : l.length = 4) : le (num l) 4 = l := by
  match l, hl with
  | [a, b, c, d], _ =>
    have ha := h a (by simp)
    have hb := h b (by simp)
    have hc := h c (by simp)
    have hd := h d (by simp)
    simp [le, num]; omega

/-! ### Slices of bytes -/
theorem elem22 : Tryd.prog.elem 22 = 5 := by simp [Program.elem, Tryd.underlying22]
theorem ht22 : Tryd.prog.underlying 22 = some (.slice (Tryd.prog.elem 22)) := by rw [elem22]; exact Tryd.underlying22
theorem size5 (W : World) : (sizeOf 5).run Tryd.prog W = .ok 1 W := by
  obtain ⟨i0, hi, hz0, hz1, hz2⟩ := info_parts at22.info
  simp [sizeOf, typeInfo, hi, hz1]

def cutA (ao : Option Addr) (c a : Nat) : Option Addr := if c = a then ao else ao.map (·.add (a * 1))
theorem cutA_zero (ao : Option Addr) (c : Nat) : cutA ao c 0 = ao := by
  unfold cutA
  split
  · rfl
  · cases ao <;> simp [Addr.add]
theorem slice_lh (ao : Option Addr) (len c a b : Nat) (hab : a ≤ b) (hbc : b ≤ c) (W : World) :
    (Instr.slice 22 (.slice ao len c) (some (.int .i64 (a : Int))) (some (.int .i64 (b : Int))) none).run Tryd.prog W = .ok (.slice (cutA ao c a) (b - a) (c - a)) W := by
  rw [run_slice_lh W 22 ao len c ht22 .i64 .i64 _ _ (by omega) (by omega) (by omega), elem22, size5]
  simp only [Result.andThen, sliced, Int.toNat_natCast, cutA]
theorem slice_l (ao : Option Addr) (len c a : Nat) (hab : a ≤ len) (W : World) :
    (Instr.slice 22 (.slice ao len c) (some (.int .i64 (a : Int))) none none).run Tryd.prog W = .ok (.slice (cutA ao c a) (len - a) (c - a)) W := by
  rw [run_slice_l W 22 ao len c ht22 .i64 _ (by omega) (by omega), elem22, size5]
  simp only [Result.andThen, sliced, Int.toNat_natCast, cutA]
theorem slice_h (ao : Option Addr) (len c b : Nat) (hbc : b ≤ c) (W : World) :
    (Instr.slice 22 (.slice ao len c) none (some (.int .i64 (b : Int))) none).run Tryd.prog W = .ok (.slice ao b c) W := by
  rw [run_slice_h W 22 ao len c ht22 .i64 _ (by omega) (by omega), elem22, size5]
  have := cutA_zero ao c
  simp only [cutA] at this
  simp [Result.andThen, sliced]
  cases ao <;> simp [Addr.add]

/-- A cut, under one name. -/
theorem Sl.cut' {w : World} {ao : Option Addr} {c : Nat} {xs : List Nat} (h : Sl w ao c xs) (at_ n : Nat) (hle : at_ + n ≤ xs.length) : Sl w (cutA ao c at_) (c - at_) ((xs.drop at_).take n) := h.cut at_ n hle

theorem win_len {xs : List Nat} {at_ n : Nat} (h : at_ + n ≤ xs.length) : ((xs.drop at_).take n).length = n := by
  rw [List.length_take, List.length_drop]; omega

end Go.Proofs.YtmnkdnlmpgmdgaaDoor
