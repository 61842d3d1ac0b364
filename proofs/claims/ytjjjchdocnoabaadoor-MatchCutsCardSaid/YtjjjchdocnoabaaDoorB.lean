
/-
  Contracts of Peek: what a look at the bits ahead answers.
-/
import Derived.Test.YtjjjchdocnoabaaDoorA
namespace Go.Proofs.YtjjjchdocnoabaaDoor
open Go.RowKit

def byt (bs : List Nat) (j : Nat) : Nat := bs.getD j 0

/-- What has been gathered behind k bytes. -/
def pv (bs : List Nat) (f k : Nat) : Nat := num ((bs.drop f).take k)

theorem pv_lt {bs : List Nat} (hb : Bs bs) (f k : Nat) (hk : k ≤ 5) : pv bs f k < 1099511627776 := by
  have h := num_lt ((hb.drop f).take k)
  have h2 : 256 ^ ((bs.drop f).take k).length ≤ 256 ^ 5 := Nat.pow_le_pow_right (by omega) (by rw [List.length_take]; omega)
  have : (256 : Nat) ^ 5 = 1099511627776 := rfl
  unfold pv; omega

theorem pv_step {bs : List Nat} (hb : Bs bs) (f k : Nat) (hk : k < 5) (hl : f + k < bs.length) :
    bits BinOp.or IntKind.u64 (pv bs f k : Int) (IntKind.u64.wrap (IntKind.u64.wrap (byt bs (f + k) : Int) * 2 ^ (8 * k))) = ((pv bs f (k + 1) : Nat) : Int) := by
  have hx := hb.at (f + k)
  unfold byt
  have e1 : pv bs f (k + 1) = pv bs f k + bs.getD (f + k) 0 * 2 ^ (8 * k) := by
    unfold pv
    have hlk : k < (bs.drop f).length := by rw [List.length_drop]; omega
    rw [List.take_succ_eq_append_getElem hlk, num_app, num_one, List.length_take, Nat.min_eq_left (by omega), pow256, Nat.mul_comm]
    congr 2
    simp [List.getD, hl]
  have h1 := pv_lt hb f (k + 1) (by omega)
  have h2 : pv bs f k < 2 ^ (8 * k) := by
    have h := num_lt ((hb.drop f).take k)
    rw [pow256, List.length_take, Nat.min_eq_left (by rw [List.length_drop]; omega)] at h
    exact h
  generalize bs.getD (f + k) 0 = x at *
  have e0 : IntKind.u64.wrap (x : Int) = (x : Int) := by rw [IntKind.wrap_u64]; omega
  rw [e0]
  have e2 : IntKind.u64.wrap ((x : Int) * 2 ^ (8 * k)) = ((x * 2 ^ (8 * k) : Nat) : Int) := by
    rw [IntKind.wrap_u64]
    rw [show (x : Int) * 2 ^ (8 * k) = ((x * 2 ^ (8 * k) : Nat) : Int) from by simp]
    omega
  rw [e2, u64_or_nat _ _ (by omega) (by omega), or_add _ _ _ h2, e1]

theorem peek_end {bs : List Nat} {len : Nat} (hb : Bs bs) (hl : bs.length = len) (at_ n : Nat) (h : len - at_ / 8 ≤ 5) (hn : n ≤ 32) :
    pv bs (at_ / 8) (len - at_ / 8) / 2 ^ (at_ % 8) % 2 ^ n = num bs / 2 ^ at_ % 2 ^ n := by
  rw [← peek_num hb at_ n hn]
  unfold pv
  rw [List.take_of_length_le (by rw [List.length_drop]; omega), List.take_of_length_le (by rw [List.length_drop]; omega)]

theorem wrap_low (V n : Nat) (hn : n ≤ 32) : IntKind.u32.wrap ((V % 2 ^ n : Nat) : Int) = ((V % 2 ^ n : Nat) : Int) := by
  have hp : 2 ^ n ≤ 2 ^ 32 := Nat.pow_le_pow_right (by omega) hn
  have hq := Nat.mod_lt V (Nat.two_pow_pos n)
  rw [IntKind.wrap_u32']
  omega

end Go.Proofs.YtjjjchdocnoabaaDoor
