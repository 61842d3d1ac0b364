
/-
  Contracts of Peek: what a look at the bits ahead answers.
-/
import Derived.Test.YthgehgdbplbcfaaA
namespace Go.Proofs.Ythgehgdbplbcfaa
open Go.RowKit

theorem peek_no (p : Nat) (n : Int) (w : World) (hn : n < 0 ∨ 32 < n) :
    Calls Try.prog 35 #[.pointer (some ⟨p, 0, none⟩), .int .i64 n] w fun e w' => e = .returned (.int .u32 0) ∧ w = w' := by
  go_enter Try.func35, Try.ntmps35
  go_wp2_with (go_at_call 38; refine (isWidth_no n _ hn).mono ?_; rintro e w' ⟨rfl, rfl⟩)
  go_ret
  exact ⟨rfl, rfl⟩

def byt (bs : List Nat) (j : Nat) : Nat := bs.getD j 0

/-- What has been gathered behind k bytes. -/
def pv (bs : List Nat) (f k : Nat) : Nat := num ((bs.drop f).take k)

theorem pv_lt {bs : List Nat} (hb : Bs bs) (f k : Nat) (hk : k ≤ 5) : pv bs f k < 1099511627776 := by
  have h := num_lt ((hb.drop f).take k)
  have h2 : 256 ^ ((bs.drop f).take k).length ≤ 256 ^ 5 := Nat.pow_le_pow_right (by omega) (by rw [List.length_take]; omega)
  have : (256 : Nat) ^ 5 = 1099511627776 := rfl
  unfold pv; omega

theorem pv_step {bs : List Nat} (hb : Bs bs) (f k : Nat) (hk : k < 5) (hl : f + k < bs.length) :
    bits BinOp.or IntKind.u64 (pv bs f k : Int) (IntKind.u64.wrap (IntKind.u64.wrap (byt bs (f + k) : Int) * 2 ^ (8 * k))) = ((pv bs f (k + 1) : Nat) : Int) := by
  have hx := hb.at (f + k)
  unfold byt
  have e1 : pv bs f (k + 1) = pv bs f k + bs.getD (f + k) 0 * 2 ^ (8 * k) := by
    unfold pv
    have hlk : k < (bs.drop f).length := by rw [List.length_drop]; omega
    rw [List.take_succ_eq_append_getElem hlk, num_app, num_one, List.length_take, Nat.min_eq_left (by omega), pow256, Nat.mul_comm]
    congr 2
    simp [List.getD, hl]
  have h1 := pv_lt hb f (k + 1) (by omega)
  have h2 : pv bs f k < 2 ^ (8 * k) := by
    have h := num_lt ((hb.drop f).take k)
    rw [pow256, List.length_take, Nat.min_eq_left (by rw [List.length_drop]; omega)] at h
    exact h
  generalize bs.getD (f + k) 0 = x at *
  have e0 : IntKind.u64.wrap (x : Int) = (x : Int) := by rw [IntKind.wrap_u64]; omega
  rw [e0]
  have e2 : IntKind.u64.wrap ((x : Int) * 2 ^ (8 * k)) = ((x * 2 ^ (8 * k) : Nat) : Int) := by
    rw [IntKind.wrap_u64]
    rw [show (x : Int) * 2 ^ (8 * k) = ((x * 2 ^ (8 * k) : Nat) : Int) from by simp]
    omega
  rw [e2, u64_or_nat _ _ (by omega) (by omega), or_add _ _ _ h2, e1]

theorem peek_end {bs : List Nat} {len : Nat} (hb : Bs bs) (hl : bs.length = len) (at_ n : Nat) (h : len - at_ / 8 ≤ 5) (hn : n ≤ 32) :
    pv bs (at_ / 8) (len - at_ / 8) / 2 ^ (at_ % 8) % 2 ^ n = num bs / 2 ^ at_ % 2 ^ n := by
  rw [← peek_num hb at_ n hn]
  unfold pv
  rw [List.take_of_length_le (by rw [List.length_drop]; omega), List.take_of_length_le (by rw [List.length_drop]; omega)]

theorem lowest_int (v : Int) (V n : Nat) (w : World) (hv : v = (V : Int)) (hn : n ≤ 32) (hV : V < 18446744073709551616) :
    Calls Try.prog 42 #[.int .u64 v, .int .i64 n] w fun e w' => e = .returned (.int .u64 ((V % 2 ^ n : Nat) : Int)) ∧ w = w' := by
  rw [hv]; exact lowest_any V n w hn hV

theorem wrap_low (V n : Nat) (hn : n ≤ 32) : IntKind.u32.wrap ((V % 2 ^ n : Nat) : Int) = ((V % 2 ^ n : Nat) : Int) := by
  have hp : 2 ^ n ≤ 2 ^ 32 := Nat.pow_le_pow_right (by omega) hn
  have hq := Nat.mod_lt V (Nat.two_pow_pos n)
  rw [IntKind.wrap_u32']
  omega

set_option maxHeartbeats 800000 in
theorem peek_yes (p g at_ n : Nat) (len cap : Nat) (bs : List Nat) (w : World) (hl : len ≤ 1000000000) (hlc : len ≤ cap) (hbl : bs.length = len) (hb : Bs bs) (ha : at_ ≤ 8 * len) (hn : n ≤ 32)
   (h0 : w.cell? ⟨p, 0, none⟩ = some (.slice (some ⟨g, 0, none⟩) len cap)) (h1 : w.cell? ⟨p, 1, none⟩ = some (.int .i64 at_)) 
   (hc : ∀ j, j < len → w.cell? ⟨g, j, none⟩ = some (.int .u8 (byt bs j : Int))) :
    Calls Try.prog 35 #[.pointer (some ⟨p, 0, none⟩), .int .i64 n] w fun e w' => e = .returned (.int .u32 ((num bs / 2 ^ at_ % 2 ^ n : Nat) : Int)) ∧ w = w' := by
  have hfl : at_ / 8 ≤ len := by omega
  have HB := Lib.hid hb
  have HBL := Lib.hid hbl
  have HC := Lib.hid hc
  clear hc hbl hb
  by_cases hcase : at_ / 8 + 5 ≤ len
  · have hcc : ¬ cap = at_ / 8 := by omega
    go_enter Try.func35, Try.ntmps35
    go_wp2_with (go_at_call 38; refine (isWidth_yes n _ (by omega) (by omega)).mono ?_; rintro e w' ⟨rfl, rfl⟩)
    go_loop [7, 8, 9, 34] (fun v _ _ i => ∃ k : Nat, k ≤ 5 ∧ i = .int .i64 k ∧ v = .int .u64 (pv bs (at_ / 8) k : Nat)) (fun _ _ _ i => 5 - (intOf i).toNat)
    case atStart => exact ⟨0, Nat.zero_le _, rfl, by simp [pv, num]⟩
    case round =>
      obtain ⟨k, hk, rfl, rfl⟩ := hrel
      have hpl := pv_lt HB.out (at_ / 8) k (by omega)
      have hpd : pv bs (at_ / 8) k / 2 ^ (at_ % 8) ≤ pv bs (at_ / 8) k := Nat.div_le_self _ _
      by_cases hlt : k < 5
      · have hcell := HC.out (at_ / 8 + k) (by omega)
        have hkk : (k : Int) ≤ 5 := by omega
        go_wp2
        go_round
        case rel =>
          refine ⟨k + 1, by omega, by go_num, ?_⟩
          have hs := pv_step HB.out (at_ / 8) k (by omega) (by have := HBL.out; omega)
          rw [← hs]
        case measure => simp [intOf]; omega
      · have HL := Lib.hid (show pv bs (at_ / 8) k / 2 ^ (at_ % 8) % 2 ^ n = num bs / 2 ^ at_ % 2 ^ n from by rw [show k = 5 from by omega]; exact peek_num HB.out at_ n hn)
        have hpu : pv bs (at_ / 8) k / 2 ^ (at_ % 8) < 18446744073709551616 := by omega
        have HPU := Lib.hid hpu
        clear hpu
        go_wp2_with (go_at_call 42; refine (lowest_int _ (pv bs (at_ / 8) k / 2 ^ (at_ % 8)) n _ (by simp) hn HPU.out).mono ?_; rintro e w' ⟨rfl, rfl⟩)
        go_ret
        refine ⟨ret_int ?_, rfl⟩
        rw [← HL.out]
        exact wrap_low _ _ hn
  · by_cases hcc : cap = at_ / 8
    · go_enter Try.func35, Try.ntmps35
      go_wp2_with (go_at_call 38; refine (isWidth_yes n _ (by omega) (by omega)).mono ?_; rintro e w' ⟨rfl, rfl⟩)
      go_loop [7, 8, 9, 34] (fun v _ _ i => ∃ k : Nat, k ≤ (len - at_ / 8) ∧ i = .int .i64 k ∧ v = .int .u64 (pv bs (at_ / 8) k : Nat)) (fun _ _ _ i => (len - at_ / 8) - (intOf i).toNat)
      case atStart => exact ⟨0, Nat.zero_le _, rfl, by simp [pv, num]⟩
      case round =>
        obtain ⟨k, hk, rfl, rfl⟩ := hrel
        have hpl := pv_lt HB.out (at_ / 8) k (by omega)
        have hpd : pv bs (at_ / 8) k / 2 ^ (at_ % 8) ≤ pv bs (at_ / 8) k := Nat.div_le_self _ _
        by_cases hlt : k < (len - at_ / 8)
        · exact absurd hlt (by omega)
        · have HL := Lib.hid (show pv bs (at_ / 8) k / 2 ^ (at_ % 8) % 2 ^ n = num bs / 2 ^ at_ % 2 ^ n from by rw [show k = len - at_ / 8 from by omega]; exact peek_end HB.out HBL.out at_ n (by omega) hn)
          have hpu : pv bs (at_ / 8) k / 2 ^ (at_ % 8) < 18446744073709551616 := by omega
          have HPU := Lib.hid hpu
          clear hpu
          go_wp2_with (go_at_call 42; refine (lowest_int _ (pv bs (at_ / 8) k / 2 ^ (at_ % 8)) n _ (by simp) hn HPU.out).mono ?_; rintro e w' ⟨rfl, rfl⟩)
          go_ret
          refine ⟨ret_int ?_, rfl⟩
          rw [← HL.out]
          exact wrap_low _ _ hn
    · go_enter Try.func35, Try.ntmps35
      go_wp2_with (go_at_call 38; refine (isWidth_yes n _ (by omega) (by omega)).mono ?_; rintro e w' ⟨rfl, rfl⟩)
      go_loop [7, 8, 9, 34] (fun v _ _ i => ∃ k : Nat, k ≤ (len - at_ / 8) ∧ i = .int .i64 k ∧ v = .int .u64 (pv bs (at_ / 8) k : Nat)) (fun _ _ _ i => (len - at_ / 8) - (intOf i).toNat)
      case atStart => exact ⟨0, Nat.zero_le _, rfl, by simp [pv, num]⟩
      case round =>
        obtain ⟨k, hk, rfl, rfl⟩ := hrel
        have hpl := pv_lt HB.out (at_ / 8) k (by omega)
        have hpd : pv bs (at_ / 8) k / 2 ^ (at_ % 8) ≤ pv bs (at_ / 8) k := Nat.div_le_self _ _
        by_cases hlt : k < (len - at_ / 8)
        · have hcell := HC.out (at_ / 8 + k) (by omega)
          have hkk : (k : Int) ≤ 5 := by omega
          go_wp2
          go_round
          case rel =>
            refine ⟨k + 1, by omega, by go_num, ?_⟩
            have hs := pv_step HB.out (at_ / 8) k (by omega) (by have := HBL.out; omega)
            rw [← hs]
          case measure => simp [intOf]; omega
        · have HL := Lib.hid (show pv bs (at_ / 8) k / 2 ^ (at_ % 8) % 2 ^ n = num bs / 2 ^ at_ % 2 ^ n from by rw [show k = len - at_ / 8 from by omega]; exact peek_end HB.out HBL.out at_ n (by omega) hn)
          have hpu : pv bs (at_ / 8) k / 2 ^ (at_ % 8) < 18446744073709551616 := by omega
          have HPU := Lib.hid hpu
          clear hpu
          go_wp2_with (go_at_call 42; refine (lowest_int _ (pv bs (at_ / 8) k / 2 ^ (at_ % 8)) n _ (by simp) hn HPU.out).mono ?_; rintro e w' ⟨rfl, rfl⟩)
          go_ret
          refine ⟨ret_int ?_, rfl⟩
          rw [← HL.out]
          exact wrap_low _ _ hn
end Go.Proofs.Ythgehgdbplbcfaa
