/-
  Bytes as bits; a burst among them has another sum.
-/
import Derived.Test.YtbepppbpllljdaaDoorO
namespace Go.Proofs.YtbepppbpllljdaaDoor
open CrcPlain

def bitsN (l : List Nat) : List Bool := l.flatMap fun x => (List.range 8).map x.testBit

theorem bitsN_cons (x : Nat) (l : List Nat) : bitsN (x :: l) = (List.range 8).map x.testBit ++ bitsN l := rfl
theorem bitsN_len (l : List Nat) : (bitsN l).length = 8 * l.length := by
  induction l with
  | nil => rfl
  | cons x r ih => rw [bitsN_cons, List.length_append, ih, List.length_cons, List.length_map, List.length_range]; omega

theorem bitsN_at (l : List Nat) (q r : Nat) (hr : r < 8) (hq : q < l.length) : (bitsN l)[8 * q + r]? = some ((l.getD q 0).testBit r) := by
  induction l generalizing q with
  | nil => simp at hq
  | cons x t ih =>
    rw [bitsN_cons]
    cases q with
    | zero => rw [List.getElem?_append_left (by simp; omega)]; simp [hr]
    | succ q =>
      rw [List.getElem?_append_right (by simp; omega), List.length_map, List.length_range, show 8 * (q + 1) + r - 8 = 8 * q + r from by omega, ih q (by simpa using hq)]
      simp

theorem bv_bits (l : List Nat) : (bv l).flatMap byteBits = bitsN l := by
  induction l with
  | nil => rfl
  | cons x t ih =>
    rw [bitsN_cons, ← ih]
    show byteBits (BitVec.ofNat 8 x) ++ _ = _
    congr 1
    unfold byteBits
    apply List.map_congr_left
    intro i hi
    rw [BitVec.getLsbD_ofNat]
    simp [List.mem_range.1 hi]

/-- Bytes in which the first k bits of a burst are turned. -/
def fl (xs : List Nat) (at_ : Nat) (v : BitVec 32) : Nat → Nat → Nat
  | 0 => fun q => xs.getD q 0
  | k + 1 => fun q => if v.getLsbD k = true ∧ q = (at_ + k) / 8 then fl xs at_ v k q ^^^ 2 ^ ((at_ + k) % 8) else fl xs at_ v k q

theorem fl_lt (xs : List Nat) (hb : Bs xs) (at_ : Nat) (v : BitVec 32) (k q : Nat) : fl xs at_ v k q < 256 := by
  induction k with
  | zero => exact hb.at q
  | succ k ih =>
    rw [fl]
    dsimp only
    split
    · refine Nat.xor_lt_two_pow (n := 8) ih ?_
      exact Nat.pow_lt_pow_right (by omega) (Nat.mod_lt _ (by omega))
    · exact ih

theorem fl_bit (xs : List Nat) (at_ : Nat) (v : BitVec 32) (k q r : Nat) (hr : r < 8) :
    (fl xs at_ v k q).testBit r = ((xs.getD q 0).testBit r ^^ (decide (at_ ≤ 8 * q + r) && decide (8 * q + r < at_ + k) && v.getLsbD (8 * q + r - at_))) := by
  induction k with
  | zero =>
    rw [fl]
    by_cases h : at_ ≤ 8 * q + r
    · simp [show ¬ 8 * q + r < at_ by omega]
    · simp [h]
  | succ k ih =>
    rw [fl]
    dsimp only
    by_cases hm : 8 * q + r = at_ + k
    · have e1 : q = (at_ + k) / 8 := by omega
      have e2 : r = (at_ + k) % 8 := by omega
      have e3 : 8 * q + r - at_ = k := by omega
      rw [e3] at ih ⊢
      have h1 : at_ ≤ 8 * q + r := by omega
      have h2 : ¬ 8 * q + r < at_ + k := by omega
      have h3 : 8 * q + r < at_ + (k + 1) := by omega
      by_cases hv : v.getLsbD k = true
      · rw [if_pos ⟨hv, e1⟩, Nat.testBit_xor, ih, ← e2, Nat.testBit_two_pow_self]
        simp [h1, h2, h3, hv]
      · rw [if_neg (fun h => hv h.1), ih]
        simp [h2, hv]
    · have e4 : decide (8 * q + r < at_ + (k + 1)) = decide (8 * q + r < at_ + k) := by
        by_cases h : 8 * q + r < at_ + k
        · simp [h, show 8 * q + r < at_ + (k + 1) by omega]
        · simp [h]; omega
      rw [e4, ← ih]
      split
      · rename_i h
        have hne : ¬ (at_ + k) % 8 = r := by omega
        rw [Nat.testBit_xor, Nat.testBit_two_pow]
        simp [hne]
      · rfl

theorem burst_at (a b : Nat) (v : BitVec 32) (m : Nat) (hm : m < a + 32 + b) :
    (List.replicate a false ++ (low 32 v ++ List.replicate b false))[m]? = some (decide (a ≤ m) && decide (m < a + 32) && v.getLsbD (m - a)) := by
  have hl : (low 32 v).length = 32 := by simp [low]
  by_cases h1 : m < a
  · rw [List.getElem?_append_left (by simpa using h1)]
    simp [h1, show ¬ a ≤ m by omega]
  · rw [List.getElem?_append_right (by rw [List.length_replicate]; omega), List.length_replicate]
    by_cases h2 : m < a + 32
    · rw [List.getElem?_append_left (by rw [hl]; omega)]
      simp [low, h2, show a ≤ m by omega, show m - a < 32 by omega]
    · rw [List.getElem?_append_right (by rw [hl]; omega), hl, List.getElem?_replicate, if_pos (by omega)]
      simp [h2]

theorem flips_bits (xs : List Nat) (n at_ : Nat) (v : BitVec 32) (hn : xs.length = n) (ha : at_ + 32 ≤ 8 * n) :
    bitsN (blist n (fl xs at_ v 32)) = List.zipWith (· ^^ ·) (bitsN xs) (List.replicate at_ false ++ (low 32 v ++ List.replicate (8 * n - at_ - 32) false)) := by
  apply List.ext_getElem?
  intro m
  by_cases hm : m < 8 * n
  · obtain ⟨q, r, hr, rfl⟩ : ∃ q r, r < 8 ∧ m = 8 * q + r := ⟨m / 8, m % 8, Nat.mod_lt _ (by omega), by omega⟩
    rw [bitsN_at _ q r hr (by rw [blist_len]; omega), blist_at _ _ _ (by omega), fl_bit xs at_ v 32 q r hr, List.getElem?_zipWith, bitsN_at xs q r hr (by omega), burst_at _ _ v _ (by omega)]
  · rw [List.getElem?_eq_none (by rw [bitsN_len, blist_len]; omega), List.getElem?_eq_none (by rw [List.length_zipWith, bitsN_len, hn]; omega)]

/-- ████ A burst of at most 32 bits is found. -/
theorem flips_ne (xs : List Nat) (n at_ : Nat) (v : BitVec 32) (hn : xs.length = n) (ha : at_ + 32 ≤ 8 * n) (hv : v ≠ 0#32) :
    updN 0#32 (blist n (fl xs at_ v 32)) ≠ updN 0#32 xs := by
  intro h
  unfold updN at h
  have h1 : feed (~~~ 0#32) (bv (blist n (fl xs at_ v 32))) = feed (~~~ 0#32) (bv xs) := by
    have := congrArg (fun z => ~~~ z) h
    simpa using this
  rw [feed_bits, feed_bits, bv_bits, bv_bits, flips_bits xs n at_ v hn ha, show (~~~ 0#32 : BitVec 32) = ~~~ 0#32 ^^^ 0#32 from by simp, runb_xor _ _ _ _ (by rw [bitsN_len]; simp [low]; omega)] at h1
  have h2 : runb 0#32 (List.replicate at_ false ++ (low 32 v ++ List.replicate (8 * n - at_ - 32) false)) = 0#32 := by
    have e : ∀ a b c : BitVec 32, a ^^^ b = c ^^^ 0#32 → a = c → b = 0#32 := fun a b c h e => by
      subst e
      have := congrArg (a ^^^ ·) h
      simpa [← BitVec.xor_assoc] using this
    have hz : ∀ x : BitVec 32, x ^^^ 0#32 = x := fun x => by simp
    rw [hz] at h1
    have := congrArg (fun z => runb (~~~ 0#32) (bitsN xs) ^^^ z) h1
    simpa [← BitVec.xor_assoc] using this
  exact burst_ne at_ (8 * n - at_ - 32) v hv h2
end Go.Proofs.YtbepppbpllljdaaDoor
