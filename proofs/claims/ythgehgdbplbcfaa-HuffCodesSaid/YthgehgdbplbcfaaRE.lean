/-
  Both searches say the same.
-/
import Derived.Test.YthgehgdbplbcfaaRD
import Derived.Test.YthgehgdbplbcfaaW
namespace Go.Proofs.Ythgehgdbplbcfaa
open Go.RowKit

/-- The bits of a row of bytes, one by one. -/
def rbits (bs : List Nat) (k : Nat) : List Nat := (List.range k).map fun i => num bs / 2 ^ i % 2
theorem rbits_len (bs : List Nat) (k : Nat) : (rbits bs k).length = k := by simp [rbits]
theorem rbits_at (bs : List Nat) (k i : Nat) (h : i < k) : (rbits bs k).getD i 0 = num bs / 2 ^ i % 2 := by simp [rbits, List.getD, h]
theorem rbits_bs (bs : List Nat) (k : Nat) : Bs (rbits bs k) := fun x hx => by
  obtain ⟨j, _, rfl⟩ := List.mem_map.1 hx
  omega
theorem rbits_succ (bs : List Nat) (k : Nat) : rbits bs (k + 1) = rbits bs k ++ [num bs / 2 ^ k % 2] := by simp [rbits, List.range_succ]
theorem bit_same (a b i j : Nat) (h : a.testBit i = b.testBit j) : a / 2 ^ i % 2 = b / 2 ^ j % 2 := by
  rw [Nat.testBit_eq_decide_div_mod_eq, Nat.testBit_eq_decide_div_mod_eq] at h
  have h1 : a / 2 ^ i % 2 = 0 ∨ a / 2 ^ i % 2 = 1 := by omega
  have h2 : b / 2 ^ j % 2 = 0 ∨ b / 2 ^ j % 2 = 1 := by omega
  rcases h1 with h1 | h1 <;> rcases h2 with h2 | h2 <;> simp [h1, h2] at h ⊢
/-- A bit of a byte. -/
theorem byte_bit {bs : List Nat} (hb : Bs bs) (i : Nat) : bs.getD (i / 8) 0 / 2 ^ (i % 8) % 2 = num bs / 2 ^ i % 2 := by
  rw [num_byte hb, pow256]
  have e : num bs / 2 ^ (8 * (i / 8)) % 256 / 2 ^ (i % 8) % 2 = num bs / 2 ^ (8 * (i / 8)) / 2 ^ (i % 8) % 2 := by
    refine bit_same _ _ _ _ ?_
    rw [show (256 : Nat) = 2 ^ 8 from rfl, Nat.testBit_mod_two_pow]
    simp [show i % 8 < 8 by omega]
  rw [e, Nat.div_div_eq_div_mul, ← Nat.pow_add, show 8 * (i / 8) + i % 8 = i by omega]

theorem bits_iff (a b M : Nat) : (∀ j, j < M → a / 2 ^ j % 2 = b / 2 ^ j % 2) ↔ a % 2 ^ M = b % 2 ^ M := by
  constructor
  · intro h
    apply Nat.eq_of_testBit_eq
    intro i
    rw [Nat.testBit_mod_two_pow, Nat.testBit_mod_two_pow]
    by_cases hi : i < M
    · rw [Nat.testBit_eq_decide_div_mod_eq, Nat.testBit_eq_decide_div_mod_eq, h i hi]
    · simp [hi]
  · intro h j hj
    refine bit_same a b j j ?_
    have := congrArg (fun x => x.testBit j) h
    simpa [Nat.testBit_mod_two_pow, hj] using this
theorem cb_bit (ls : List Nat) (s j : Nat) (h : j < ln ls s) : (cb ls s).getD j 0 = rv (ln ls s) (cd ls s) / 2 ^ j % 2 := by
  rw [cb_at ls s j h]
  refine bit_same _ _ _ _ ?_
  rw [rv_bit]
  simp [h]

theorem Ft_iff {ls bs : List Nat} {L at_ s : Nat} (hL : 8 * bs.length = L) (hat : at_ ≤ L) :
    Ft ls (rbits bs L) at_ s = true ↔ rv (ln ls s) (cd ls s) % 2 ^ min (ln ls s) (L - at_) = num bs / 2 ^ at_ % 2 ^ min (ln ls s) (L - at_) := by
  unfold Ft eqs
  rw [rbits_len, decide_eq_true_iff, ← bits_iff]
  constructor
  · intro h j hj
    have := h j hj
    rw [cb_bit ls s j (by omega), rbits_at _ _ _ (by omega)] at this
    rw [this, Nat.div_div_eq_div_mul, ← Nat.pow_add]
  · intro h j hj
    have := h j hj
    rw [cb_bit ls s j (by omega), rbits_at _ _ _ (by omega), this, Nat.div_div_eq_div_mul, ← Nat.pow_add]

theorem rv_long (M k y : Nat) (h : y < 2 ^ M) : rv (M + k) y = rv M y * 2 ^ k := by
  induction k with
  | zero => simp
  | succ k ih =>
    rw [← Nat.add_assoc, rv, ih, Nat.div_eq_of_lt (Nat.lt_of_lt_of_le h (Nat.pow_le_pow_right (by omega) (by omega))), Nat.pow_succ, Nat.mul_assoc, Nat.zero_mod, Nat.add_zero]
theorem rv_cut (M V : Nat) (hM : M ≤ 15) : rv 15 (V % 2 ^ M) ≤ rv 15 V := by
  have h1 := rv_long M (15 - M) (V % 2 ^ M) (Nat.mod_lt _ (Nat.two_pow_pos M))
  rw [show M + (15 - M) = 15 by omega, rv_mod] at h1
  have h2 := rv_div M (15 - M) V
  rw [show M + (15 - M) = 15 by omega] at h2
  rw [h1, ← h2]
  exact Nat.div_mul_le_self _ _

theorem rest_lt {bs : List Nat} (hb : Bs bs) {L at_ : Nat} (hL : 8 * bs.length = L) (hat : at_ ≤ L) : num bs / 2 ^ at_ < 2 ^ (L - at_) := by
  have h := num_lt hb
  rw [pow256, hL, show L = at_ + (L - at_) by omega, Nat.pow_add] at h
  exact Nat.div_lt_of_lt_mul h

/-- A code that the bits begin with, whole. -/
theorem full_beg {ls bs : List Nat} (H : Ok ls) {L at_ s : Nat} (hL : 8 * bs.length = L) (hat : at_ ≤ L) (hs : ln ls s ≠ 0) (hf : Ft ls (rbits bs L) at_ s = true) (hle : at_ + ln ls s ≤ L) : Beg ls (ahead bs at_) s := by
  rw [Ft_iff hL hat, Nat.min_eq_left (by omega), Nat.mod_eq_of_lt (rv_lt _ _)] at hf
  exact beg_of H hs hf.symm
/-- A code that the bits begin with, as far as they go, fits. -/
theorem beg_fits {ls bs : List Nat} (H : Ok ls) {L at_ s : Nat} (hL : 8 * bs.length = L) (hat : at_ ≤ L) (hb : Beg ls (ahead bs at_) s) : Ft ls (rbits bs L) at_ s = true := by
  rw [Ft_iff hL hat]
  have hle := ln_le H s
  have h1 : num bs / 2 ^ at_ % 2 ^ ln ls s = rv (ln ls s) (cd ls s) := by
    have h2 := hb.2
    unfold ahead at h2
    have h3 := rv_div (ln ls s) (15 - ln ls s) (pk bs at_ 15)
    rw [show ln ls s + (15 - ln ls s) = 15 by omega, h2] at h3
    rw [h3, rv_rv]
    unfold pk
    rw [Nat.mod_mod_of_dvd _ (Nat.pow_dvd_pow 2 hle)]
  rw [← h1, Nat.mod_mod_of_dvd _ (Nat.pow_dvd_pow 2 (Nat.min_le_left _ _))]
/-- What fits and is longer than the bits lies above them. -/
theorem fits_room {ls bs : List Nat} (H : Ok ls) (hb : Bs bs) {L at_ s : Nat} (hL : 8 * bs.length = L) (hat : at_ ≤ L) (hs : ln ls s ≠ 0) (hf : Ft ls (rbits bs L) at_ s = true) (hlong : L < at_ + ln ls s) : ahead bs at_ < room ls := by
  rw [Ft_iff hL hat, Nat.min_eq_right (by omega), Nat.mod_eq_of_lt (rest_lt hb hL hat)] at hf
  have hle := ln_le H s
  have hA : ahead bs at_ ≤ rv 15 (rv (ln ls s) (cd ls s)) := by
    unfold ahead pk
    rw [rv_mod, ← hf]
    exact rv_cut _ _ (by omega)
  have hlo : rv 15 (rv (ln ls s) (cd ls s)) = lo ls s := by
    have h1 := rv_long (ln ls s) (15 - ln ls s) (rv (ln ls s) (cd ls s)) (rv_lt _ _)
    rw [show ln ls s + (15 - ln ls s) = 15 by omega, lo_of H hs] at h1
    exact h1
  have h2 := lo_hi ls s
  have h3 := hi_room H hs
  omega
theorem anyFt_iff (ls rb : List Nat) (at_ k : Nat) : anyFt ls rb at_ k = true ↔ ∃ t, t < k ∧ ln ls t ≠ 0 ∧ Ft ls rb at_ t = true := by
  simp [anyFt]
end Go.Proofs.Ythgehgdbplbcfaa
