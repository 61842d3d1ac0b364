
/-
  Plain lemmas on numbers of 32 bits turned around.
-/
import Derived.Test.YtjjjchdocnoabaaDoorMath
namespace Go.Proofs.YtjjjchdocnoabaaDoor

/-- The lowest n bits of v, turned around. -/
def rv : Nat → Nat → Nat
  | 0, _ => 0
  | n + 1, v => rv n v * 2 + v / 2 ^ n % 2

theorem rv_lt (n v : Nat) : rv n v < 2 ^ n := by
  induction n with
  | zero => simp [rv]
  | succ n ih => rw [rv, Nat.pow_succ]; omega

theorem rv_bit (n v i : Nat) : (rv n v).testBit i = (decide (i < n) && v.testBit (n - 1 - i)) := by
  induction n generalizing i with
  | zero => simp [rv]
  | succ n ih =>
    rw [rv]
    cases i with
    | zero =>
      rw [Nat.testBit_zero]
      have e : (rv n v * 2 + v / 2 ^ n % 2) % 2 = v / 2 ^ n % 2 := by omega
      rw [e, Nat.testBit_eq_decide_div_mod_eq]
      simp
    | succ i =>
      rw [Nat.testBit_succ, show (rv n v * 2 + v / 2 ^ n % 2) / 2 = rv n v from by omega, ih]
      by_cases h : i < n
      · simp [h, show n - (i + 1) = n - 1 - i from by omega]
      · simp [h]

theorem rv_div (n m v : Nat) : rv (n + m) v / 2 ^ m = rv n v := by
  induction m with
  | zero => simp
  | succ m ih =>
    rw [← Nat.add_assoc, rv, Nat.pow_succ, Nat.mul_comm (2 ^ m) 2, ← Nat.div_div_eq_div_mul, show (rv (n + m) v * 2 + v / 2 ^ (n + m) % 2) / 2 = rv (n + m) v from by omega, ih]

theorem rv_rv (n v : Nat) : rv n (rv n v) = v % 2 ^ n := by
  apply Nat.eq_of_testBit_eq
  intro i
  rw [rv_bit, rv_bit, Nat.testBit_mod_two_pow]
  by_cases h : i < n
  · simp [h, show n - 1 - i < n from by omega, show n - 1 - (n - 1 - i) = i from by omega]
  · simp [h]

/-- Neighbours changed: of numbers of 32 bits. -/
def st (m s x : Nat) : Nat := (x / 2 ^ s &&& m) ||| ((x &&& m) * 2 ^ s % 2 ^ 32)

theorem st_lt (m s x : Nat) (hm : m < 2 ^ 32) : st m s x < 2 ^ 32 :=
  Nat.or_lt_two_pow (Nat.lt_of_le_of_lt Nat.and_le_right hm) (Nat.mod_lt _ (by omega))

theorem st_bit (m s x i : Nat) (hi : i < 32) : (st m s x).testBit i = ((x.testBit (i + s) && m.testBit i) || (decide (s ≤ i) && (x.testBit (i - s) && m.testBit (i - s)))) := by
  unfold st
  rw [Nat.testBit_or, Nat.testBit_and, Nat.testBit_div_two_pow, Nat.testBit_mod_two_pow, Nat.testBit_mul_two_pow, Nat.testBit_and]
  simp [hi]

def r32 (v : Nat) : Nat := st 65535 16 (st 16711935 8 (st 252645135 4 (st 858993459 2 (st 1431655765 1 v))))

theorem st_gen {m s : Nat} (x i : Nat) (hi : i < 32) (h1 : m.testBit i = true → i + s = i ^^^ s ∧ (s ≤ i → m.testBit (i - s) = false)) (h2 : m.testBit i = false → s ≤ i ∧ i - s = i ^^^ s ∧ m.testBit (i - s) = true) : (st m s x).testBit i = x.testBit (i ^^^ s) := by
  rw [st_bit _ _ _ _ hi]
  cases hm : m.testBit i with
  | true =>
    obtain ⟨e, f⟩ := h1 hm
    by_cases hs : s ≤ i
    · simp [f hs, ← e]
    · simp [hs, ← e]
  | false =>
    obtain ⟨hs, e, f⟩ := h2 hm
    simp [f, hs, ← e]

theorem m_1 : ∀ i, i < 32 → (Nat.testBit 1431655765 i = true → i + 1 = i ^^^ 1 ∧ (1 ≤ i → Nat.testBit 1431655765 (i - 1) = false)) ∧ (Nat.testBit 1431655765 i = false → 1 ≤ i ∧ i - 1 = i ^^^ 1 ∧ Nat.testBit 1431655765 (i - 1) = true) := by decide
theorem st_1 (x : Nat) : ∀ i, i < 32 → (st 1431655765 1 x).testBit i = x.testBit (i ^^^ 1) := fun i hi => st_gen x i hi (m_1 i hi).1 (m_1 i hi).2
theorem m_2 : ∀ i, i < 32 → (Nat.testBit 858993459 i = true → i + 2 = i ^^^ 2 ∧ (2 ≤ i → Nat.testBit 858993459 (i - 2) = false)) ∧ (Nat.testBit 858993459 i = false → 2 ≤ i ∧ i - 2 = i ^^^ 2 ∧ Nat.testBit 858993459 (i - 2) = true) := by decide
theorem st_2 (x : Nat) : ∀ i, i < 32 → (st 858993459 2 x).testBit i = x.testBit (i ^^^ 2) := fun i hi => st_gen x i hi (m_2 i hi).1 (m_2 i hi).2
theorem m_4 : ∀ i, i < 32 → (Nat.testBit 252645135 i = true → i + 4 = i ^^^ 4 ∧ (4 ≤ i → Nat.testBit 252645135 (i - 4) = false)) ∧ (Nat.testBit 252645135 i = false → 4 ≤ i ∧ i - 4 = i ^^^ 4 ∧ Nat.testBit 252645135 (i - 4) = true) := by decide
theorem st_4 (x : Nat) : ∀ i, i < 32 → (st 252645135 4 x).testBit i = x.testBit (i ^^^ 4) := fun i hi => st_gen x i hi (m_4 i hi).1 (m_4 i hi).2
theorem m_8 : ∀ i, i < 32 → (Nat.testBit 16711935 i = true → i + 8 = i ^^^ 8 ∧ (8 ≤ i → Nat.testBit 16711935 (i - 8) = false)) ∧ (Nat.testBit 16711935 i = false → 8 ≤ i ∧ i - 8 = i ^^^ 8 ∧ Nat.testBit 16711935 (i - 8) = true) := by decide
theorem st_8 (x : Nat) : ∀ i, i < 32 → (st 16711935 8 x).testBit i = x.testBit (i ^^^ 8) := fun i hi => st_gen x i hi (m_8 i hi).1 (m_8 i hi).2
theorem m_16 : ∀ i, i < 32 → (Nat.testBit 65535 i = true → i + 16 = i ^^^ 16 ∧ (16 ≤ i → Nat.testBit 65535 (i - 16) = false)) ∧ (Nat.testBit 65535 i = false → 16 ≤ i ∧ i - 16 = i ^^^ 16 ∧ Nat.testBit 65535 (i - 16) = true) := by decide
theorem st_16 (x : Nat) : ∀ i, i < 32 → (st 65535 16 x).testBit i = x.testBit (i ^^^ 16) := fun i hi => st_gen x i hi (m_16 i hi).1 (m_16 i hi).2

theorem xor_lt {i : Nat} (h : i < 32) (k : Nat) (hk : k < 32) : i ^^^ k < 32 := Nat.xor_lt_two_pow (n := 5) h hk

theorem xor_all : ∀ i, i < 32 → ((((i ^^^ 16) ^^^ 8) ^^^ 4) ^^^ 2) ^^^ 1 = 31 - i := by decide

theorem r32_rv (v : Nat) : r32 v = rv 32 v := by
  apply Nat.eq_of_testBit_eq
  intro i
  by_cases h : i < 32
  · have h1 := xor_lt h 16 (by omega)
    have h2 := xor_lt h1 8 (by omega)
    have h3 := xor_lt h2 4 (by omega)
    have h4 := xor_lt h3 2 (by omega)
    unfold r32
    rw [st_16 _ i h, st_8 _ _ h1, st_4 _ _ h2, st_2 _ _ h3, st_1 _ _ h4, xor_all i h, rv_bit]
    simp [h]
  · have a : r32 v < 2 ^ i := Nat.lt_of_lt_of_le (st_lt _ _ _ (by omega)) (Nat.pow_le_pow_right (by omega) (by omega))
    have b : rv 32 v < 2 ^ i := Nat.lt_of_lt_of_le (rv_lt 32 v) (Nat.pow_le_pow_right (by omega) (by omega))
    rw [Nat.testBit_lt_two_pow a, Nat.testBit_lt_two_pow b]

end Go.Proofs.YtjjjchdocnoabaaDoor
