
/-
  Plain mathematics of codes that are told by their lengths: counts, first codes, places, ranks; which code a row of fifteen bits begins with.
-/
import Derived.Test.YtjjjchdocnoabaaDoorRev
namespace Go.Proofs.YtjjjchdocnoabaaDoor

/-- How many of the lengths are n (none of 0). -/
def cn (ls : List Nat) (n : Nat) : Nat := if n = 0 then 0 else ls.count n
/-- The first code of length n. -/
def fc (ls : List Nat) : Nat → Nat
  | 0 => 0
  | n + 1 => (fc ls n + cn ls n) * 2
/-- How many codes are shorter than n. -/
def fp (ls : List Nat) : Nat → Nat
  | 0 => 0
  | n + 1 => fp ls n + cn ls n
/-- The room of the codes that are shorter than n. -/
def sp (ls : List Nat) : Nat → Nat
  | 0 => 0
  | n + 1 => sp ls n + cn ls n * 2 ^ (15 - n)
def ln (ls : List Nat) (s : Nat) : Nat := ls.getD s 0
/-- How many ahead of s have its length. -/
def rk (ls : List Nat) (s : Nat) : Nat := (ls.take s).count (ln ls s)
/-- The code of s. -/
def cd (ls : List Nat) (s : Nat) : Nat := fc ls (ln ls s) + rk ls s
/-- All room. -/
def room (ls : List Nat) : Nat := sp ls 16

/-- Lengths that are not too many. -/
structure Ok (ls : List Nat) : Prop where
  len : ls.length ≤ 320
  le : ∀ x ∈ ls, x ≤ 15
  few : room ls ≤ 32768

theorem pow_split {n : Nat} (h : n ≤ 15) : 2 ^ n * 2 ^ (15 - n) = 32768 := by rw [← Nat.pow_add, show n + (15 - n) = 15 by omega]

theorem fc_sp (ls : List Nat) (n : Nat) (h : n ≤ 15) : fc ls n * 2 ^ (15 - n) = sp ls n := by
  induction n with
  | zero => simp [fc, sp]
  | succ n ih =>
    have := ih (by omega)
    have e : 2 * 2 ^ (15 - (n + 1)) = 2 ^ (15 - n) := by rw [← Nat.pow_succ', show (15 - (n + 1)).succ = 15 - n by omega]
    rw [fc, sp, ← this, Nat.mul_assoc, e, Nat.add_mul]

theorem sp_mono (ls : List Nat) {m n : Nat} (h : m ≤ n) : sp ls m ≤ sp ls n := by
  induction n with
  | zero => obtain rfl : m = 0 := by omega
            exact Nat.le_refl _
  | succ n ih =>
    by_cases e : m = n + 1
    · subst e; exact Nat.le_refl _
    · have := ih (by omega)
      rw [sp]; omega

theorem fp_mono (ls : List Nat) {m n : Nat} (h : m ≤ n) : fp ls m ≤ fp ls n := by
  induction n with
  | zero => obtain rfl : m = 0 := by omega
            exact Nat.le_refl _
  | succ n ih =>
    by_cases e : m = n + 1
    · subst e; exact Nat.le_refl _
    · have := ih (by omega)
      rw [fp]; omega

theorem ln_lt {ls : List Nat} {s : Nat} (h : ln ls s ≠ 0) : s < ls.length := by
  unfold ln at h
  rcases Nat.lt_or_ge s ls.length with h1 | h1
  · exact h1
  · simp [List.getD, h1] at h
theorem ln_le {ls : List Nat} (H : Ok ls) (s : Nat) : ln ls s ≤ 15 := by
  unfold ln
  rcases Nat.lt_or_ge s ls.length with h1 | h1
  · rw [List.getD_eq_getElem?_getD, List.getElem?_eq_getElem h1]; exact H.le _ (List.getElem_mem h1)
  · simp [List.getD, h1]

theorem take_succ_ln {ls : List Nat} {s : Nat} (h : s < ls.length) : ls.take (s + 1) = ls.take s ++ [ln ls s] := by
  rw [List.take_succ_eq_append_getElem h]
  simp [ln, List.getD, h]

theorem count_take_le (ls : List Nat) (s n : Nat) : (ls.take s).count n ≤ ls.count n := by
  exact (List.take_sublist s ls).count_le n

theorem rk_lt {ls : List Nat} {s : Nat} (h : ln ls s ≠ 0) : rk ls s < cn ls (ln ls s) := by
  have h1 := count_take_le ls (s + 1) (ln ls s)
  rw [take_succ_ln (ln_lt h), List.count_append] at h1
  have h2 : [ln ls s].count (ln ls s) = 1 := by simp
  unfold rk cn
  rw [if_neg h]
  omega

/-- The room of s: from lo on, 2 ^ (15 - length). -/
def lo (ls : List Nat) (s : Nat) : Nat := cd ls s * 2 ^ (15 - ln ls s)
def hi (ls : List Nat) (s : Nat) : Nat := (cd ls s + 1) * 2 ^ (15 - ln ls s)

theorem lo_eq {ls : List Nat} (H : Ok ls) (s : Nat) : lo ls s = sp ls (ln ls s) + rk ls s * 2 ^ (15 - ln ls s) := by
  unfold lo cd
  rw [Nat.add_mul, fc_sp ls _ (ln_le H s)]
theorem hi_eq {ls : List Nat} (s : Nat) : hi ls s = lo ls s + 2 ^ (15 - ln ls s) := by
  unfold hi lo
  rw [Nat.add_mul, Nat.one_mul]
theorem lo_ge {ls : List Nat} (H : Ok ls) (s : Nat) : sp ls (ln ls s) ≤ lo ls s := by rw [lo_eq H]; omega
theorem hi_le {ls : List Nat} (H : Ok ls) {s : Nat} (h : ln ls s ≠ 0) : hi ls s ≤ sp ls (ln ls s + 1) := by
  rw [hi_eq, lo_eq H, sp]
  have h1 : (rk ls s + 1) * 2 ^ (15 - ln ls s) ≤ cn ls (ln ls s) * 2 ^ (15 - ln ls s) := Nat.mul_le_mul_right _ (rk_lt h)
  rw [Nat.add_mul] at h1
  omega
theorem hi_room {ls : List Nat} (H : Ok ls) {s : Nat} (h : ln ls s ≠ 0) : hi ls s ≤ room ls :=
  Nat.le_trans (hi_le H h) (sp_mono ls (by have := ln_le H s; omega))
theorem lo_hi (ls : List Nat) (s : Nat) : lo ls s < hi ls s := by rw [hi_eq]; have := Nat.two_pow_pos (15 - ln ls s); omega

theorem cd_lt {ls : List Nat} (H : Ok ls) {s : Nat} (h : ln ls s ≠ 0) : cd ls s < 2 ^ ln ls s := by
  have h1 := hi_room H h
  have h2 := H.few
  have h3 := pow_split (ln_le H s)
  unfold hi at h1
  rcases Nat.lt_or_ge (cd ls s) (2 ^ ln ls s) with h4 | h4
  · exact h4
  · exfalso
    have h5 : (2 ^ ln ls s + 1) * 2 ^ (15 - ln ls s) ≤ (cd ls s + 1) * 2 ^ (15 - ln ls s) := Nat.mul_le_mul_right _ (by omega)
    rw [Nat.add_mul, h3] at h5
    have := Nat.two_pow_pos (15 - ln ls s)
    omega

/-- Codes stand in order, by length, then by symbol. -/
theorem rk_mono {ls : List Nat} {s t : Nat} (hs : ln ls s ≠ 0) (he : ln ls s = ln ls t) (h : s < t) : rk ls s < rk ls t := by
  have h1 : (ls.take (s + 1)).count (ln ls s) ≤ (ls.take t).count (ln ls s) := by
    have : ls.take (s + 1) = (ls.take t).take (s + 1) := by rw [List.take_take, Nat.min_eq_left (by omega)]
    rw [this]
    exact count_take_le _ _ _
  rw [take_succ_ln (ln_lt hs), List.count_append] at h1
  have h2 : [ln ls s].count (ln ls s) = 1 := by simp
  unfold rk
  rw [← he]
  omega
theorem hi_lo {ls : List Nat} (H : Ok ls) {s t : Nat} (hs : ln ls s ≠ 0) (_ht : ln ls t ≠ 0) (h : ln ls s < ln ls t ∨ ln ls s = ln ls t ∧ s < t) : hi ls s ≤ lo ls t := by
  rcases h with h | ⟨he, h⟩
  · exact Nat.le_trans (hi_le H hs) (Nat.le_trans (sp_mono ls h) (lo_ge H t))
  · have h1 := rk_mono hs he h
    rw [hi_eq, lo_eq H, lo_eq H, ← he]
    have h2 : (rk ls s + 1) * 2 ^ (15 - ln ls s) ≤ rk ls t * 2 ^ (15 - ln ls s) := Nat.mul_le_mul_right _ h1
    rw [Nat.add_mul] at h2
    omega
theorem apart_codes {ls : List Nat} (H : Ok ls) {s t : Nat} (hs : ln ls s ≠ 0) (ht : ln ls t ≠ 0) (hne : s ≠ t) : hi ls s ≤ lo ls t ∨ hi ls t ≤ lo ls s := by
  by_cases h : ln ls s < ln ls t
  · exact .inl (hi_lo H hs ht (.inl h))
  · by_cases h2 : ln ls t < ln ls s
    · exact .inr (hi_lo H ht hs (.inl h2))
    · have he : ln ls s = ln ls t := by omega
      rcases Nat.lt_or_ge s t with h3 | h3
      · exact .inl (hi_lo H hs ht (.inr ⟨he, h3⟩))
      · exact .inr (hi_lo H ht hs (.inr ⟨he.symm, by omega⟩))

/-- Fifteen bits A begin with the code of s. -/
def Beg (ls : List Nat) (A s : Nat) : Prop := ln ls s ≠ 0 ∧ A / 2 ^ (15 - ln ls s) = cd ls s
theorem beg_iff {ls : List Nat} {A s : Nat} : Beg ls A s ↔ ln ls s ≠ 0 ∧ lo ls s ≤ A ∧ A < hi ls s := by
  unfold Beg lo hi
  rw [Nat.div_eq_iff (Nat.two_pow_pos _)]
  have := Nat.two_pow_pos (15 - ln ls s)
  rw [Nat.add_mul, Nat.one_mul]
  constructor
  · rintro ⟨h0, h1, h2⟩; exact ⟨h0, by omega, by omega⟩
  · rintro ⟨h0, h1, h2⟩; exact ⟨h0, by omega, by omega⟩
theorem beg_one {ls : List Nat} (H : Ok ls) {A s t : Nat} (h1 : Beg ls A s) (h2 : Beg ls A t) : s = t := by
  rw [beg_iff] at h1 h2
  by_cases e : s = t
  · exact e
  · rcases apart_codes H h1.1 h2.1 e with h | h <;> omega

/-- The symbol of length n and rank r. -/
theorem rank_sym (ls : List Nat) (n : Nat) : ∀ k r, n ≠ 0 → r < (ls.take k).count n → ∃ s, s < k ∧ ln ls s = n ∧ rk ls s = r := by
  intro k
  induction k with
  | zero => intro r _ h; simp at h
  | succ k ih =>
    intro r hn h
    by_cases hk : k < ls.length
    · rw [take_succ_ln hk, List.count_append] at h
      by_cases h2 : r < (ls.take k).count n
      · obtain ⟨s, h3, h4⟩ := ih r hn h2
        exact ⟨s, by omega, h4⟩
      · have h5 : [ln ls k].count n ≤ 1 := by rw [List.count_singleton]; split <;> omega
        by_cases h6 : ln ls k = n
        · exact ⟨k, by omega, h6, by unfold rk; rw [h6]; omega⟩
        · have : [ln ls k].count n = 0 := by rw [List.count_singleton]; simp [h6]
          omega
    · rw [List.take_of_length_le (by omega)] at h
      rw [← List.take_of_length_le (show ls.length ≤ k by omega)] at h
      obtain ⟨s, h3, h4⟩ := ih r hn h
      exact ⟨s, by omega, h4⟩
theorem rank_all {ls : List Nat} {n r : Nat} (hn : n ≠ 0) (h : r < cn ls n) : ∃ s, s < ls.length ∧ ln ls s = n ∧ rk ls s = r := by
  unfold cn at h
  rw [if_neg hn] at h
  exact rank_sym ls n ls.length r hn (by rwa [List.take_length])

/-- The step of the search: A is in the room of length n just if its first n bits are so little above the first code. -/
theorem over_lt {ls : List Nat} {A n : Nat} (hn : n ≤ 15) : A / 2 ^ (15 - n) < fc ls n + cn ls n ↔ A < sp ls (n + 1) := by
  rw [Nat.div_lt_iff_lt_mul (Nat.two_pow_pos _), Nat.add_mul, fc_sp ls n hn, sp]
theorem over_ge {ls : List Nat} {A n : Nat} (hn : n ≤ 15) (h : sp ls n ≤ A) : fc ls n ≤ A / 2 ^ (15 - n) := by
  rw [Nat.le_div_iff_mul_le (Nat.two_pow_pos _), fc_sp ls n hn]
  exact h
theorem over_sym {ls : List Nat} {A n s : Nat} (hn : n ≠ 0) (h : fc ls n ≤ A / 2 ^ (15 - n)) (hs : ln ls s = n) (hr : rk ls s = A / 2 ^ (15 - n) - fc ls n) : Beg ls A s := by
  refine ⟨by omega, ?_⟩
  unfold cd
  rw [hs]
  omega
theorem none_of {ls : List Nat} (H : Ok ls) {A : Nat} (h : room ls ≤ A) (s : Nat) : ¬ Beg ls A s := by
  rw [beg_iff]
  rintro ⟨h0, h1, h2⟩
  have := hi_room H h0
  omega

/-- The number of codes. -/
def many (ls : List Nat) : Nat := fp ls 16
theorem fp_lt {ls : List Nat} (H : Ok ls) {s : Nat} (h : ln ls s ≠ 0) : fp ls (ln ls s) + rk ls s < many ls := by
  have h1 := rk_lt h
  have h2 : fp ls (ln ls s + 1) ≤ fp ls 16 := fp_mono ls (by have := ln_le H s; omega)
  rw [fp] at h2
  unfold many
  omega
theorem fp_inj {ls : List Nat} {s t : Nat} (hs : ln ls s ≠ 0) (ht : ln ls t ≠ 0) (h : fp ls (ln ls s) + rk ls s = fp ls (ln ls t) + rk ls t) : s = t := by
  have key : ∀ a b, ln ls a ≠ 0 → ln ls b ≠ 0 → ln ls a < ln ls b → fp ls (ln ls a) + rk ls a < fp ls (ln ls b) + rk ls b := by
    intro a b ha hb hab
    have h1 := rk_lt ha
    have h2 : fp ls (ln ls a + 1) ≤ fp ls (ln ls b) := fp_mono ls hab
    rw [fp] at h2
    omega
  by_cases h1 : ln ls s < ln ls t
  · have := key s t hs ht h1; omega
  · by_cases h2 : ln ls t < ln ls s
    · have := key t s ht hs h2; omega
    · have he : ln ls s = ln ls t := by omega
      rcases Nat.lt_trichotomy s t with h3 | h3 | h3
      · have := rk_mono hs he h3; rw [he] at h; omega
      · exact h3
      · have := rk_mono ht he.symm h3; rw [he] at h; omega
end Go.Proofs.YtjjjchdocnoabaaDoor
