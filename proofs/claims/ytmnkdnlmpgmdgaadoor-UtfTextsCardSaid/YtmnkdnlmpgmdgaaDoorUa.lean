/-
  Signs in bytes, plainly: the sign at the head of bytes, a sign's bytes: no program.
-/
import Derived.Lib.DecodeN
namespace Go.Proofs.YtmnkdnlmpgmdgaaDoor.U
set_option maxRecDepth 100000

def isSign (v : Nat) : Prop := v ≤ 1114111 ∧ (v < 55296 ∨ 57343 < v)
instance (v : Nat) : Decidable (isSign v) := by unfold isSign; infer_instance
/-- A sign's bytes. -/
def enc (v : Nat) : List Nat :=
  if v < 128 then [v]
  else if v < 2048 then [192 + v / 64, 128 + v % 64]
  else if v < 65536 then [224 + v / 4096, 128 + v / 64 % 64, 128 + v % 64]
  else [240 + v / 262144, 128 + v / 4096 % 64, 128 + v / 64 % 64, 128 + v % 64]
def decL (L : List Nat) : Nat × Nat := Go.Lib.decodeN L.length (L.getD 0 0) (L.getD 1 0) (L.getD 2 0) (L.getD 3 0)
/-- The sign at the head, and how many bytes it has. -/
def nx (L : List Nat) : Nat × Nat := if L = [] then (0, 0) else if (decL L).1 = 65533 ∧ (decL L).2 = 1 then (0, 0) else decL L

theorem enc_pos (v : Nat) : 0 < (enc v).length := by
  unfold enc
  repeat' split
  all_goals simp
theorem enc_le (v : Nat) : (enc v).length ≤ 4 := by
  unfold enc
  repeat' split
  all_goals simp
theorem enc_byte {v : Nat} (h : v ≤ 1114111) : ∀ x ∈ enc v, x < 256 := by
  intro x hx
  unfold enc at hx
  repeat' split at hx
  all_goals (simp at hx; omega)
theorem shape (n b0 b1 b2 b3 : Nat) :
    (b0 < 128 ∧ Go.Lib.decodeN n b0 b1 b2 b3 = (b0, 1)) ∨
    (b0 / 32 = 6 ∧ 1 < n ∧ b1 / 64 = 2 ∧ 128 ≤ b0 % 32 * 64 + b1 % 64 ∧ Go.Lib.decodeN n b0 b1 b2 b3 = (b0 % 32 * 64 + b1 % 64, 2)) ∨
    (b0 / 16 = 14 ∧ 2 < n ∧ b1 / 64 = 2 ∧ b2 / 64 = 2 ∧ 2048 ≤ b0 % 16 * 4096 + b1 % 64 * 64 + b2 % 64 ∧ (b0 % 16 * 4096 + b1 % 64 * 64 + b2 % 64 < 55296 ∨ 57344 ≤ b0 % 16 * 4096 + b1 % 64 * 64 + b2 % 64) ∧
      Go.Lib.decodeN n b0 b1 b2 b3 = (b0 % 16 * 4096 + b1 % 64 * 64 + b2 % 64, 3)) ∨
    (b0 / 8 = 30 ∧ 3 < n ∧ b1 / 64 = 2 ∧ b2 / 64 = 2 ∧ b3 / 64 = 2 ∧ 65536 ≤ b0 % 8 * 262144 + b1 % 64 * 4096 + b2 % 64 * 64 + b3 % 64 ∧ b0 % 8 * 262144 + b1 % 64 * 4096 + b2 % 64 * 64 + b3 % 64 ≤ 1114111 ∧
      Go.Lib.decodeN n b0 b1 b2 b3 = (b0 % 8 * 262144 + b1 % 64 * 4096 + b2 % 64 * 64 + b3 % 64, 4)) ∨
    Go.Lib.decodeN n b0 b1 b2 b3 = (65533, 1) := by
  unfold Go.Lib.decodeN
  repeat' split
  all_goals first
    | (left; exact ⟨by assumption, by rfl⟩)
    | (right; left; exact ⟨by omega, by omega, by omega, by omega, by rfl⟩)
    | (right; right; left; exact ⟨by omega, by omega, by omega, by omega, by omega, by omega, by rfl⟩)
    | (right; right; right; left; exact ⟨by omega, by omega, by omega, by omega, by omega, by omega, by omega, by rfl⟩)
    | (right; right; right; right; rfl)
theorem get_take : ∀ (L : List Nat) (k : Nat), k < L.length → L.take (k + 1) = L.take k ++ [L.getD k 0]
  | [], _, h => by simp at h
  | a :: t, 0, _ => by simp
  | a :: t, k + 1, h => by
    have := get_take t k (by simpa using h)
    simp only [List.take_succ_cons, List.getD_cons_succ, List.cons_append]
    rw [this]
/-- What a sign at the head is. -/
theorem nx_some {L : List Nat} (hb : ∀ x ∈ L, x < 256) (h : (nx L).2 ≠ 0) : isSign (nx L).1 ∧ (nx L).2 = (enc (nx L).1).length ∧ L.take (nx L).2 = enc (nx L).1 ∧ (nx L).2 ≤ L.length := by
  unfold nx at h ⊢
  by_cases h0 : L = []
  · rw [if_pos h0] at h; exact absurd rfl h
  rw [if_neg h0] at h ⊢
  by_cases h1 : (decL L).1 = 65533 ∧ (decL L).2 = 1
  · rw [if_pos h1] at h; exact absurd rfl h
  rw [if_neg h1] at h ⊢
  have hl : 0 < L.length := List.length_pos_iff.2 h0
  have hg : ∀ i, L.getD i 0 < 256 := fun i => by
    rw [List.getD_eq_getElem?_getD]
    by_cases hi : i < L.length
    · rw [List.getElem?_eq_getElem hi]; exact hb _ (List.getElem_mem _)
    · rw [List.getElem?_eq_none (by omega)]; exact (by decide)
  have g0 := hg 0; have g1 := hg 1; have g2 := hg 2; have g3 := hg 3
  have t0 := get_take L 0 hl
  unfold decL at h h1 ⊢
  rcases shape L.length (L.getD 0 0) (L.getD 1 0) (L.getD 2 0) (L.getD 3 0) with ⟨c, e⟩ | ⟨c1, c2, c3, cv, e⟩ | ⟨c1, c2, c3, c4, cv, cs, e⟩ | ⟨c1, c2, c3, c4, c5, cv, cs, e⟩ | e
  · rw [e]
    generalize L.getD 0 0 = a at *
    refine ⟨⟨by simp only; omega, by simp only; omega⟩, ?_, ?_, hl⟩
    · unfold enc; rw [if_pos (by simpa using c)]; rfl
    · unfold enc; rw [if_pos (by simpa using c)]; simpa using t0
  · rw [e]
    have t1 := get_take L 1 c2
    rw [t0] at t1
    generalize L.getD 0 0 = a at *
    generalize L.getD 1 0 = b at *
    have hv : enc (a % 32 * 64 + b % 64) = [a, b] := by
      unfold enc
      rw [if_neg (by omega), if_pos (by omega)]
      congr 1
      · omega
      · congr 1; omega
    refine ⟨⟨by simp only; omega, by simp only; omega⟩, by simp only [hv]; rfl, by simp only [hv]; simpa using t1, by simp only; omega⟩
  · rw [e]
    have t1 := get_take L 1 (by omega)
    have t2 := get_take L 2 c2
    rw [t0] at t1
    rw [t1] at t2
    generalize L.getD 0 0 = a at *
    generalize L.getD 1 0 = b at *
    generalize L.getD 2 0 = c at *
    have hv : enc (a % 16 * 4096 + b % 64 * 64 + c % 64) = [a, b, c] := by
      unfold enc
      rw [if_neg (by omega), if_neg (by omega), if_pos (by omega)]
      congr 1
      · omega
      · congr 1
        · omega
        · congr 1; omega
    refine ⟨⟨by simp only; omega, by simp only; omega⟩, by simp only [hv]; rfl, by simp only [hv]; simpa using t2, by simp only; omega⟩
  · rw [e]
    have t1 := get_take L 1 (by omega)
    have t2 := get_take L 2 (by omega)
    have t3 := get_take L 3 c2
    rw [t0] at t1
    rw [t1] at t2
    rw [t2] at t3
    generalize L.getD 0 0 = a at *
    generalize L.getD 1 0 = b at *
    generalize L.getD 2 0 = c at *
    generalize L.getD 3 0 = d at *
    have hv : enc (a % 8 * 262144 + b % 64 * 4096 + c % 64 * 64 + d % 64) = [a, b, c, d] := by
      unfold enc
      rw [if_neg (by omega), if_neg (by omega), if_neg (by omega)]
      congr 1
      · omega
      · congr 1
        · omega
        · congr 1
          · omega
          · congr 1; omega
    refine ⟨⟨by simp only; omega, by simp only; omega⟩, by simp only [hv]; rfl, by simp only [hv]; simpa using t3, by simp only; omega⟩
  · rw [e] at h1; exact absurd ⟨rfl, rfl⟩ h1
/-- A sign's bytes at the head tell it. -/
theorem nx_enc {v : Nat} (h : isSign v) (t : List Nat) : nx (enc v ++ t) = (v, (enc v).length) := by
  obtain ⟨h1, h2⟩ := h
  have hne : enc v ++ t ≠ [] := by
    have := enc_pos v
    intro e
    have e1 := congrArg List.length e
    rw [List.length_append, List.length_nil] at e1; omega
  unfold nx
  rw [if_neg hne]
  have key : decL (enc v ++ t) = (v, (enc v).length) := by
    unfold decL enc
    by_cases c1 : v < 128
    · simp only [if_pos c1]
      simp [Go.Lib.decodeN, c1]
    simp only [if_neg c1]
    by_cases c2 : v < 2048
    · simp only [if_pos c2]
      simp only [List.cons_append, List.nil_append, List.length_cons, List.getD_cons_zero, List.getD_cons_succ, List.length_nil]
      unfold Go.Lib.decodeN
      rw [if_neg (by omega), if_pos (by omega), if_pos (by omega)]
      congr 1; omega
    simp only [if_neg c2]
    by_cases c3 : v < 65536
    · simp only [if_pos c3]
      simp only [List.cons_append, List.nil_append, List.length_cons, List.getD_cons_zero, List.getD_cons_succ, List.length_nil]
      unfold Go.Lib.decodeN
      rw [if_neg (by omega), if_neg (by omega), if_pos (by omega), if_pos (by omega)]
      congr 1; omega
    simp only [if_neg c3]
    simp only [List.cons_append, List.nil_append, List.length_cons, List.getD_cons_zero, List.getD_cons_succ, List.length_nil]
    unfold Go.Lib.decodeN
    rw [if_neg (by omega), if_neg (by omega), if_neg (by omega), if_pos (by omega), if_pos (by omega)]
    congr 1; omega
  rw [key, if_neg]
  rintro ⟨e1, e2⟩
  simp only at e1 e2
  subst e1
  revert e2
  decide
/-- Where the head is no sign's: 0 and 0. -/
theorem nx_none {L : List Nat} (h : (nx L).2 = 0) : nx L = (0, 0) := by
  unfold nx at h ⊢
  by_cases h0 : L = []
  · rw [if_pos h0]
  rw [if_neg h0] at h ⊢
  by_cases h1 : (decL L).1 = 65533 ∧ (decL L).2 = 1
  · rw [if_pos h1]
  rw [if_neg h1] at h
  exfalso
  revert h
  unfold decL
  rcases shape L.length (L.getD 0 0) (L.getD 1 0) (L.getD 2 0) (L.getD 3 0) with ⟨c, e⟩ | ⟨c1, c2, c3, cv, e⟩ | ⟨c1, c2, c3, c4, cv, cs, e⟩ | ⟨c1, c2, c3, c4, c5, cv, cs, e⟩ | e <;> rw [e] <;> simp
theorem take_append {a b c d : List Nat} (h : a ++ b = c ++ d) : (∃ e, a = c ++ e ∧ d = e ++ b) ∨ (∃ e, c = a ++ e ∧ b = e ++ d) := by
  rcases List.append_eq_append_iff.1 h with ⟨e, h1, h2⟩ | ⟨e, h1, h2⟩
  · exact .inr ⟨e, h1, h2⟩
  · exact .inl ⟨e, h1, h2⟩
/-- A sign's bytes that are cut are none. -/
theorem nx_cut {v j : Nat} (h : isSign v) (hj : j < (enc v).length) : nx ((enc v).take j) = (0, 0) := by
  apply nx_none
  apply Classical.byContradiction
  intro hne
  have hb : ∀ x ∈ (enc v).take j, x < 256 := fun x hx => enc_byte h.1 x (List.mem_of_mem_take hx)
  obtain ⟨s1, s2, s3, s4⟩ := nx_some hb hne
  obtain ⟨u, hu⟩ : ∃ u, u = (nx ((enc v).take j)).1 := ⟨_, rfl⟩
  rw [← hu] at s1 s2 s3
  have e1 : enc v = enc u ++ (enc v).drop (nx ((enc v).take j)).2 := by
    rw [← s3, List.take_take]
    have : min (nx ((enc v).take j)).2 j = (nx ((enc v).take j)).2 := by
      rw [List.length_take] at s4; omega
    rw [this, List.take_append_drop]
  have k1 := nx_enc s1 ((enc v).drop (nx ((enc v).take j)).2)
  have k2 := nx_enc h []
  rw [List.append_nil] at k2
  rw [← e1, k2] at k1
  injection k1 with k1 k3
  rw [List.length_take, s2, ← k3] at s4
  omega
end Go.Proofs.YtmnkdnlmpgmdgaaDoor.U
