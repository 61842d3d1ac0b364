/-
  The document's own reading of a sign, plainly.
-/
import Derived.Test.YtmnkdnlmpgmdgaaDoorUv
namespace Go.Proofs.YtmnkdnlmpgmdgaaDoor
open Go.RowKit U
set_option maxRecDepth 100000

/-- How many bytes the first one tells; 0: none. -/
def rn (a : Nat) : Nat := if 240 ≤ a then 4 else if 224 ≤ a then 3 else if 192 ≤ a then 2 else if 128 ≤ a then 0 else 1
def rv0 (a : Nat) : Nat := if 240 ≤ a then a - 240 else if 224 ≤ a then a - 224 else if 192 ≤ a then a - 192 else a
/-- The number behind the first i bytes. -/
def rvF (L : List Nat) : Nat → Nat
  | 0 => 0
  | 1 => rv0 (L.getD 0 0)
  | i + 2 => rvF L (i + 1) * 64 + L.getD (i + 1) 0 % 64
/-- The document's own reading. -/
def rfN (L : List Nat) : Nat × Nat :=
  if rn (L.getD 0 0) = 0 ∨ L.length < rn (L.getD 0 0) then (0, 0)
  else if ¬ isSign (rvF L (rn (L.getD 0 0))) then (0, 0)
  else if (enc (rvF L (rn (L.getD 0 0)))).length ≠ rn (L.getD 0 0) then (0, 0)
  else if L.take (rn (L.getD 0 0)) ≠ enc (rvF L (rn (L.getD 0 0))) then (0, 0)
  else (rvF L (rn (L.getD 0 0)), rn (L.getD 0 0))
theorem rn_enc {u : Nat} (h : isSign u) (t : List Nat) : rn ((enc u ++ t).getD 0 0) = (enc u).length ∧ rvF (enc u ++ t) (enc u).length = u := by
  obtain ⟨h1, h2⟩ := h
  unfold enc
  by_cases c1 : u < 128
  · simp only [if_pos c1]
    simp only [List.cons_append, List.nil_append, List.getD_cons_zero, List.length_cons, List.length_nil, Nat.zero_add, rvF, rn, rv0]
    repeat' split
    all_goals omega
  simp only [if_neg c1]
  by_cases c2 : u < 2048
  · simp only [if_pos c2]
    simp only [List.cons_append, List.nil_append, List.getD_cons_zero, List.getD_cons_succ, List.length_cons, List.length_nil, Nat.zero_add, Nat.reduceAdd, rvF, rn, rv0]
    constructor <;> (repeat' split) <;> omega
  simp only [if_neg c2]
  by_cases c3 : u < 65536
  · simp only [if_pos c3]
    simp only [List.cons_append, List.nil_append, List.getD_cons_zero, List.getD_cons_succ, List.length_cons, List.length_nil, Nat.zero_add, Nat.reduceAdd, rvF, rn, rv0]
    constructor <;> (repeat' split) <;> omega
  simp only [if_neg c3]
  simp only [List.cons_append, List.nil_append, List.getD_cons_zero, List.getD_cons_succ, List.length_cons, List.length_nil, Nat.zero_add, Nat.reduceAdd, rvF, rn, rv0]
  constructor <;> (repeat' split) <;> omega
theorem rfN_nx {L : List Nat} (hb : Bs L) : rfN L = nx L := by
  by_cases h : (nx L).2 = 0
  · rw [nx_none h]
    unfold rfN
    split
    · rfl
    split
    · rfl
    split
    · rfl
    split
    · rfl
    · exfalso
      rename_i h1 h2 h3 h4
      have h2 : isSign (rvF L (rn (L.getD 0 0))) := Classical.byContradiction h2
      have h4 : L.take (rn (L.getD 0 0)) = enc (rvF L (rn (L.getD 0 0))) := Classical.byContradiction h4
      have e : L = enc (rvF L (rn (L.getD 0 0))) ++ L.drop (rn (L.getD 0 0)) := by rw [← h4, List.take_append_drop]
      have := nx_enc h2 (L.drop (rn (L.getD 0 0)))
      rw [← e] at this
      rw [this] at h
      have hp := enc_pos (rvF L (rn (L.getD 0 0)))
      simp only at h
      omega
  · obtain ⟨s1, s2, s3, s4⟩ := nx_some hb h
    obtain ⟨u, hu⟩ : ∃ u, u = (nx L).1 := ⟨_, rfl⟩
    obtain ⟨n, hn⟩ : ∃ n, n = (nx L).2 := ⟨_, rfl⟩
    have hx : nx L = (u, n) := by rw [hu, hn]
    rw [← hu] at s1 s2 s3
    rw [← hn] at s2 s3 s4 h
    have e : L = enc u ++ L.drop n := by rw [← s3, List.take_append_drop]
    obtain ⟨k1, k2⟩ := rn_enc s1 (L.drop n)
    rw [← e] at k1 k2
    rw [hx]
    unfold rfN
    rw [k1, k2, ← s2]
    rw [if_neg (by omega), if_neg (by simpa using s1), if_neg (by simp), if_neg (by simpa using s3)]
end Go.Proofs.YtmnkdnlmpgmdgaaDoor
