/-
  Counts greater and lesser, many times as great, one more; plainly.
-/
import Derived.Test.YtccfbkbfmkdapaaTc
namespace Go.Proofs.Ytccfbkbfmkdapaa

/-- The counts that aren't 0. -/
def nz (ns : List Nat) : List Nat := ns.filter fun x => decide (0 < x)
theorem list_range (ns : List Nat) : (List.range ns.length).map (fun s => ns.getD s 0) = ns := by
  apply List.ext_getElem
  · simp
  · intro i h1 h2
    simp [List.getD, h2]
theorem cts_usd (ns : List Nat) : cts ns (usd ns ns.length) = nz ns := by
  unfold nz cts usd
  conv => rhs; rw [← list_range ns]
  rw [List.filter_map]
  rfl
theorem Used.nz {ns us : List Nat} (h : Used ns us) : (cts ns us).Perm (nz ns) := by
  rw [← cts_usd]
  exact h.perm.map _
theorem usd_nz (ns : List Nat) : (usd ns ns.length).length = (nz ns).length := by
  rw [← cts_usd, cts_len]
theorem Used.len_nz {ns us : List Nat} (h : Used ns us) : us.length = (Ytccfbkbfmkdapaa.nz ns).length := by rw [h.len, usd_nz]
theorem Used.same {ns us us' : List Nat} (h : Used ns us) (h' : Used ns us') : cts ns us = cts ns us' := h.up.perm h'.up (h.nz.trans h'.nz.symm)

/-- The greater count has no greater length. -/
theorem lens_anti {ns us : List Nat} (lim : Nat) (h : Used ns us) {a b : Nat} (ha : a < ns.length) (hb : b < ns.length) (h0 : 0 < ns.getD b 0) (hlt : ns.getD b 0 < ns.getD a 0) : (lens ns us lim).getD a 0 ≤ (lens ns us lim).getD b 0 := by
  have ma : a ∈ us := h.mem.2 ⟨ha, by omega⟩
  have mb : b ∈ us := h.mem.2 ⟨hb, h0⟩
  rw [lens_at _ _ _ ha, lens_at _ _ _ hb, LF, LF, if_pos ma, if_pos mb]
  have ia := idx_lt ma
  have ib := idx_lt mb
  have hq : us.idxOf b ≤ us.idxOf a := by
    apply Classical.byContradiction
    intro hc
    have := h.up.getD (i := us.idxOf a) (j := us.idxOf b) (by omega) (by rw [cts_len]; exact ib)
    rw [cts_at _ _ _ ia, cts_at _ _ _ ib, getD_idx ma, getD_idx mb] at this
    omega
  unfold lenG
  split
  · exact Nat.le_refl _
  · exact la_anti _ hq
/-- A greater limit has no greater cost. -/
theorem bst_more {ns us : List Nat} {lim : Nat} (h : Used ns us) (hl : 1 ≤ lim) (h2 : us.length ≤ 2 ^ lim) : bst (cts ns us) lim ≤ bst (cts ns us) (lim - 1) := by
  unfold bst
  rw [cts_len]
  by_cases h0 : us.length = 0
  · rw [if_pos h0, if_pos h0]; exact Nat.le_refl _
  · rw [if_neg h0, if_neg h0]
    by_cases h1 : us.length = 1
    · rw [if_pos h1, if_pos h1]; exact Nat.le_refl _
    · rw [if_neg h1, if_neg h1]
      have := (h.fit hl h2 (by omega)).more
      rwa [show lim - 1 + 1 = lim by omega] at this
theorem order_cost {ns us us' : List Nat} {lim : Nat} (h : Used ns us) (h' : Used ns us') (hl : 1 ≤ lim) (h2 : us.length ≤ 2 ^ lim) : cst ns (lens ns us' (lim + 1)) ns.length ≤ cst ns (lens ns us lim) ns.length := by
  have e : us'.length = us.length := by rw [h.len_nz, h'.len_nz]
  rw [lens_cost h hl h2, lens_cost h' (by omega) (by rw [e, Nat.pow_succ]; omega), ← h.same h', Nat.add_sub_cancel]
  exact bst_more h hl h2

/-! ### So many times as great -/
theorem nz_mul {t : Nat} (ht : 0 < t) (ns : List Nat) : nz (ns.map (t * ·)) = (nz ns).map (t * ·) := by
  unfold nz
  rw [List.filter_map]
  congr 1
  apply List.filter_congr
  intro x _
  simp only [Function.comp]
  congr 1
  apply propext
  constructor
  · intro h; exact Nat.pos_of_mul_pos_left h |> fun _ => by rcases Nat.eq_zero_or_pos x with rfl | h'; simp at h; exact h'
  · intro h; exact Nat.mul_pos ht h
theorem up_mul (t : Nat) {l : List Nat} (h : Up l) : Up (l.map (t * ·)) := by
  unfold Up at *
  rw [List.pairwise_map]
  exact h.imp fun h => Nat.mul_le_mul_left t h
theorem mul_cts {t : Nat} (ht : 0 < t) {ns us us' : List Nat} (h : Used ns us) (h' : Used (ns.map (t * ·)) us') : cts (ns.map (t * ·)) us' = (cts ns us).map (t * ·) :=
  h'.up.perm (up_mul t h.up) (h'.nz.trans (by rw [nz_mul ht]; exact (h.nz.map _).symm))
theorem bst_mul {t : Nat} (ht : 0 < t) (cs : List Nat) (D : Nat) : bst (cs.map (t * ·)) D = t * bst cs D := by
  unfold bst
  rw [List.length_map]
  by_cases h0 : cs.length = 0
  · rw [if_pos h0, if_pos h0, Nat.mul_zero]
  · rw [if_neg h0, if_neg h0]
    by_cases h1 : cs.length = 1
    · rw [if_pos h1, if_pos h1]
      simp [List.getD, show 0 < cs.length by omega]
    · rw [if_neg h1, if_neg h1, best_mul ht]
theorem scale_cost {t : Nat} (ht : 0 < t) {ns us us' : List Nat} {lim : Nat} (h : Used ns us) (h' : Used (ns.map (t * ·)) us') (hl : 1 ≤ lim) (h2 : us.length ≤ 2 ^ lim) :
    cst (ns.map (t * ·)) (lens (ns.map (t * ·)) us' lim) (ns.map (t * ·)).length = t * cst ns (lens ns us lim) ns.length := by
  have e : us'.length = us.length := by rw [h.len_nz, h'.len_nz, nz_mul ht, List.length_map]
  rw [lens_cost h hl h2, lens_cost h' hl (by omega), mul_cts ht h h', bst_mul ht]

/-! ### One count less -/
theorem bst_less {cs : List Nat} (hc : Up cs) (x D : Nat) (h2 : cs.length + 1 ≤ 2 ^ (D + 1)) : bst cs D ≤ bst (ins x cs) D := by
  unfold bst
  rw [ins_len]
  by_cases h0 : cs.length = 0
  · rw [if_pos h0]; exact Nat.zero_le _
  · rw [if_neg h0, if_neg (by omega : ¬ cs.length + 1 = 0), if_neg (by omega : ¬ cs.length + 1 = 1)]
    have F : Fit (ins x cs) D := ⟨ins_up x hc, by rw [ins_len]; omega, by rw [ins_len]; exact h2⟩
    by_cases h1 : cs.length = 1
    · rw [if_pos h1]
      refine Nat.le_trans ?_ F.sum_le
      match cs, h1 with
      | [a], _ =>
        have := (ins_perm x [a]).sum_nat
        rw [this]
        simp
    · rw [if_neg h1]
      exact best_less hc x D F
theorem less_cost {x : Nat} {ns us us' : List Nat} {lim : Nat} (h : Used (x :: ns) us) (h' : Used ns us') (hl : 1 ≤ lim) (h2 : us.length ≤ 2 ^ lim) :
    us'.length ≤ us.length ∧ cst ns (lens ns us' lim) ns.length ≤ cst (x :: ns) (lens (x :: ns) us lim) (x :: ns).length := by
  have e : us'.length ≤ us.length := by
    rw [h.len_nz, h'.len_nz]
    unfold nz
    rw [List.filter_cons]
    split <;> simp
  refine ⟨e, ?_⟩
  rw [lens_cost h hl h2, lens_cost h' hl (by omega)]
  rcases Nat.eq_zero_or_pos x with rfl | hx
  · rw [h.up.perm h'.up (h.nz.trans h'.nz.symm)]
    exact Nat.le_refl _
  · have hp : cts (x :: ns) us = ins x (cts ns us') := h.up.perm (ins_up x h'.up) (h.nz.trans (by
      unfold nz
      rw [List.filter_cons, if_pos (decide_eq_true hx)]
      exact (h'.nz.symm.cons x).trans (ins_perm x _).symm))
    rw [hp]
    have hl' : us.length = us'.length + 1 := by
      have := congrArg List.length hp
      rwa [ins_len, cts_len, cts_len] at this
    exact bst_less h'.up x (lim - 1) (by rw [cts_len, two_pow_lim hl]; omega)
end Go.Proofs.Ytccfbkbfmkdapaa
