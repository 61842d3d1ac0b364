/-
  Plain mathematics of coins: rows of coins for each bit, merged by cost; how many single ones are among the first; what they cost; the lengths that they pay for.
-/
import Derived.Test.YtccfbkbfmkdapaaRows
namespace Go.Proofs.Ytccfbkbfmkdapaa

/-- The sum of the first k. -/
def pre (l : List Nat) (k : Nat) : Nat := (l.take k).sum
theorem pre_nil (k : Nat) : pre [] k = 0 := by simp [pre]
theorem pre_zero (l : List Nat) : pre l 0 = 0 := by simp [pre]
theorem pre_cons (a : Nat) (l : List Nat) (k : Nat) : pre (a :: l) (k + 1) = a + pre l k := by simp [pre]
theorem pre_succ (l : List Nat) (k : Nat) (h : k < l.length) : pre l (k + 1) = pre l k + l.getD k 0 := by
  induction l generalizing k with
  | nil => simp at h
  | cons a l ih =>
    cases k with
    | zero => simp [pre]
    | succ k =>
      rw [pre_cons, pre_cons, ih k (by simpa using h)]
      simp only [List.getD_cons_succ]
      omega
theorem pre_all (l : List Nat) (k : Nat) (h : l.length ≤ k) : pre l k = l.sum := by simp [pre, List.take_of_length_le h]
theorem pre_mono (l : List Nat) {j k : Nat} (h : j ≤ k) : pre l j ≤ pre l k := by
  induction l generalizing j k with
  | nil => simp [pre]
  | cons a l ih =>
    cases j with
    | zero => simp [pre]
    | succ j =>
      cases k with
      | zero => omega
      | succ k => rw [pre_cons, pre_cons]; have := @ih j k (by omega); omega

/-- Numbers by size. -/
def Up (l : List Nat) : Prop := l.Pairwise (· ≤ ·)

theorem Up.tail {a : Nat} {l : List Nat} (h : Up (a :: l)) : Up l := (List.pairwise_cons.1 h).2
theorem Up.head {a : Nat} {l : List Nat} (h : Up (a :: l)) : ∀ x ∈ l, a ≤ x := (List.pairwise_cons.1 h).1
theorem Up.getD {l : List Nat} (h : Up l) {i j : Nat} (hij : i ≤ j) (hj : j < l.length) : l.getD i 0 ≤ l.getD j 0 := by
  by_cases e : i = j
  · subst e; exact Nat.le_refl _
  · have := List.pairwise_iff_getElem.1 h i j (by omega) hj (by omega)
    simpa [List.getD, show i < l.length by omega, hj] using this

/-- Two by two. -/
def pairs : List Nat → List Nat
  | a :: b :: t => (a + b) :: pairs t
  | _ => []
theorem pairs_len : ∀ l : List Nat, (pairs l).length = l.length / 2
  | [] => rfl
  | [_] => by simp [pairs]
  | a :: b :: t => by simp [pairs, pairs_len t]; omega
theorem pairs_pre : ∀ (l : List Nat) (p : Nat), 2 * p ≤ l.length → pre (pairs l) p = pre l (2 * p)
  | [], p, h => by simp [pairs, pre]
  | [_], p, h => by
    have : p = 0 := by simp at h; omega
    subst this; simp [pre]
  | a :: b :: t, 0, _ => by simp [pre]
  | a :: b :: t, p + 1, h => by
    rw [pairs, pre_cons, pairs_pre t p (by simp at h; omega), show 2 * (p + 1) = 2 * p + 1 + 1 by omega, pre_cons, pre_cons]
    omega
theorem pairs_getD : ∀ (l : List Nat) (p : Nat), 2 * p + 1 < l.length → (pairs l).getD p 0 = l.getD (2 * p) 0 + l.getD (2 * p + 1) 0
  | [], p, h => by simp at h
  | [_], p, h => by simp at h
  | a :: b :: t, 0, _ => by simp [pairs]
  | a :: b :: t, p + 1, h => by
    rw [pairs, List.getD_cons_succ, pairs_getD t p (by simp at h; omega), show 2 * (p + 1) = 2 * p + 1 + 1 by omega, List.getD_cons_succ, List.getD_cons_succ, List.getD_cons_succ, List.getD_cons_succ]
theorem Up.pairs {l : List Nat} (h : Up l) : Up (Ytccfbkbfmkdapaa.pairs l) := by
  refine List.pairwise_iff_getElem.2 fun i j hi hj hij => ?_
  have li := pairs_len l
  have gi := pairs_getD l i (by omega)
  have gj := pairs_getD l j (by omega)
  simp only [List.getD, List.getElem?_eq_getElem hi, List.getElem?_eq_getElem hj, Option.getD_some] at gi gj
  have a := h.getD (i := 2 * i) (j := 2 * j) (by omega) (by omega)
  have b := h.getD (i := 2 * i + 1) (j := 2 * j + 1) (by omega) (by omega)
  simp only [List.getD] at a b
  omega

/-- Single ones and double ones, by cost; single ones first. -/
def mrg : List Nat → List Nat → List (Nat × Bool)
  | [], ds => ds.map fun d => (d, false)
  | c :: cs, [] => (c, true) :: mrg cs []
  | c :: cs, d :: ds => if d < c then (d, false) :: mrg (c :: cs) ds else (c, true) :: mrg cs (d :: ds)
termination_by cs ds => cs.length + ds.length
theorem mrg_nil (cs : List Nat) : mrg cs [] = cs.map fun c => (c, true) := by
  induction cs with
  | nil => simp [mrg]
  | cons c cs ih => rw [mrg, ih]; rfl
theorem mrg_lt {c d : Nat} (cs ds : List Nat) (h : d < c) : mrg (c :: cs) (d :: ds) = (d, false) :: mrg (c :: cs) ds := by rw [mrg, if_pos h]
theorem mrg_ge {c d : Nat} (cs ds : List Nat) (h : ¬ d < c) : mrg (c :: cs) (d :: ds) = (c, true) :: mrg cs (d :: ds) := by rw [mrg, if_neg h]
theorem mrg_len : ∀ cs ds, (mrg cs ds).length = cs.length + ds.length
  | [], ds => by simp [mrg]
  | c :: cs, [] => by rw [mrg_nil]; simp
  | c :: cs, d :: ds => by
    by_cases h : d < c
    · rw [mrg_lt _ _ h, List.length_cons, mrg_len (c :: cs) ds]; simp only [List.length_cons]; omega
    · rw [mrg_ge _ _ h, List.length_cons, mrg_len cs (d :: ds)]; simp only [List.length_cons]; omega
termination_by cs ds => cs.length + ds.length

/-- The costs alone. -/
def cost (r : List (Nat × Bool)) : List Nat := r.map (·.1)
theorem cost_len (r : List (Nat × Bool)) : (cost r).length = r.length := by simp [cost]
theorem cost_true (cs : List Nat) : cost (cs.map fun c => (c, true)) = cs := by simp [cost, Function.comp_def]
theorem cost_false (cs : List Nat) : cost (cs.map fun c => (c, false)) = cs := by simp [cost, Function.comp_def]
theorem mrg_mem {cs ds : List Nat} {x : Nat} : x ∈ cost (mrg cs ds) → x ∈ cs ∨ x ∈ ds := by
  induction cs, ds using mrg.induct with
  | case1 ds => intro h; right; simpa [mrg, cost] using h
  | case2 c cs ih => intro h; left; simpa [mrg_nil, cost] using h
  | case3 c cs d ds hlt ih =>
    intro h
    rw [mrg_lt _ _ hlt, cost, List.map_cons, List.mem_cons] at h
    rcases h with h | h
    · right; simp [h]
    · rcases ih h with h | h
      · exact .inl h
      · exact .inr (by simp [h])
  | case4 c cs d ds hlt ih =>
    intro h
    rw [mrg_ge _ _ hlt, cost, List.map_cons, List.mem_cons] at h
    rcases h with h | h
    · left; simp [h]
    · rcases ih h with h | h
      · exact .inl (by simp [h])
      · exact .inr h
theorem mrg_up {cs ds : List Nat} (hc : Up cs) (hd : Up ds) : Up (cost (mrg cs ds)) := by
  induction cs, ds using mrg.induct with
  | case1 ds => rw [mrg, cost_false]; exact hd
  | case2 c cs ih => rw [mrg_nil, cost_true]; exact hc
  | case3 c cs d ds hlt ih =>
    rw [mrg_lt _ _ hlt, cost, List.map_cons]
    refine List.pairwise_cons.2 ⟨fun x hx => ?_, ih hc hd.tail⟩
    rcases mrg_mem hx with h | h
    · rcases List.mem_cons.1 h with rfl | h
      · exact Nat.le_of_lt hlt
      · have := hc.head x h; omega
    · exact hd.head x h
  | case4 c cs d ds hlt ih =>
    rw [mrg_ge _ _ hlt, cost, List.map_cons]
    refine List.pairwise_cons.2 ⟨fun x hx => ?_, ih hc.tail hd⟩
    rcases mrg_mem hx with h | h
    · exact hc.head x h
    · rcases List.mem_cons.1 h with rfl | h
      · omega
      · have := hd.head x h; omega

/-- How many single ones are among the first k. -/
def ones (r : List (Nat × Bool)) (k : Nat) : Nat := (r.take k).countP (·.2)
theorem ones_zero (r : List (Nat × Bool)) : ones r 0 = 0 := by simp [ones]
theorem ones_cons (a : Nat × Bool) (r : List (Nat × Bool)) (k : Nat) : ones (a :: r) (k + 1) = (if a.2 then 1 else 0) + ones r k := by
  simp only [ones, List.take_succ_cons, List.countP_cons]
  split <;> omega
theorem ones_le (r : List (Nat × Bool)) (k : Nat) : ones r k ≤ k := by
  unfold ones
  exact Nat.le_trans List.countP_le_length (by simp; omega)

theorem ones_true (cs : List Nat) (k : Nat) (h : k ≤ cs.length) : ones (cs.map fun c => (c, true)) k = k := by
  induction cs generalizing k with
  | nil => simp at h; subst h; simp [ones]
  | cons c cs ih =>
    cases k with
    | zero => simp [ones]
    | succ k => rw [List.map_cons, ones_cons, ih k (by simpa using h)]; simp; omega
theorem ones_false (ds : List Nat) (k : Nat) : ones (ds.map fun d => (d, false)) k = 0 := by
  induction ds generalizing k with
  | nil => simp [ones]
  | cons d ds ih =>
    cases k with
    | zero => simp [ones]
    | succ k => rw [List.map_cons, ones_cons, ih]; simp

/-- What the first k of a merged row are: so many of the single ones, the rest of the double ones. -/
structure Split (cs ds : List Nat) (k m : Nat) : Prop where
  cnt : ones (mrg cs ds) k = m
  mle : m ≤ k
  mc : m ≤ cs.length
  md : k - m ≤ ds.length
  sum : pre (cost (mrg cs ds)) k = pre cs m + pre ds (k - m)
  lo : ∀ i j, m ≤ i → i < cs.length → j < k - m → ds.getD j 0 < cs.getD i 0

theorem split {cs ds : List Nat} (hc : Up cs) (k : Nat) (hk : k ≤ cs.length + ds.length) : ∃ m, Split cs ds k m := by
  induction cs, ds using mrg.induct generalizing k with
  | case1 ds =>
    refine ⟨0, ⟨by rw [mrg, ones_false], Nat.zero_le _, Nat.zero_le _, by simpa using hk, ?_, fun i j _ hi => by simp at hi⟩⟩
    rw [mrg, cost_false, pre_nil]; simp
  | case2 c cs ih =>
    have hk' : k ≤ (c :: cs).length := by simpa using hk
    refine ⟨k, ⟨by rw [mrg_nil, ones_true _ _ hk'], Nat.le_refl _, hk', by simp, ?_, fun i j _ _ hj => by omega⟩⟩
    rw [mrg_nil, cost_true]; simp [pre]
  | case3 c cs d ds hlt ih =>
    cases k with
    | zero => exact ⟨0, ⟨ones_zero _, Nat.le_refl _, Nat.zero_le _, by simp, by simp [pre], fun i j _ _ hj => by omega⟩⟩
    | succ k =>
      obtain ⟨m, S⟩ := ih hc k (by simp only [List.length_cons] at hk ⊢; omega)
      have e : k + 1 - m = k - m + 1 := by have := S.mle; omega
      refine ⟨m, ⟨?_, by have := S.mle; omega, S.mc, ?_, ?_, fun i j hi hi2 hj => ?_⟩⟩
      · rw [mrg_lt _ _ hlt, ones_cons, S.cnt]; simp
      · rw [e]; have := S.md; simp; omega
      · rw [mrg_lt _ _ hlt, cost, List.map_cons, pre_cons, e, pre_cons]
        have := S.sum
        rw [cost] at this
        rw [this]; omega
      · cases j with
        | zero =>
          have := hc.getD (Nat.zero_le i) hi2
          simp only [List.getD_cons_zero] at this ⊢
          omega
        | succ j =>
          rw [List.getD_cons_succ]
          exact S.lo i j hi hi2 (by omega)
  | case4 c cs d ds hlt ih =>
    cases k with
    | zero => exact ⟨0, ⟨ones_zero _, Nat.le_refl _, Nat.zero_le _, by simp, by simp [pre], fun i j _ _ hj => by omega⟩⟩
    | succ k =>
      obtain ⟨m, S⟩ := ih hc.tail k (by simp only [List.length_cons] at hk ⊢; omega)
      have e : k + 1 - (m + 1) = k - m := by omega
      refine ⟨m + 1, ⟨?_, by have := S.mle; omega, by have := S.mc; simp; omega, ?_, ?_, fun i j hi hi2 hj => ?_⟩⟩
      · rw [mrg_ge _ _ hlt, ones_cons, S.cnt]; simp; omega
      · rw [e]; exact S.md
      · rw [mrg_ge _ _ hlt, cost, List.map_cons, pre_cons, e, pre_cons]
        have := S.sum
        rw [cost] at this
        rw [this]; omega
      · cases i with
        | zero => omega
        | succ i =>
          rw [List.getD_cons_succ]
          exact S.lo i j (by omega) (by simpa using hi2) (by omega)

/-- No choice of so many single ones and so many double ones costs less than the first k. -/
theorem least_split {cs ds : List Nat} (hc : Up cs) (hd : Up ds) (j q : Nat) (hj : j ≤ cs.length) (hq : q ≤ ds.length) : pre (cost (mrg cs ds)) (j + q) ≤ pre cs j + pre ds q := by
  induction cs, ds using mrg.induct generalizing j q with
  | case1 ds =>
    have : j = 0 := by simpa using hj
    subst this
    rw [mrg, cost_false, pre_nil]; simp
  | case2 c cs ih =>
    have : q = 0 := by simpa using hq
    subst this
    rw [mrg_nil, cost_true]; simp [pre]
  | case3 c cs d ds hlt ih =>
    cases q with
    | succ q =>
      rw [show j + (q + 1) = j + q + 1 by omega, mrg_lt _ _ hlt, cost, List.map_cons, pre_cons, pre_cons]
      have := ih hc hd.tail j q hj (by simpa using hq)
      rw [cost] at this
      omega
    | zero =>
      cases j with
      | zero => simp [pre]
      | succ j =>
        rw [show j + 1 + 0 = j + 1 by omega, mrg_lt _ _ hlt, cost, List.map_cons, pre_cons]
        have h1 := ih hc hd.tail j 0 (by simp at hj ⊢; omega) (Nat.zero_le _)
        rw [cost, pre_zero, Nat.add_zero] at h1
        have h2 := pre_succ (c :: cs) j (by simp at hj ⊢; omega)
        have h3 := hc.getD (Nat.zero_le j) (by simp at hj ⊢; omega)
        simp only [List.getD_cons_zero] at h3
        rw [pre_zero]
        omega
  | case4 c cs d ds hlt ih =>
    cases j with
    | succ j =>
      rw [show j + 1 + q = j + q + 1 by omega, mrg_ge _ _ hlt, cost, List.map_cons, pre_cons, pre_cons]
      have := ih hc.tail hd j q (by simpa using hj) hq
      rw [cost] at this
      omega
    | zero =>
      cases q with
      | zero => simp [pre]
      | succ q =>
        rw [show 0 + (q + 1) = q + 1 by omega, mrg_ge _ _ hlt, cost, List.map_cons, pre_cons]
        have h1 := ih hc.tail hd 0 q (Nat.zero_le _) (by simp at hq ⊢; omega)
        rw [cost, pre_zero, Nat.zero_add, Nat.zero_add] at h1
        have h2 := pre_succ (d :: ds) q (by simp at hq ⊢; omega)
        have h3 := hd.getD (Nat.zero_le q) (by simp at hq ⊢; omega)
        simp only [List.getD_cons_zero] at h3
        rw [pre_zero]
        omega

/-! ### The rows -/
/-- The row for each bit, the last bit first. -/
def row (cs : List Nat) : Nat → List (Nat × Bool)
  | 0 => cs.map fun c => (c, true)
  | d + 1 => mrg cs (pairs (cost (row cs d)))
theorem row_up {cs : List Nat} (hc : Up cs) (d : Nat) : Up (cost (row cs d)) := by
  induction d with
  | zero => rw [row, cost_true]; exact hc
  | succ d ih => rw [row]; exact mrg_up hc ih.pairs
theorem row_len0 (cs : List Nat) : (row cs 0).length = cs.length := by simp [row]
theorem row_len (cs : List Nat) (d : Nat) : (row cs (d + 1)).length = cs.length + (row cs d).length / 2 := by
  rw [row, mrg_len, pairs_len, cost_len]
/-- The rows are long enough. -/
theorem row_room (cs : List Nat) (d e : Nat) (h : cs.length ≤ 2 ^ e * 2 ^ (d + 1)) : 2 * cs.length ≤ (row cs d).length + 2 ^ (e + 1) := by
  induction d generalizing e with
  | zero =>
    rw [row_len0, Nat.pow_succ]
    omega
  | succ d ih =>
    have := ih (e + 1) (by rw [Nat.pow_succ 2 e, Nat.mul_assoc, Nat.mul_comm 2, ← Nat.pow_succ]; exact h)
    rw [row_len]
    rw [Nat.pow_succ 2 (e + 1)] at this
    omega
theorem row_enough (cs : List Nat) (d : Nat) (h : cs.length ≤ 2 ^ (d + 1)) : 2 * cs.length - 2 ≤ (row cs d).length := by
  have := row_room cs d 0 (by omega)
  omega
theorem row_grows (cs : List Nat) (d : Nat) : (row cs d).length ≤ (row cs (d + 1)).length := by
  induction d with
  | zero => rw [row_len, row_len0]; omega
  | succ d ih => rw [row_len, row_len cs (d + 1)]; omega

end Go.Proofs.Ytccfbkbfmkdapaa
