/-
  Plain mathematics of coins, third: a greater limit, counts that are so many times as great, one count less, counts that are all the same; the reference's merging comes to the same costs.
-/
import Derived.Test.YtccfbkbfmkdapaaN
namespace Go.Proofs.Ytccfbkbfmkdapaa

theorem row_s (cs : List Nat) (d : Nat) : row cs (d + 1) = mrg cs (pairs (cost (row cs d))) := rfl
theorem row_z (cs : List Nat) : row cs 0 = cs.map fun c => (c, true) := rfl
/-- One bit more. -/
theorem more_bits {cs : List Nat} (hc : Up cs) (d k : Nat) (hk : k ≤ (row cs d).length) : pre (cost (row cs (d + 1))) k ≤ pre (cost (row cs d)) k := by
  induction d generalizing k with
  | zero =>
    rw [row_len0] at hk
    have := least_split hc (row_up hc 0).pairs k 0 hk (Nat.zero_le _)
    rw [pre_zero, Nat.add_zero, Nat.add_zero] at this
    rw [row_s]
    refine Nat.le_trans this ?_
    rw [row_z, cost_true]; exact Nat.le_refl _
  | succ d ih =>
    obtain ⟨q, S, h1, h2⟩ := row_split hc d k hk
    have h3 := ih (2 * (k - q)) h2
    have h4 := least_split hc (row_up hc (d + 1)).pairs q (k - q) S.mc (by rw [pairs_len, cost_len]; have := row_grows cs d; omega)
    have h5 := S.mle
    rw [show q + (k - q) = k by omega] at h4
    have h6 := S.sum
    rw [pairs_pre _ _ (by rw [cost_len]; exact h2)] at h6
    rw [pairs_pre _ _ (by rw [cost_len]; have := row_grows cs d; omega)] at h4
    rw [row_s cs (d + 1), row_s cs d, h6]
    rw [row_s cs d] at *
    omega
theorem Fit.more {cs : List Nat} {d : Nat} (F : Fit cs d) : best cs (d + 1) ≤ best cs d := more_bits F.up d _ F.enough

/-! ### So many times as great -/
theorem mul_pairs (t : Nat) : ∀ l : List Nat, pairs (l.map (t * ·)) = (pairs l).map (t * ·)
  | [] => rfl
  | [_] => rfl
  | a :: b :: r => by simp only [pairs, List.map_cons, mul_pairs t r, Nat.mul_add]
theorem mul_mrg {t : Nat} (ht : 0 < t) (cs ds : List Nat) : mrg (cs.map (t * ·)) (ds.map (t * ·)) = (mrg cs ds).map fun x => (t * x.1, x.2) := by
  induction cs, ds using mrg.induct with
  | case1 ds => simp [mrg]
  | case2 c cs ih => simp [mrg_nil]
  | case3 c cs d ds hlt ih =>
    rw [mrg_lt _ _ hlt, List.map_cons, List.map_cons, List.map_cons, mrg_lt _ _ (Nat.mul_lt_mul_of_pos_left hlt ht)]
    rw [List.map_cons] at ih
    rw [ih]
  | case4 c cs d ds hlt ih =>
    rw [mrg_ge _ _ hlt, List.map_cons, List.map_cons, List.map_cons, mrg_ge _ _ (fun h => hlt (Nat.lt_of_mul_lt_mul_left h))]
    rw [List.map_cons] at ih
    rw [ih]
theorem cost_mul (t : Nat) (r : List (Nat × Bool)) : cost (r.map fun x => (t * x.1, x.2)) = (cost r).map (t * ·) := by simp [cost, Function.comp_def]
theorem mul_row {t : Nat} (ht : 0 < t) (cs : List Nat) (d : Nat) : row (cs.map (t * ·)) d = (row cs d).map fun x => (t * x.1, x.2) := by
  induction d with
  | zero => simp [row]
  | succ d ih => rw [row, row, ih, cost_mul, mul_pairs, mul_mrg ht]
theorem pre_mul (t : Nat) (l : List Nat) (k : Nat) : pre (l.map (t * ·)) k = t * pre l k := by
  induction l generalizing k with
  | nil => simp [pre]
  | cons a l ih =>
    cases k with
    | zero => simp [pre]
    | succ k => rw [List.map_cons, pre_cons, pre_cons, ih, Nat.mul_add]
theorem best_mul {t : Nat} (ht : 0 < t) (cs : List Nat) (d : Nat) : best (cs.map (t * ·)) d = t * best cs d := by
  rw [best, best, mul_row ht, cost_mul, pre_mul, List.length_map]

/-! ### One count less -/
theorem Up.perm {a b : List Nat} (ha : Up a) (hb : Up b) (h : a.Perm b) : a = b :=
  h.eq_of_pairwise (fun _ _ _ _ h1 h2 => Nat.le_antisymm h1 h2) ha hb
def ins (x : Nat) : List Nat → List Nat
  | [] => [x]
  | a :: l => if x ≤ a then x :: a :: l else a :: ins x l
theorem ins_perm (x : Nat) (l : List Nat) : (ins x l).Perm (x :: l) := by
  induction l with
  | nil => exact List.Perm.refl _
  | cons a l ih =>
    rw [ins]
    split
    · exact List.Perm.refl _
    · exact (ih.cons a).trans (List.Perm.swap x a l)
theorem ins_up (x : Nat) {l : List Nat} (h : Up l) : Up (ins x l) := by
  induction l with
  | nil => simp [ins, Up]
  | cons a l ih =>
    rw [ins]
    split
    · next hx =>
      refine List.pairwise_cons.2 ⟨fun y hy => ?_, h⟩
      rcases List.mem_cons.1 hy with rfl | hy
      · exact hx
      · have := h.head y hy; omega
    · next hx =>
      refine List.pairwise_cons.2 ⟨fun y hy => ?_, ih h.tail⟩
      rcases List.mem_cons.1 ((ins_perm x l).mem_iff.1 hy) with rfl | hy
      · omega
      · exact h.head y hy
theorem pre_ins (x : Nat) (l : List Nat) (j : Nat) : pre l (j - 1) ≤ pre (ins x l) j := by
  induction l generalizing j with
  | nil => rw [pre_nil]; exact Nat.zero_le _
  | cons a l ih =>
    cases j with
    | zero => rw [pre_zero]; exact Nat.zero_le _
    | succ j =>
      rw [ins, Nat.add_sub_cancel]
      split
      · rw [pre_cons]; omega
      · cases j with
        | zero => rw [pre_zero]; exact Nat.zero_le _
        | succ j => rw [pre_cons, pre_cons]; have := ih (j + 1); rw [Nat.add_sub_cancel] at this; omega
theorem ins_len (x : Nat) (l : List Nat) : (ins x l).length = l.length + 1 := (ins_perm x l).length_eq
theorem row_less (x : Nat) (cs : List Nat) (d : Nat) : (row (ins x cs) d).length ≤ (row cs d).length + 2 := by
  induction d with
  | zero => rw [row_len0, row_len0, ins_len]; omega
  | succ d ih => rw [row_len, row_len, ins_len]; omega
theorem one_less {cs : List Nat} (hc : Up cs) (x d k : Nat) (hk : k ≤ (row (ins x cs) d).length) : pre (cost (row cs d)) (k - 2) ≤ pre (cost (row (ins x cs) d)) k := by
  induction d generalizing k with
  | zero =>
    rw [row, row, cost_true, cost_true]
    exact Nat.le_trans (pre_mono cs (by omega)) (pre_ins x cs k)
  | succ d ih =>
    obtain ⟨q, S, h1, h2⟩ := row_split (ins_up x hc) d k hk
    have h5 := S.mle
    have hmc := S.mc
    rw [ins_len] at hmc
    have hl := row_less x cs d
    have h6 := S.sum
    rw [pairs_pre _ _ (by rw [cost_len]; exact h2)] at h6
    rw [row_s (ins x cs) d, h6]
    have hi := pre_ins x cs q
    by_cases hq : q = 0
    · subst hq
      have h3 := ih (2 * (k - 0)) h2
      have h4 := least_split hc (row_up hc d).pairs 0 (k - 2) (Nat.zero_le _) (by rw [pairs_len, cost_len]; omega)
      rw [pre_zero, Nat.zero_add, Nat.zero_add, pairs_pre _ _ (by rw [cost_len]; omega)] at h4
      rw [row_s cs d]
      have h7 := pre_mono (cost (row cs d)) (j := 2 * (k - 2)) (k := 2 * (k - 0) - 2) (by omega)
      omega
    · by_cases hqk : q = k
      · subst hqk
        rw [Nat.sub_self, Nat.mul_zero, pre_zero, Nat.add_zero]
        have h4 := least_split hc (row_up hc d).pairs (q - 2) 0 (by omega) (Nat.zero_le _)
        rw [pre_zero, Nat.add_zero, Nat.add_zero] at h4
        rw [row_s cs d]
        have h7 := pre_mono cs (j := q - 2) (k := q - 1) (by omega)
        omega
      · have h3 := ih (2 * (k - q)) h2
        have h4 := least_split hc (row_up hc d).pairs (q - 1) (k - q - 1) (by omega) (by rw [pairs_len, cost_len]; omega)
        rw [show q - 1 + (k - q - 1) = k - 2 by omega, pairs_pre _ _ (by rw [cost_len]; omega), show 2 * (k - q - 1) = 2 * (k - q) - 2 by omega] at h4
        rw [row_s cs d]
        omega
theorem best_less {cs : List Nat} (hc : Up cs) (x d : Nat) (F : Fit (ins x cs) d) : best cs d ≤ best (ins x cs) d := by
  have := one_less hc x d _ F.enough
  rw [ins_len, show 2 * (cs.length + 1) - 2 - 2 = 2 * cs.length - 2 by omega] at this
  rw [best, best, ins_len]
  exact this
theorem Fit.sum_le {cs : List Nat} {d : Nat} (F : Fit cs d) : cs.sum ≤ best cs d := by
  rw [← F.costs]
  have h1 := sumr_pre cs cs.length (Nat.le_refl _)
  rw [pre_all _ _ (Nat.le_refl _)] at h1
  rw [← h1]
  refine sumr_le fun i hi => ?_
  have := F.la_pos hi
  exact Nat.le_mul_of_pos_right _ this

/-! ### Counts that are all the same -/
theorem mrg_first {cs ds : List Nat} (h : ∀ c ∈ cs, ∀ d ∈ ds, c ≤ d) : mrg cs ds = (cs.map fun c => (c, true)) ++ ds.map fun d => (d, false) := by
  induction cs with
  | nil => simp [mrg]
  | cons c cs ih =>
    cases ds with
    | nil => rw [mrg_nil]; simp
    | cons d ds =>
      rw [mrg_ge _ _ (by have := h c List.mem_cons_self d List.mem_cons_self; omega), ih fun c hc d hd => h c (List.mem_cons_of_mem _ hc) d hd]
      rfl
theorem pairs_mem : ∀ {l : List Nat} {x : Nat}, x ∈ pairs l → ∃ a b, a ∈ l ∧ b ∈ l ∧ x = a + b
  | a :: b :: t, x, h => by
    rw [pairs, List.mem_cons] at h
    rcases h with rfl | h
    · exact ⟨a, b, by simp, by simp, rfl⟩
    · obtain ⟨u, v, hu, hv, e⟩ := pairs_mem h
      exact ⟨u, v, by simp [hu], by simp [hv], e⟩
theorem flat_ge (n c d : Nat) : ∀ x ∈ cost (row (List.replicate n c) d), c ≤ x := by
  induction d with
  | zero =>
    intro x hx
    rw [row, cost_true] at hx
    have := List.eq_of_mem_replicate hx
    omega
  | succ d ih =>
    intro x hx
    rw [row] at hx
    rcases mrg_mem hx with h | h
    · have := List.eq_of_mem_replicate h
      omega
    · obtain ⟨a, b, ha, hb, rfl⟩ := pairs_mem h
      have := ih a ha
      omega
theorem ones_app (a b : List (Nat × Bool)) (k : Nat) (ha : ∀ x ∈ a, x.2 = true) (hb : ∀ x ∈ b, x.2 = false) : ones (a ++ b) k = min k a.length := by
  induction a generalizing k with
  | nil =>
    simp only [List.nil_append, List.length_nil, Nat.min_zero]
    unfold ones
    rw [List.countP_eq_zero]
    intro x hx
    simp [hb x (List.mem_of_mem_take hx)]
  | cons y a ih =>
    cases k with
    | zero => simp [ones]
    | succ k =>
      rw [List.cons_append, ones_cons, ih k (fun x hx => ha x (List.mem_cons_of_mem _ hx)), ha y List.mem_cons_self]
      simp
      omega
theorem flat_ones (n c d k : Nat) : ones (row (List.replicate n c) d) k = min k n := by
  cases d with
  | zero =>
    rw [row]
    have := ones_app ((List.replicate n c).map fun c => (c, true)) [] k (fun x hx => by obtain ⟨_, _, rfl⟩ := List.mem_map.1 hx; rfl) (fun x hx => by cases hx)
    rwa [List.append_nil, List.length_map, List.length_replicate] at this
  | succ d =>
    rw [row, mrg_first, ones_app, List.length_map, List.length_replicate]
    · intro x hx; obtain ⟨_, _, rfl⟩ := List.mem_map.1 hx; rfl
    · intro x hx; obtain ⟨_, _, rfl⟩ := List.mem_map.1 hx; rfl
    · intro a ha b hb
      obtain ⟨u, v, hu, hv, rfl⟩ := pairs_mem hb
      have := flat_ge n c d u hu
      have := List.eq_of_mem_replicate ha
      omega
/-- Of all but one length either all codes have a bit, or none. -/
def Step (n : Nat) : List Nat → Prop
  | [] => True
  | m :: t => (m = n ∧ Step n t) ∨ (m < n ∧ ∀ x ∈ t, x = 0)
theorem lev_none (n c d : Nat) : ∀ x ∈ lev (List.replicate n c) d 0, x = 0 := by
  induction d with
  | zero => intro x hx; rw [lev, ones_zero] at hx; simpa using hx
  | succ d ih =>
    intro x hx
    rw [lev, ones_zero, List.mem_cons] at hx
    rcases hx with h | h
    · exact h
    · exact ih x h
theorem flat_step (n c d k : Nat) : Step n (lev (List.replicate n c) d k) := by
  induction d generalizing k with
  | zero =>
    rw [lev, flat_ones]
    by_cases h : n ≤ k
    · left; exact ⟨by omega, trivial⟩
    · right; exact ⟨by omega, fun x hx => by cases hx⟩
  | succ d ih =>
    rw [lev, flat_ones]
    by_cases h : n ≤ k
    · left; exact ⟨by omega, ih _⟩
    · right
      refine ⟨by omega, fun x hx => ?_⟩
      rw [show 2 * (k - min k n) = 0 by omega] at hx
      exact lev_none n c d x hx
theorem step_la {n : Nat} {l : List Nat} (h : Step n l) {i j : Nat} (hi : i < n) (hj : j < n) : la l i ≤ la l j + 1 := by
  induction l with
  | nil => exact Nat.le_succ _
  | cons m t ih =>
    rw [la_cons, la_cons]
    rcases h with ⟨rfl, h⟩ | ⟨h1, h2⟩
    · rw [if_pos hi, if_pos hj]
      have := ih h
      omega
    · have h0 : la t i = 0 := by
        unfold la
        rw [List.countP_eq_zero]
        intro x hx
        rw [h2 x hx]; simp
      rw [h0]
      split <;> omega

/-! ### The reference's merging -/
def mrg2 : List Nat → List Nat → List Nat
  | [], ds => ds
  | c :: cs, [] => c :: mrg2 cs []
  | c :: cs, d :: ds => if d ≤ c then d :: mrg2 (c :: cs) ds else c :: mrg2 cs (d :: ds)
termination_by cs ds => cs.length + ds.length
theorem mrg_small {x : Nat} {cs ds : List Nat} (h1 : ∀ c ∈ cs, x ≤ c) (h2 : Up ds) (h3 : ∀ d ∈ ds, x ≤ d) : cost (mrg cs (x :: ds)) = x :: cost (mrg cs ds) := by
  induction cs with
  | nil => simp [mrg, cost]
  | cons c cs ih =>
    by_cases e : x < c
    · rw [mrg_lt _ _ e]; rfl
    · have : c = x := by have := h1 c List.mem_cons_self; omega
      subst this
      rw [mrg_ge _ _ e, cost, List.map_cons, ← cost, ih fun y hy => h1 y (List.mem_cons_of_mem _ hy)]
      congr 1
      cases ds with
      | nil => rw [mrg_nil, mrg_nil]; rfl
      | cons d ds =>
        have := h3 d List.mem_cons_self
        rw [mrg_ge cs ds (by omega)]; rfl
theorem mrg2_eq {cs ds : List Nat} (hc : Up cs) (hd : Up ds) : mrg2 cs ds = cost (mrg cs ds) := by
  induction cs, ds using mrg2.induct with
  | case1 ds => rw [mrg2, mrg, cost_false]
  | case2 c cs ih => rw [mrg2, ih hc.tail hd, mrg_nil, mrg_nil]; rfl
  | case3 c cs d ds hle ih =>
    rw [mrg2, if_pos hle, ih hc hd.tail]
    refine (mrg_small (fun y hy => ?_) hd.tail hd.head).symm
    rcases List.mem_cons.1 hy with rfl | hy
    · exact hle
    · have := hc.head y hy; omega
  | case4 c cs d ds hle ih =>
    rw [mrg2, if_neg hle, ih hc.tail hd, mrg_ge _ _ (by omega)]; rfl
/-- The reference's row behind so many rounds. -/
def rrow (cs : List Nat) : Nat → List Nat
  | 0 => []
  | d + 1 => mrg2 cs (pairs (rrow cs d))
theorem rrow_eq {cs : List Nat} (hc : Up cs) (d : Nat) : rrow cs (d + 1) = cost (row cs d) := by
  induction d with
  | zero =>
    rw [rrow, rrow, show pairs [] = [] from rfl, mrg2_eq hc (by simp [Up]), row, mrg_nil]
  | succ d ih => rw [rrow, ih, mrg2_eq hc (row_up hc d).pairs, row]

end Go.Proofs.Ytccfbkbfmkdapaa
