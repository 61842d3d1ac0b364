/-
  Plain mathematics of coins, further: how many single ones each row gives, the lengths that they make; these lengths are complete and cost what the coins cost.
-/
import Derived.Test.YtccfbkbfmkdapaaM
namespace Go.Proofs.Ytccfbkbfmkdapaa

/-- How many single ones are taken, the first bit's row first. -/
def lev (cs : List Nat) : Nat → Nat → List Nat
  | 0, k => [ones (row cs 0) k]
  | d + 1, k => ones (row cs (d + 1)) k :: lev cs d (2 * (k - ones (row cs (d + 1)) k))
theorem lev_len (cs : List Nat) (d k : Nat) : (lev cs d k).length = d + 1 := by
  induction d generalizing k with
  | zero => rfl
  | succ d ih => rw [lev, List.length_cons, ih]

theorem getD_zero {l : List Nat} {i : Nat} (h : l.length ≤ i) : l.getD i 0 = 0 := by simp [List.getD, h]

theorem ones_at {cs ds : List Nat} (i k : Nat) (h : i < ones (mrg cs ds) k) : ∃ q, q < k ∧ q < (mrg cs ds).length ∧ (cost (mrg cs ds)).getD q 0 = cs.getD i 0 := by
  induction cs, ds using mrg.induct generalizing i k with
  | case1 ds => rw [mrg, ones_false] at h; omega
  | case2 c cs ih =>
    have h1 := ones_le (mrg (c :: cs) []) k
    have h2 : ones (mrg (c :: cs) []) k ≤ (c :: cs).length := by
      rw [mrg_nil]
      unfold ones
      exact Nat.le_trans List.countP_le_length (by simp; omega)
    refine ⟨i, by omega, by rw [mrg_nil]; simp at h2 ⊢; omega, ?_⟩
    rw [mrg_nil, cost_true]
  | case3 c cs d ds hlt ih =>
    cases k with
    | zero => rw [ones_zero] at h; omega
    | succ k =>
      rw [mrg_lt _ _ hlt, ones_cons] at h
      obtain ⟨q, h1, h2, h3⟩ := ih i k (by simpa using h)
      refine ⟨q + 1, by omega, by rw [mrg_lt _ _ hlt]; simp; omega, ?_⟩
      rw [mrg_lt _ _ hlt, cost, List.map_cons, List.getD_cons_succ]
      exact h3
  | case4 c cs d ds hlt ih =>
    cases k with
    | zero => rw [ones_zero] at h; omega
    | succ k =>
      rw [mrg_ge _ _ hlt, ones_cons] at h
      cases i with
      | zero => exact ⟨0, by omega, by rw [mrg_ge _ _ hlt]; simp, by rw [mrg_ge _ _ hlt]; simp [cost]⟩
      | succ i =>
        obtain ⟨q, h1, h2, h3⟩ := ih i k (by simp at h; omega)
        refine ⟨q + 1, by omega, by rw [mrg_ge _ _ hlt]; simp; omega, ?_⟩
        rw [mrg_ge _ _ hlt, cost, List.map_cons, List.getD_cons_succ, List.getD_cons_succ]
        exact h3

theorem row_at {cs : List Nat} (d i k : Nat) (h : i < ones (row cs d) k) : ∃ q, q < k ∧ q < (row cs d).length ∧ (cost (row cs d)).getD q 0 = cs.getD i 0 := by
  cases d with
  | zero =>
    rw [row, ← mrg_nil] at h
    have := ones_at i k h
    rwa [mrg_nil] at this
  | succ d => exact ones_at i k h

/-- What is known of a row of which the first k are taken. -/
theorem row_split {cs : List Nat} (hc : Up cs) (d k : Nat) (hk : k ≤ (row cs (d + 1)).length) : ∃ m, Split cs (pairs (cost (row cs d))) k m ∧ ones (row cs (d + 1)) k = m ∧ 2 * (k - m) ≤ (row cs d).length := by
  obtain ⟨m, S⟩ := split (ds := pairs (cost (row cs d))) hc k (by rwa [row, mrg_len] at hk)
  have := S.md
  rw [pairs_len, cost_len] at this
  exact ⟨m, S, S.cnt, by omega⟩

theorem ones_row_le {cs : List Nat} (hc : Up cs) (d k : Nat) (hk : k ≤ (row cs d).length) : ones (row cs d) k ≤ cs.length := by
  cases d with
  | zero => rw [row_len0] at hk; rw [row, ones_true _ _ hk]; exact hk
  | succ d =>
    obtain ⟨m, S, h1, h2⟩ := row_split hc d k hk
    rw [h1]; exact S.mc

theorem lev_le {cs : List Nat} (hc : Up cs) (d k : Nat) (hk : k ≤ (row cs d).length) : ∀ m ∈ lev cs d k, m ≤ ones (row cs d) k := by
  induction d generalizing k with
  | zero => intro m hm; simp [lev] at hm; omega
  | succ d ih =>
    intro m hm
    obtain ⟨q, S, h1, h2⟩ := row_split hc d k hk
    rw [lev, List.mem_cons] at hm
    rcases hm with rfl | hm
    · exact Nat.le_refl _
    · have h3 := ih (2 * (k - ones (row cs (d + 1)) k)) (by rw [h1]; exact h2) m hm
      refine Nat.le_trans h3 ?_
      rw [h1]
      rcases Nat.lt_or_ge q (ones (row cs d) (2 * (k - q))) with hlt | hge
      · exfalso
        obtain ⟨p, p1, p2, p3⟩ := row_at d q _ hlt
        have hq : q < cs.length := Nat.lt_of_lt_of_le hlt (ones_row_le hc d _ h2)
        have h4 := S.lo q (p / 2) (Nat.le_refl _) hq (by omega)
        rw [pairs_getD _ _ (by rw [cost_len]; omega)] at h4
        have h5 : (cost (row cs d)).getD p 0 ≤ (cost (row cs d)).getD (2 * (p / 2)) 0 + (cost (row cs d)).getD (2 * (p / 2) + 1) 0 := by
          rcases Nat.mod_two_eq_zero_or_one p with e | e
          · rw [show 2 * (p / 2) = p by omega]; omega
          · rw [show 2 * (p / 2) + 1 = p by omega]; omega
        omega
      · exact hge
theorem lev_down {cs : List Nat} (hc : Up cs) (d k : Nat) (hk : k ≤ (row cs d).length) : (lev cs d k).Pairwise (· ≥ ·) := by
  induction d generalizing k with
  | zero => simp [lev]
  | succ d ih =>
    obtain ⟨q, S, h1, h2⟩ := row_split hc d k hk
    rw [lev]
    refine List.pairwise_cons.2 ⟨fun m hm => lev_le hc (d + 1) k hk m (by rw [lev]; exact List.mem_cons_of_mem _ hm), ih _ (by rw [h1]; exact h2)⟩

/-- The weight of such numbers. -/
def wt : List Nat → Nat
  | [] => 0
  | m :: t => m * 2 ^ t.length + wt t
theorem lev_wt {cs : List Nat} (hc : Up cs) (d k : Nat) (hk : k ≤ (row cs d).length) : wt (lev cs d k) = k * 2 ^ d := by
  induction d generalizing k with
  | zero => rw [row_len0] at hk; rw [lev, row, ones_true _ _ hk]; simp [wt]
  | succ d ih =>
    obtain ⟨q, S, h1, h2⟩ := row_split hc d k hk
    rw [lev, wt, lev_len, ih _ (by rw [h1]; exact h2), h1, Nat.pow_succ]
    have h3 := S.mle
    have : q * (2 ^ d * 2) + 2 * (k - q) * 2 ^ d = (q + (k - q)) * (2 ^ d * 2) := by
      rw [Nat.add_mul, Nat.mul_comm 2 (k - q), Nat.mul_assoc, Nat.mul_comm 2]
    rw [this, show q + (k - q) = k by omega]

def sumr (n : Nat) (f : Nat → Nat) : Nat := ((List.range n).map f).sum
theorem sumr_zero (f : Nat → Nat) : sumr 0 f = 0 := rfl
theorem sumr_succ (n : Nat) (f : Nat → Nat) : sumr (n + 1) f = sumr n f + f n := by simp [sumr, List.range_succ]
theorem sumr_congr {n : Nat} {f g : Nat → Nat} (h : ∀ i, i < n → f i = g i) : sumr n f = sumr n g := by
  unfold sumr
  congr 1
  apply List.map_congr_left
  intro i hi
  exact h i (List.mem_range.1 hi)
theorem sumr_add (n : Nat) (f g : Nat → Nat) : sumr n (fun i => f i + g i) = sumr n f + sumr n g := by
  induction n with
  | zero => rfl
  | succ n ih => rw [sumr_succ, sumr_succ, sumr_succ, ih]; omega
theorem sumr_const (n c : Nat) : sumr n (fun _ => c) = n * c := by
  induction n with
  | zero => simp [sumr_zero]
  | succ n ih => rw [sumr_succ, ih, Nat.add_mul]; omega
theorem sumr_mul (n c : Nat) (f : Nat → Nat) : sumr n (fun i => f i * c) = sumr n f * c := by
  induction n with
  | zero => simp [sumr_zero]
  | succ n ih => rw [sumr_succ, sumr_succ, ih, Nat.add_mul]
theorem sumr_first (n m : Nat) (f : Nat → Nat) (h : m ≤ n) : sumr n (fun i => if i < m then f i else 0) = sumr m f := by
  induction n with
  | zero => have : m = 0 := by omega
            subst this; rfl
  | succ n ih =>
    by_cases e : m = n + 1
    · subst e
      exact sumr_congr fun i hi => by simp [hi]
    · rw [sumr_succ, ih (by omega)]
      rw [if_neg (by omega)]
      omega
theorem sumr_le {n : Nat} {f g : Nat → Nat} (h : ∀ i, i < n → f i ≤ g i) : sumr n f ≤ sumr n g := by
  induction n with
  | zero => exact Nat.le_refl _
  | succ n ih =>
    rw [sumr_succ, sumr_succ]
    have h1 := ih fun i hi => h i (by omega)
    have h2 := h n (by omega)
    omega
theorem sumr_pre (cs : List Nat) (m : Nat) (h : m ≤ cs.length) : sumr m (fun i => cs.getD i 0) = pre cs m := by
  induction m with
  | zero => simp [sumr_zero, pre]
  | succ m ih => rw [sumr_succ, ih (by omega), pre_succ _ _ (by omega)]

/-- The length that so many single ones make. -/
def la (l : List Nat) (i : Nat) : Nat := l.countP fun m => decide (i < m)
theorem la_cons (m : Nat) (t : List Nat) (i : Nat) : la (m :: t) i = (if i < m then 1 else 0) + la t i := by
  simp only [la, List.countP_cons, decide_eq_true_eq]
  omega
theorem la_le (l : List Nat) (i : Nat) : la l i ≤ l.length := List.countP_le_length
theorem la_anti (l : List Nat) {i j : Nat} (h : i ≤ j) : la l j ≤ la l i := by
  induction l with
  | nil => exact Nat.le_refl _
  | cons m t ih => rw [la_cons, la_cons]; split <;> split <;> omega

def wi : List Nat → Nat → Nat
  | [], _ => 0
  | m :: t, i => (if i < m then 2 ^ t.length else 0) + wi t i
theorem wi_sum (l : List Nat) (n : Nat) (h : ∀ m ∈ l, m ≤ n) : sumr n (wi l) = wt l := by
  induction l with
  | nil => simp [wt, show wi [] = fun _ => 0 from rfl, sumr_const]
  | cons m t ih =>
    rw [wt, show wi (m :: t) = fun i => (if i < m then 2 ^ t.length else 0) + wi t i from rfl, sumr_add, ih fun x hx => h x (List.mem_cons_of_mem _ hx), sumr_first n m (fun _ => 2 ^ t.length) (h m List.mem_cons_self), sumr_const]
theorem wi_la {l : List Nat} (h : l.Pairwise (· ≥ ·)) (i : Nat) : wi l i + 2 ^ (l.length - la l i) = 2 ^ l.length := by
  induction l with
  | nil => simp [wi, la]
  | cons m t ih =>
    obtain ⟨h1, h2⟩ := List.pairwise_cons.1 h
    rw [wi, la_cons, List.length_cons]
    by_cases hi : i < m
    · rw [if_pos hi, if_pos hi, show t.length + 1 - (1 + la t i) = t.length - la t i by omega, Nat.pow_succ]
      have := ih h2
      omega
    · have h0 : la t i = 0 := by
        unfold la
        rw [List.countP_eq_zero]
        intro x hx
        have := h1 x hx
        simp; omega
      have hw : ∀ u : List Nat, (∀ x ∈ u, x ≤ m) → wi u i = 0 := by
        intro u hu
        induction u with
        | nil => rfl
        | cons a u ihu =>
          rw [wi, ihu fun x hx => hu x (List.mem_cons_of_mem _ hx)]
          have := hu a List.mem_cons_self
          rw [if_neg (by omega)]
      rw [if_neg hi, if_neg hi, h0, hw t h1]
      simp

/-- What single ones cost. -/
def lsum (cs : List Nat) (l : List Nat) : Nat := (l.map (pre cs)).sum
theorem lev_cost {cs : List Nat} (hc : Up cs) (d k : Nat) (hk : k ≤ (row cs d).length) : lsum cs (lev cs d k) = pre (cost (row cs d)) k := by
  induction d generalizing k with
  | zero => rw [row_len0] at hk; rw [lev, row, ones_true _ _ hk, cost_true]; simp [lsum]
  | succ d ih =>
    obtain ⟨q, S, h1, h2⟩ := row_split hc d k hk
    have := ih (2 * (k - q)) h2
    rw [lev, h1, lsum, List.map_cons, List.sum_cons, ← lsum, this, row, S.sum, pairs_pre _ _ (by rw [cost_len]; exact h2)]
theorem cost_la (cs l : List Nat) (h : ∀ m ∈ l, m ≤ cs.length) : sumr cs.length (fun i => cs.getD i 0 * la l i) = lsum cs l := by
  induction l with
  | nil => simp [lsum, la, sumr_const]
  | cons m t ih =>
    have h1 := ih fun x hx => h x (List.mem_cons_of_mem _ hx)
    have h2 := h m List.mem_cons_self
    rw [lsum, List.map_cons, List.sum_cons, ← lsum, ← h1, ← sumr_pre cs m h2, ← sumr_first cs.length m (fun i => cs.getD i 0) h2, ← sumr_add]
    refine sumr_congr fun i _ => ?_
    rw [la_cons, Nat.mul_add]
    split <;> simp

/-! ### The lengths of n counts, two at least, under the limit d + 1 -/
/-- The numbers of single ones. -/
def top (cs : List Nat) (d : Nat) : List Nat := lev cs d (2 * cs.length - 2)
/-- The least cost. -/
def best (cs : List Nat) (d : Nat) : Nat := pre (cost (row cs d)) (2 * cs.length - 2)
structure Fit (cs : List Nat) (d : Nat) : Prop where
  up : Up cs
  two : 2 ≤ cs.length
  few : cs.length ≤ 2 ^ (d + 1)
theorem Fit.enough {cs : List Nat} {d : Nat} (F : Fit cs d) : 2 * cs.length - 2 ≤ (row cs d).length := row_enough cs d F.few

theorem wt_le (l : List Nat) (m : Nat) (h : ∀ x ∈ l, x ≤ m) : wt l + m ≤ m * 2 ^ l.length := by
  induction l with
  | nil => simp [wt]
  | cons a t ih =>
    have h1 := ih fun x hx => h x (List.mem_cons_of_mem _ hx)
    have h2 : a * 2 ^ t.length ≤ m * 2 ^ t.length := Nat.mul_le_mul_right _ (h a List.mem_cons_self)
    rw [wt, List.length_cons, Nat.pow_succ, ← Nat.mul_assoc]
    omega
/-- The first bit's row gives them all. -/
theorem Fit.all {cs : List Nat} {d : Nat} (F : Fit cs d) : ones (row cs d) (2 * cs.length - 2) = cs.length := by
  have h1 := ones_row_le F.up d _ F.enough
  have h2 := wt_le _ _ (lev_le F.up d _ F.enough)
  rw [lev_wt F.up d _ F.enough, lev_len, Nat.pow_succ, Nat.mul_comm (2 ^ d) 2, ← Nat.mul_assoc] at h2
  have h3 := F.two
  have hp : 0 < 2 ^ d := Nat.two_pow_pos d
  generalize ones (row cs d) (2 * cs.length - 2) = m at *
  rcases Nat.lt_or_ge m cs.length with hlt | hge
  · exfalso
    have h4 : (m * 2) * 2 ^ d ≤ (2 * cs.length - 2) * 2 ^ d := Nat.mul_le_mul_right _ (by omega)
    have h5 : m = 0 := by omega
    subst h5
    have h6 : 2 * 2 ^ d ≤ (2 * cs.length - 2) * 2 ^ d := Nat.mul_le_mul_right _ (by omega)
    omega
  · omega
theorem Fit.le {cs : List Nat} {d : Nat} (F : Fit cs d) : ∀ m ∈ top cs d, m ≤ cs.length := fun m hm => by
  have := lev_le F.up d _ F.enough m hm
  have := F.all
  omega
theorem Fit.la_pos {cs : List Nat} {d : Nat} (F : Fit cs d) {i : Nat} (h : i < cs.length) : 1 ≤ la (top cs d) i := by
  have := F.all
  unfold top
  cases d with
  | zero => rw [lev, la_cons, this, if_pos h]; omega
  | succ d => rw [lev, la_cons, this, if_pos h]; omega
theorem Fit.la_le {cs : List Nat} {d : Nat} (i : Nat) : la (top cs d) i ≤ d + 1 := by
  have := Ytccfbkbfmkdapaa.la_le (top cs d) i
  rwa [top, lev_len] at this
theorem Fit.kraft {cs : List Nat} {d : Nat} (F : Fit cs d) (hd : d + 1 ≤ 15) : sumr cs.length (fun i => 2 ^ (15 - la (top cs d) i)) = 32768 := by
  have h1 := wi_sum (top cs d) cs.length F.le
  rw [top, lev_wt F.up d _ F.enough] at h1
  have h2 : sumr cs.length (fun i => wi (top cs d) i + 2 ^ (d + 1 - la (top cs d) i)) = cs.length * 2 ^ (d + 1) := by
    rw [← sumr_const]
    refine sumr_congr fun i _ => ?_
    have := wi_la (lev_down F.up d _ F.enough) i
    rwa [lev_len] at this
  rw [sumr_add, top, h1] at h2
  have h3 : sumr cs.length (fun i => 2 ^ (d + 1 - la (top cs d) i)) = 2 ^ (d + 1) := by
    have := F.two
    rw [Nat.pow_succ] at h2 ⊢
    have e : cs.length * (2 ^ d * 2) = (2 * cs.length - 2) * 2 ^ d + 2 ^ d * 2 := by
      rw [Nat.mul_comm (2 ^ d) 2, ← Nat.mul_assoc, ← Nat.add_mul]
      congr 1
      omega
    rw [top]
    omega
  have h4 : sumr cs.length (fun i => 2 ^ (15 - la (top cs d) i)) = sumr cs.length (fun i => 2 ^ (d + 1 - la (top cs d) i)) * 2 ^ (15 - (d + 1)) := by
    rw [← sumr_mul]
    refine sumr_congr fun i _ => ?_
    have := @Fit.la_le cs d i
    rw [← Nat.pow_add]
    congr 1
    omega
  rw [h4, h3, ← Nat.pow_add, show d + 1 + (15 - (d + 1)) = 15 by omega]
theorem Fit.costs {cs : List Nat} {d : Nat} (F : Fit cs d) : sumr cs.length (fun i => cs.getD i 0 * la (top cs d) i) = best cs d := by
  rw [cost_la cs _ F.le, top, lev_cost F.up d _ F.enough, best]

end Go.Proofs.Ytccfbkbfmkdapaa
