/-
  Plain mathematics of merging in place: rows that rise by a key, one element moved into its place, two rows cut and turned about.
-/
import Derived.Test.YtccfbkbfmkdapaaSc
namespace Go.Proofs.Ytccfbkbfmkdapaa
open Go.RowKit Go.Sort

/-- The places from a on, up to b, rise by the key. -/
def Asc (key : Nat → Int) (d : Array Nat) (a b : Nat) : Prop := ∀ i j, a ≤ i → i ≤ j → j < b → key d[i]! ≤ key d[j]!
theorem Asc.of_sorted {key : Nat → Int} {d : Array Nat} {a b : Nat} (h : SortedIn (ltk key) a b d) : Asc key d a b := fun i j hi hij hj => by
  by_cases e : i = j
  · subst e; exact Int.le_refl _
  · have := h i j hi (by omega) hj
    simp [ltk] at this
    omega
theorem Asc.congr {key : Nat → Int} {d d' : Array Nat} {a b : Nat} (h : Asc key d a b) (e : ∀ x, a ≤ x → x < b → d'[x]! = d[x]!) : Asc key d' a b := fun i j hi hij hj => by
  rw [e i hi (by omega), e j (by omega) hj]
  exact h i j hi hij hj
theorem Asc.sub {key : Nat → Int} {d : Array Nat} {a b a' b' : Nat} (h : Asc key d a b) (h1 : a ≤ a') (h2 : b' ≤ b) : Asc key d a' b' := fun i j hi hij hj => h i j (by omega) hij (by omega)

/-- The element at a goes so many places on. -/
def shl (d : Array Nat) (a : Nat) : Nat → Array Nat
  | 0 => d
  | k + 1 => swp (shl d a k) (a + k) (a + k + 1)
theorem shl_size (d : Array Nat) (a k : Nat) : (shl d a k).size = d.size := by
  induction k with
  | zero => rfl
  | succ k ih => rw [shl, size_swp, ih]
theorem shl_at (d : Array Nat) (a k : Nat) (h : a + k < d.size) (x : Nat) : (shl d a k)[x]! = if a ≤ x ∧ x < a + k then d[x + 1]! else if x = a + k then d[a]! else d[x]! := by
  induction k generalizing x with
  | zero =>
    rw [if_neg (by omega)]
    by_cases e : x = a
    · subst e; rw [if_pos (by omega)]; rfl
    · rw [if_neg (by omega)]; rfl
  | succ k ih =>
    have ih' := ih (by omega)
    rw [shl, swp_get _ (by rw [shl_size]; omega) (by rw [shl_size]; omega)]
    by_cases e1 : x = a + k + 1
    · rw [if_pos e1, ih', if_neg (by omega), if_pos rfl, if_neg (by omega), if_pos (by omega)]
    · rw [if_neg e1]
      by_cases e2 : x = a + k
      · rw [if_pos e2, ih', if_neg (by omega), if_neg (by omega), if_pos (by omega)]
        exact at_eq (by omega)
      · rw [if_neg e2, ih']
        by_cases e3 : a ≤ x ∧ x < a + k
        · rw [if_pos e3, if_pos (show a ≤ x ∧ x < a + (k + 1) by omega)]
        · rw [if_neg e3, if_neg e2, if_neg (show ¬ (a ≤ x ∧ x < a + (k + 1)) by omega), if_neg (by omega)]
theorem shl_perm (d : Array Nat) (a k lo hi : Nat) (h1 : lo ≤ a) (h2 : a + k < hi) (h3 : hi ≤ d.size) : PermIn lo hi d (shl d a k) := by
  induction k with
  | zero => exact permIn_refl _ _ _
  | succ k ih => exact permIn_trans _ _ _ _ _ (ih (by omega)) (swp_permIn _ _ _ _ _ (by omega) (by omega) (by omega) (by omega) (by rw [shl_size]; omega))

/-- The element at m goes so many places back. -/
def shr (d : Array Nat) (m : Nat) : Nat → Array Nat
  | 0 => d
  | t + 1 => swp (shr d m t) (m - t) (m - t - 1)
theorem shr_size (d : Array Nat) (m k : Nat) : (shr d m k).size = d.size := by
  induction k with
  | zero => rfl
  | succ k ih => rw [shr, size_swp, ih]
theorem shr_at (d : Array Nat) (m t : Nat) (h : m < d.size) (ht : t ≤ m) (x : Nat) : (shr d m t)[x]! = if x = m - t then d[m]! else if m - t < x ∧ x ≤ m then d[x - 1]! else d[x]! := by
  induction t generalizing x with
  | zero =>
    by_cases e : x = m
    · subst e; rw [if_pos (by omega)]; rfl
    · rw [if_neg (by omega), if_neg (by omega)]; rfl
  | succ t ih =>
    have ih' := ih (by omega)
    rw [shr, swp_get _ (by rw [shr_size]; omega) (by rw [shr_size]; omega)]
    by_cases e1 : x = m - t - 1
    · rw [if_pos e1, ih', if_pos rfl, if_pos (by omega)]
    · rw [if_neg e1]
      by_cases e2 : x = m - t
      · rw [if_pos e2, ih', if_neg (by omega), if_neg (by omega), if_neg (by omega), if_pos (by omega)]
        exact at_eq (by omega)
      · rw [if_neg e2, ih', if_neg e2]
        by_cases e3 : m - t < x ∧ x ≤ m
        · rw [if_pos e3, if_neg (show ¬ x = m - (t + 1) by omega), if_pos (show m - (t + 1) < x ∧ x ≤ m by omega)]
        · rw [if_neg e3, if_neg (show ¬ x = m - (t + 1) by omega), if_neg (show ¬ (m - (t + 1) < x ∧ x ≤ m) by omega)]
theorem shr_perm (d : Array Nat) (m t lo hi : Nat) (h1 : lo + t ≤ m) (h2 : m < hi) (h3 : hi ≤ d.size) : PermIn lo hi d (shr d m t) := by
  induction t with
  | zero => exact permIn_refl _ _ _
  | succ t ih => exact permIn_trans _ _ _ _ _ (ih (by omega)) (swp_permIn _ _ _ _ _ (by omega) (by omega) (by omega) (by omega) (by rw [shr_size]; omega))

/-- The first element has come to its place. -/
theorem shl_asc (key : Nat → Int) (d : Array Nat) (lo hi i : Nat) (hh : hi ≤ d.size) (hi1 : lo + 1 ≤ i) (hi2 : i ≤ hi) (hs : Asc key d (lo + 1) hi)
    (h1 : ∀ x, lo + 1 ≤ x → x < i → key d[x]! < key d[lo]!) (h2 : ∀ x, i ≤ x → x < hi → key d[lo]! ≤ key d[x]!) : Asc key (shl d lo (i - 1 - lo)) lo hi := fun p q hp hpq hq => by
  have ha := shl_at d lo (i - 1 - lo) (by omega)
  by_cases e : p = q
  · subst e; exact Int.le_refl _
  · rw [ha, ha]
    by_cases c1 : p < i - 1
    · rw [if_pos (by omega)]
      by_cases c2 : q < i - 1
      · rw [if_pos (by omega)]; exact hs _ _ (by omega) (by omega) (by omega)
      · rw [if_neg (by omega)]
        have := h1 (p + 1) (by omega) (by omega)
        by_cases c3 : q = i - 1
        · rw [if_pos (by omega)]; omega
        · rw [if_neg (by omega)]
          have := h2 q (by omega) hq
          omega
    · rw [if_neg (by omega)]
      by_cases c2 : p = i - 1
      · rw [if_pos (by omega), if_neg (by omega), if_neg (by omega)]; exact h2 q (by omega) hq
      · rw [if_neg (by omega), if_neg (by omega), if_neg (by omega)]; exact hs _ _ (by omega) hpq hq
/-- The last element has come to its place. -/
theorem shr_asc (key : Nat → Int) (d : Array Nat) (lo m i : Nat) (hh : m < d.size) (hi1 : lo ≤ i) (hi2 : i ≤ m) (hs : Asc key d lo m)
    (h1 : ∀ x, lo ≤ x → x < i → key d[x]! ≤ key d[m]!) (h2 : ∀ x, i ≤ x → x < m → key d[m]! < key d[x]!) : Asc key (shr d m (m - i)) lo (m + 1) := fun p q hp hpq hq => by
  have ha := shr_at d m (m - i) hh (by omega)
  by_cases e : p = q
  · subst e; exact Int.le_refl _
  · rw [ha, ha]
    by_cases c1 : p < i
    · rw [if_neg (by omega), if_neg (by omega)]
      by_cases c2 : q = i
      · rw [if_pos (by omega)]; exact h1 p hp c1
      · rw [if_neg (by omega)]
        by_cases c3 : q < i
        · rw [if_neg (by omega)]; exact hs _ _ hp hpq (by omega)
        · rw [if_pos (by omega)]; exact hs _ _ hp (by omega) (by omega)
    · by_cases c2 : p = i
      · rw [if_pos (by omega), if_neg (by omega), if_pos (by omega)]
        have := h2 (q - 1) (by omega) (by omega)
        omega
      · rw [if_neg (by omega), if_pos (by omega), if_neg (by omega), if_pos (by omega)]
        exact hs _ _ (by omega) (by omega) (by omega)

/-- Where the two rows are cut. -/
structure CutAt (key : Nat → Int) (d : Array Nat) (lo m hi mid s : Nat) : Prop where
  a : lo ≤ s ∧ s ≤ m
  e : m + mid - s ≤ hi ∧ m ≤ m + mid - s
  l : s ≤ mid
  good : ∀ x, lo ≤ x → x < s → ∀ y, m + mid - s ≤ y → y < hi → key d[x]! ≤ key d[y]!
  bad : ∀ x, m ≤ x → x < m + mid - s → ∀ y, s ≤ y → y < m → key d[x]! ≤ key d[y]!
theorem cut_at (key : Nat → Int) (d : Array Nat) (lo m hi mid s s0 r0 : Nat) (h1 : lo < m) (h2 : m < hi) (hmid : mid = (lo + hi) / 2) (hA : Asc key d lo m) (hB : Asc key d m hi)
    (h0 : (mid < m ∧ s0 = mid + m - hi ∧ r0 = mid) ∨ (m ≤ mid ∧ s0 = lo ∧ r0 = m)) (hs : s0 ≤ s ∧ s ≤ r0)
    (hg : ∀ c, s0 ≤ c → c < s → key d[c]! ≤ key d[mid + m - 1 - c]!) (hb : ∀ c, s ≤ c → c < r0 → key d[mid + m - 1 - c]! < key d[c]!) : CutAt key d lo m hi mid s := by
  refine ⟨by omega, by omega, by omega, fun x hx1 hx2 y hy1 hy2 => ?_, fun x hx1 hx2 y hy1 hy2 => ?_⟩
  · have h3 : s0 < s := by omega
    have g := hg (s - 1) (by omega) (by omega)
    have a1 := hA x (s - 1) hx1 (by omega) (by omega)
    have b1 := hB (mid + m - 1 - (s - 1)) y (by omega) (by omega) hy2
    omega
  · have h3 : s < r0 := by omega
    have g := hb s (Nat.le_refl _) h3
    have a1 := hA s y (by omega) hy1 hy2
    have b1 := hB x (mid + m - 1 - s) hx1 (by omega) (by omega)
    omega

/-- Turned about, the two halves are apart. -/
structure Half (key : Nat → Int) (d : Array Nat) (lo mid hi s e : Nat) : Prop where
  l1 : Asc key d lo s
  l2 : Asc key d s mid
  r1 : Asc key d mid e
  r2 : Asc key d e hi
  x : ∀ p q, lo ≤ p → p < mid → mid ≤ q → q < hi → key d[p]! ≤ key d[q]!
theorem half (key : Nat → Int) (d d1 : Array Nat) (lo m hi mid s : Nat) (h1 : lo < m) (hmid : mid = (lo + hi) / 2) (hA : Asc key d lo m) (hB : Asc key d m hi) (C : CutAt key d lo m hi mid s)
    (hr : ∀ x, rotf d s m (m + mid - s) x = d1[x]!) : Half key d1 lo mid hi s (m + mid - s) := by
  have ca := C.a; have ce := C.e; have cl := C.l
  have q1 : ∀ x, x < s → d1[x]! = d[x]! := fun x hx => by rw [← hr, rotf_3 (by omega)]
  have q2 : ∀ x, s ≤ x → x < mid → d1[x]! = d[x + (m - s)]! := fun x hx hx2 => by rw [← hr, rotf_1 (by omega)]
  have q3 : ∀ x, mid ≤ x → x < m + mid - s → d1[x]! = d[x - (mid - s)]! := fun x hx hx2 => by rw [← hr, rotf_2 (by omega)]; exact at_eq (by omega)
  have q4 : ∀ x, m + mid - s ≤ x → mid ≤ x → d1[x]! = d[x]! := fun x hx hx2 => by rw [← hr, rotf_3 (by omega)]
  refine ⟨fun i j hi hij hj => ?_, fun i j hi hij hj => ?_, fun i j hi hij hj => ?_, fun i j hi hij hj => ?_, fun p q hp hp2 hq hq2 => ?_⟩
  · rw [q1 i (by omega), q1 j hj]; exact hA i j hi hij (by omega)
  · rw [q2 i hi (by omega), q2 j (by omega) hj]; exact hB _ _ (by omega) (by omega) (by omega)
  · rw [q3 i hi (by omega), q3 j (by omega) hj]; exact hA _ _ (by omega) (by omega) (by omega)
  · rw [q4 i hi (by omega), q4 j (by omega) (by omega)]; exact hB _ _ (by omega) hij hj
  · by_cases c1 : p < s
    · rw [q1 p c1]
      by_cases c2 : q < m + mid - s
      · rw [q3 q hq c2]; exact hA _ _ hp (by omega) (by omega)
      · rw [q4 q (by omega) hq]; exact C.good p hp c1 q (by omega) hq2
    · rw [q2 p (by omega) hp2]
      by_cases c2 : q < m + mid - s
      · rw [q3 q hq c2]; exact C.bad _ (by omega) (by omega) _ (by omega) (by omega)
      · rw [q4 q (by omega) hq]; exact hB _ _ (by omega) (by omega) hq2
/-- A row that is not turned is one that is turned by nothing. -/
theorem rot_none (d : Array Nat) (s m e x : Nat) (h : s = m ∨ m = e) (h1 : s ≤ m) (h2 : m ≤ e) : rotf d s m e x = d[x]! := by
  rcases h with rfl | rfl
  · by_cases c : s ≤ x ∧ x < e
    · rw [rotf_1 (by omega)]; exact at_eq (by omega)
    · rw [rotf_3 (by omega)]
  · by_cases c : s ≤ x ∧ x < m
    · rw [rotf_2 (by omega)]; exact at_eq (by omega)
    · rw [rotf_3 (by omega)]

theorem permIn_out {a b : Nat} {d d' : Array Nat} (h : PermIn a b d d') {x : Nat} (hx : x < a ∨ b ≤ x) : d'[x]! = d[x]! := h.2.1 x hx
/-- Both halves merged. -/
theorem whole (key : Nat → Int) (d1 d2 d3 : Array Nat) (lo mid hi s e : Nat) (hh : hi ≤ d1.size) (H : Half key d1 lo mid hi s e) (p2 : PermIn lo mid d1 d2) (a2 : Asc key d2 lo mid)
    (p3 : PermIn mid hi d2 d3) (a3 : Asc key d3 mid hi) : Asc key d3 lo hi := by
  have hl : ∀ x, lo ≤ x → x < mid → d3[x]! = d2[x]! := fun x _ hx => permIn_out p3 (.inl hx)
  have e2 : d2.size = d1.size := p2.1
  have cross : ∀ p, lo ≤ p → p < mid → ∀ q, mid ≤ q → q < hi → key d3[p]! ≤ key d3[q]! := by
    intro p hp1 hp2
    rw [hl p hp1 hp2]
    refine permIn_all d2 d3 mid hi (fun v => key d2[p]! ≤ key v) (by omega) p3 ?_
    intro q hq1 hq2
    rw [permIn_out p2 (.inr hq1)]
    exact permIn_all d1 d2 lo mid (fun v => key v ≤ key d1[q]!) (by omega) p2 (fun x hx1 hx2 => H.x x q hx1 hx2 hq1 hq2) p hp1 hp2
  intro i j hi1 hij hj
  by_cases c1 : i < mid
  · by_cases c2 : j < mid
    · rw [hl i hi1 c1, hl j (by omega) c2]; exact a2 i j hi1 hij c2
    · exact cross i hi1 c1 j (by omega) hj
  · exact a3 i j (by omega) hij hj
end Go.Proofs.Ytccfbkbfmkdapaa
