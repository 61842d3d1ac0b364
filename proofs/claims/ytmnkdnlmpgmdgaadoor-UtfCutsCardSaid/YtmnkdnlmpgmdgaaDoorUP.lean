/-
  What bytes.Replace does, plainly; lines with one kind of ends: no program.
-/
import Derived.Test.YtmnkdnlmpgmdgaaDoorUM
import Derived.Lib.CountLaws
namespace Go.Proofs.YtmnkdnlmpgmdgaaDoor
open Go.RowKit
set_option maxRecDepth 100000

def ix (s old : List Nat) : Int := Lib.index (u8L s) (u8L old)
def cn (s old : List Nat) : Nat := Lib.count (u8L s) (u8L old)
/-- The first k instances, replaced. -/
def rpl (old new : List Nat) : Nat → List Nat → List Nat
  | 0, s => s
  | k + 1, s => s.take (ix s old).toNat ++ (new ++ rpl old new k (s.drop ((ix s old).toNat + old.length)))
theorem u8L_ne {old : List Nat} (h : 1 ≤ old.length) : u8L old ≠ [] := fun e => by
  have := congrArg List.length e
  rw [u8L_len, List.length_nil] at this
  omega
theorem cn_hit {s old : List Nat} {k : Nat} (ho : 1 ≤ old.length) (h : cn s old = k + 1) : ∃ i : Nat, ix s old = i ∧ i + old.length ≤ s.length ∧ cn (s.drop (i + old.length)) old = k := by
  have hge := Lib.index_ge (u8L s) (u8L old)
  have hne : Lib.index (u8L s) (u8L old) ≠ -1 := fun e => by
    have := Lib.count_miss e
    unfold cn at h
    omega
  obtain ⟨i, hi⟩ : ∃ i : Nat, Lib.index (u8L s) (u8L old) = i := ⟨(Lib.index (u8L s) (u8L old)).toNat, by omega⟩
  have hr := Lib.index_room (u8L s) (u8L old) (by omega)
  have hc := Lib.count_hit (u8L_ne ho) hi
  rw [hi, u8L_len, u8L_len] at hr
  refine ⟨i, hi, by omega, ?_⟩
  unfold cn at h ⊢
  rw [u8L_drop]
  rw [u8L_len] at hc
  omega
theorem rpl_hit {old new s : List Nat} {k i : Nat} (h : ix s old = i) : rpl old new (k + 1) s = s.take i ++ (new ++ rpl old new k (s.drop (i + old.length))) := by
  rw [rpl, h]; rfl
theorem rpl_len (old new : List Nat) (ho : 1 ≤ old.length) : ∀ (k : Nat) (s : List Nat), cn s old = k → (rpl old new k s).length + k * old.length = s.length + k * new.length
  | 0, s, _ => by simp [rpl]
  | k + 1, s, h => by
    obtain ⟨i, h1, h2, h3⟩ := cn_hit ho h
    have ih := rpl_len old new ho k _ h3
    rw [rpl_hit h1]
    simp only [List.length_append, List.length_take, List.length_drop] at ih ⊢
    rw [Nat.min_eq_left (by omega), Nat.succ_mul, Nat.succ_mul]
    omega
theorem rpl_bs {old new : List Nat} (hn : Bs new) : ∀ (k : Nat) (s : List Nat), Bs s → Bs (rpl old new k s)
  | 0, _, h => h
  | k + 1, _, h => (h.take _).app (hn.app (rpl_bs hn k _ (h.drop _)))
theorem cn_le {old : List Nat} (ho : 1 ≤ old.length) : ∀ (k : Nat) (s : List Nat), cn s old = k → k * old.length ≤ s.length := by
  have key : ∀ (k : Nat) (s : List Nat), cn s old = k → k * old.length ≤ s.length := by
    intro k
    induction k with
    | zero => intro s _; omega
    | succ k ih =>
      intro s h
      obtain ⟨i, h1, h2, h3⟩ := cn_hit ho h
      have := ih _ h3
      rw [List.length_drop] at this
      rw [Nat.succ_mul]
      omega
  exact key
/-- All instances. -/
def rplA (old new s : List Nat) : List Nat := rpl old new (cn s old) s
/-- Two that agree where nothing is found, and from one instance to the next. -/
theorem rplA_is {old new : List Nat} (ho : 1 ≤ old.length) (f : List Nat → List Nat) (h0 : ∀ s, Bs s → ix s old = -1 → f s = s)
    (h1 : ∀ s (i : Nat), Bs s → ix s old = i → f s = s.take i ++ (new ++ f (s.drop (i + old.length)))) : ∀ s, Bs s → rplA old new s = f s := by
  have key : ∀ (k : Nat) (s : List Nat), Bs s → cn s old = k → rpl old new k s = f s := by
    intro k
    induction k with
    | zero =>
      intro s hb h
      have hm : ix s old = -1 := by
        have hge := Lib.index_ge (u8L s) (u8L old)
        apply Classical.byContradiction
        intro hne
        obtain ⟨i, hi⟩ : ∃ i : Nat, Lib.index (u8L s) (u8L old) = i := ⟨(Lib.index (u8L s) (u8L old)).toNat, by unfold ix at hne; omega⟩
        have := Lib.count_hit (u8L_ne ho) hi
        unfold cn at h
        omega
      rw [rpl, h0 s hb hm]
    | succ k ih =>
      intro s hb h
      obtain ⟨i, e1, e2, e3⟩ := cn_hit ho h
      rw [rpl_hit e1, h1 s i hb e1, ih _ (hb.drop _) e3]
  exact fun s hb => key _ s hb rfl

/-! ### lines -/
/-- 13 and 10 are 10. -/
def r1 : List Nat → List Nat
  | [] => []
  | [x] => [x]
  | x :: y :: t => if x = 13 ∧ y = 10 then 10 :: r1 t else x :: r1 (y :: t)
/-- 13 is 10. -/
def r2 (L : List Nat) : List Nat := L.map fun x => if x = 13 then 10 else x
/-- Lines, as the document's own answer makes them: p: did 13 stand before? -/
def lin : Bool → List Nat → List Nat
  | _, [] => []
  | p, x :: t => if x = 10 ∧ p = true then lin false t else (if x = 13 then 10 else x) :: lin (decide (x = 13)) t
theorem lin_r : ∀ L : List Nat, r2 (r1 L) = lin false L
  | [] => rfl
  | [x] => by simp [r1, r2, lin]
  | x :: y :: t => by
    unfold r1
    by_cases h : x = 13 ∧ y = 10
    · obtain ⟨rfl, rfl⟩ := h
      have := lin_r t
      simp only [and_self, if_true]
      simp [lin, r2] at this ⊢
      exact this
    · rw [if_neg h]
      have := lin_r (y :: t)
      rw [lin, if_neg (by simp)]
      show (if x = 13 then 10 else x) :: r2 (r1 (y :: t)) = _
      rw [this]
      congr 1
      by_cases hx : x = 13
      · have hy : y ≠ 10 := fun e => h ⟨hx, e⟩
        simp [lin, hx, hy]
      · simp [hx]
theorem of_eq {x k : Nat} (hx : x < 256) (hk : k < 256) : (UInt8.ofNat k == UInt8.ofNat x) = decide (x = k) := by
  by_cases h : x = k
  · subst h; simp
  · have : UInt8.ofNat k ≠ UInt8.ofNat x := fun e => by
      have e1 := congrArg UInt8.toNat e
      simp at e1
      omega
    simp [h, this]
theorem ix_two {x : Nat} {t : List Nat} (hx : x < 256) (hb : Bs t) : ix (x :: t) [13, 10] = if x = 13 ∧ t.head? = some 10 then 0 else if ix t [13, 10] = -1 then -1 else ix t [13, 10] + 1 := by
  have e : (u8L [13, 10]).isPrefixOf (u8L (x :: t)) = decide (x = 13 ∧ t.head? = some 10) := by
    cases t with
    | nil => simp [u8L, List.isPrefixOf]
    | cons y t =>
      show (UInt8.ofNat 13 == UInt8.ofNat x && (UInt8.ofNat 10 == UInt8.ofNat y && true)) = _
      rw [of_eq hx (by decide), of_eq (hb y (by simp)) (by decide)]
      simp
  unfold ix
  show (if (u8L [13, 10]).isPrefixOf (u8L (x :: t)) then (0 : Int) else if Lib.index (u8L t) (u8L [13, 10]) == -1 then -1 else Lib.index (u8L t) (u8L [13, 10]) + 1) = _
  rw [e]
  simp only [decide_eq_true_eq, beq_iff_eq]
theorem ix_one {x : Nat} {t : List Nat} (hx : x < 256) : ix (x :: t) [13] = if x = 13 then 0 else if ix t [13] = -1 then -1 else ix t [13] + 1 := by
  have e : (u8L [13]).isPrefixOf (u8L (x :: t)) = decide (x = 13) := by
    show (UInt8.ofNat 13 == UInt8.ofNat x && true) = _
    rw [of_eq hx (by decide), Bool.and_true]
  unfold ix
  show (if (u8L [13]).isPrefixOf (u8L (x :: t)) then (0 : Int) else if Lib.index (u8L t) (u8L [13]) == -1 then -1 else Lib.index (u8L t) (u8L [13]) + 1) = _
  rw [e]
  simp only [decide_eq_true_eq, beq_iff_eq]
theorem ix_ge (s old : List Nat) : -1 ≤ ix s old := Lib.index_ge _ _
theorem r1_cons {x : Nat} {t : List Nat} (h : ¬ (x = 13 ∧ t.head? = some 10)) : r1 (x :: t) = x :: r1 t := by
  cases t with
  | nil => rfl
  | cons y t =>
    unfold r1
    rw [if_neg (by simpa using h)]
    cases t <;> rfl
theorem r1_none : ∀ s, Bs s → ix s [13, 10] = -1 → r1 s = s
  | [], _, _ => rfl
  | x :: t, hb, h => by
    rw [ix_two (hb x (by simp)) (fun y hy => hb y (by simp [hy]))] at h
    by_cases c : x = 13 ∧ t.head? = some 10
    · rw [if_pos c] at h; omega
    · rw [if_neg c] at h
      have hge := ix_ge t [13, 10]
      have h2 : ix t [13, 10] = -1 := by
        apply Classical.byContradiction
        intro hne
        rw [if_neg hne] at h
        omega
      rw [r1_cons c, r1_none t (fun y hy => hb y (by simp [hy])) h2]
theorem r1_hit : ∀ s (i : Nat), Bs s → ix s [13, 10] = i → r1 s = s.take i ++ ([10] ++ r1 (s.drop (i + 2)))
  | [], i, _, h => by
    have : ix [] [13, 10] = -1 := by decide
    omega
  | x :: t, i, hb, h => by
    have hbt : Bs t := fun y hy => hb y (by simp [hy])
    rw [ix_two (hb x (by simp)) hbt] at h
    by_cases c : x = 13 ∧ t.head? = some 10
    · rw [if_pos c] at h
      obtain rfl : i = 0 := by omega
      obtain ⟨rfl, c⟩ := c
      cases t with
      | nil => simp at c
      | cons y t =>
        simp at c
        subst c
        simp [r1]
    · rw [if_neg c] at h
      have hge := ix_ge t [13, 10]
      by_cases c2 : ix t [13, 10] = -1
      · rw [if_pos c2] at h; omega
      rw [if_neg c2] at h
      obtain ⟨j, rfl⟩ : ∃ j, i = j + 1 := ⟨i - 1, by omega⟩
      rw [r1_cons c, r1_hit t j hbt (by omega), List.take_succ_cons, show j + 1 + 2 = j + 2 + 1 by omega, List.drop_succ_cons]
      rfl
theorem r2_none : ∀ s, Bs s → ix s [13] = -1 → r2 s = s
  | [], _, _ => rfl
  | x :: t, hb, h => by
    rw [ix_one (hb x (by simp))] at h
    by_cases c : x = 13
    · rw [if_pos c] at h; omega
    · rw [if_neg c] at h
      have hge := ix_ge t [13]
      have h2 : ix t [13] = -1 := by
        apply Classical.byContradiction
        intro hne
        rw [if_neg hne] at h
        omega
      have := r2_none t (fun y hy => hb y (by simp [hy])) h2
      simp only [r2, List.map_cons, if_neg c] at this ⊢
      rw [this]
theorem r2_hit : ∀ s (i : Nat), Bs s → ix s [13] = i → r2 s = s.take i ++ ([10] ++ r2 (s.drop (i + 1)))
  | [], i, _, h => by
    have : ix [] [13] = -1 := by decide
    omega
  | x :: t, i, hb, h => by
    have hbt : Bs t := fun y hy => hb y (by simp [hy])
    rw [ix_one (hb x (by simp))] at h
    by_cases c : x = 13
    · rw [if_pos c] at h
      obtain rfl : i = 0 := by omega
      subst c
      simp [r2]
    · rw [if_neg c] at h
      have hge := ix_ge t [13]
      by_cases c2 : ix t [13] = -1
      · rw [if_pos c2] at h; omega
      rw [if_neg c2] at h
      obtain ⟨j, rfl⟩ : ∃ j, i = j + 1 := ⟨i - 1, by omega⟩
      have := r2_hit t j hbt (by omega)
      rw [List.take_succ_cons, List.drop_succ_cons, List.cons_append, ← this]
      simp [r2, c]
theorem rplA_r1 {s : List Nat} (hb : Bs s) : rplA [13, 10] [10] s = r1 s := rplA_is (by decide) r1 r1_none r1_hit s hb
theorem rplA_r2 {s : List Nat} (hb : Bs s) : rplA [13] [10] s = r2 s := rplA_is (by decide) r2 r2_none r2_hit s hb
theorem r1_bs : ∀ {s : List Nat}, Bs s → Bs (r1 s) := fun {s} hb => by
  rw [← rplA_r1 hb]; exact rpl_bs (fun x hx => by simp at hx; omega) _ _ hb
theorem r1_len : ∀ s, (r1 s).length ≤ s.length
  | [] => Nat.le_refl _
  | [x] => Nat.le_refl _
  | x :: y :: t => by
    unfold r1
    split
    · have := r1_len t; simp; omega
    · have := r1_len (y :: t); simp at this ⊢; omega
theorem r2_len (s : List Nat) : (r2 s).length = s.length := by simp [r2]
end Go.Proofs.YtmnkdnlmpgmdgaaDoor
