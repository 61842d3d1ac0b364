/-
  What Unpack tells, as a plain function; what is packed is unpacked.
-/
import Derived.Test.YtccfbkbfmkdapaaIb
namespace Go.Proofs.Ytccfbkbfmkdapaa
open Go.RowKit

/-- An item out of bounds behind n lengths. -/
def Wi (s x : Int) (n : Nat) : Prop := Bad 0 18 s ∨ Bad 0 ((spm s : Int) - spl s) x ∨ (s = 16 ∧ n = 0) ∨ (320 - n : Int) < spl s + x
instance (s x : Int) (n : Nat) : Decidable (Wi s x n) := inferInstanceAs (Decidable (_ ∨ _))
theorem sp_lim (s : Int) : 1 ≤ spl s ∧ spl s ≤ 11 ∧ spl s ≤ spm s ∧ spm s ≤ 138 := by
  unfold spl spm
  by_cases h1 : s = 16
  · simp [h1]
  · by_cases h2 : s = 17
    · simp [h2]
    · by_cases h3 : s = 18
      · simp [h3]
      · simp [h1, h2, h3]
/-- The lengths that items tell behind these. -/
def un : List (Int × Int) → List Int → Option (List Int)
  | [], ts => some ts
  | (s, x) :: r, ts => if Wi s x ts.length then none else un r (ts ++ List.replicate ((spl s : Int) + x).toNat (tv s ts))

theorem lsym_sure (zs : List Int) (a : Nat) : (lsym zs a = 18 ∧ zs.getD a 0 = 0) ∨ (lsym zs a = 17 ∧ zs.getD a 0 = 0) ∨ (lsym zs a = 16 ∧ 0 < a ∧ zs.getD (a - 1) 0 = zs.getD a 0) ∨ lsym zs a = zs.getD a 0 := by
  unfold lsym
  split
  · next h => exact .inl ⟨rfl, h.1⟩
  · split
    · next h => exact .inr (.inl ⟨rfl, h.1⟩)
    · split
      · next h => exact .inr (.inr (.inl ⟨rfl, h.2.2⟩))
      · exact .inr (.inr (.inr rfl))
theorem tv_take {zs : List Int} {a : Nat} (ha : a < zs.length) (hb : zs.getD a 0 ≤ 15) : tv (lsym zs a) (zs.take a) = zs.getD a 0 := by
  rcases lsym_sure zs a with ⟨h, k⟩ | ⟨h, k⟩ | ⟨h, k1, k2⟩ | h
  · rw [h, k]; rfl
  · rw [h, k]; rfl
  · rw [h, tv, if_pos rfl, List.length_take, ← k2, Nat.min_eq_left (by omega)]
    simp only [List.getD]
    rw [List.getElem?_take_of_lt (by omega)]
  · rw [h, tv, if_neg (by omega), if_neg (by omega), if_neg (by omega)]
theorem take_run {zs : List Int} {a m : Nat} (hm : m ≤ rl zs a) (ha : a ≤ zs.length) : zs.take (a + m) = zs.take a ++ List.replicate m (zs.getD a 0) := by
  have h2 := rl_le zs a ha
  rw [List.take_add]
  congr 1
  apply List.ext_getElem
  · rw [List.length_take, List.length_drop, List.length_replicate]; omega
  · intro i h1 h3
    rw [List.getElem_replicate, List.getElem_take, List.getElem_drop]
    rw [List.length_take, List.length_drop] at h1
    have h4 := rl_at (zs := zs) (a := a) (i := i) (by omega)
    rw [← h4]
    simp only [List.getD]
    rw [List.getElem?_eq_getElem (by omega)]
    rfl
theorem pit_ok {zs : List Int} {a : Nat} (hl : zs.length ≤ 320) (ha : a < zs.length) (hb : 0 ≤ zs.getD a 0 ∧ zs.getD a 0 ≤ 15) : ¬ Wi (lsym zs a) ((lmany zs a - spl (lsym zs a) : Nat) : Int) a := by
  have h1 := lmany_ge ha hb.2
  have h2 := sp_lim (lsym zs a)
  have h3 : lmany zs a ≤ spm (lsym zs a) := Nat.min_le_right _ _
  have h4 : 0 ≤ lsym zs a ∧ lsym zs a ≤ 18 ∧ (lsym zs a = 16 → 0 < a) := by
    rcases lsym_sure zs a with ⟨h, k⟩ | ⟨h, k⟩ | ⟨h, k1, k2⟩ | h <;> rw [h] <;> refine ⟨by omega, by omega, fun e => ?_⟩ <;> omega
  unfold Wi Bad
  rintro (h | h | h | h)
  · omega
  · omega
  · have := h4.2.2 h.1; omega
  · omega
/-- What is packed is unpacked. -/
theorem un_pk {zs : List Int} (hl : zs.length ≤ 320) (hb : ∀ k, k < zs.length → 0 ≤ zs.getD k 0 ∧ zs.getD k 0 ≤ 15) (n : Nat) : ∀ a, a ≤ zs.length → zs.length - a ≤ n → un (pk zs (zs.length - a) a) (zs.take a) = some zs := by
  induction n with
  | zero =>
    intro a h1 h2
    have e : a = zs.length := by omega
    subst e
    rw [pk_end (Nat.le_refl _), un, List.take_length]
  | succ n ih =>
    intro a h1 h2
    by_cases ha : a < zs.length
    · have h3 := lmany_ge ha (hb a ha).2
      have h4 : lmany zs a ≤ rl zs a := Nat.min_le_left _ _
      rw [pk_step (fun k hk => (hb k hk).2) ha]
      unfold pit
      rw [un, List.length_take, Nat.min_eq_left (by omega), if_neg (pit_ok hl ha (hb a ha)), tv_take ha (hb a ha).2]
      rw [show ((spl (lsym zs a) : Int) + ((lmany zs a - spl (lsym zs a) : Nat) : Int)).toNat = lmany zs a by omega, ← take_run h4 h1]
      exact ih _ h3.2.2.2 (by omega)
    · have e : a = zs.length := by omega
      subst e
      rw [pk_end (Nat.le_refl _), un, List.take_length]
theorem un_pkl {zs : List Int} (hl : zs.length ≤ 320) (hb : ∀ k, k < zs.length → 0 ≤ zs.getD k 0 ∧ zs.getD k 0 ≤ 15) : un (pkl zs) [] = some zs := by
  have := un_pk hl hb zs.length 0 (Nat.zero_le _) (by omega)
  simpa [pkl] using this
end Go.Proofs.Ytccfbkbfmkdapaa
