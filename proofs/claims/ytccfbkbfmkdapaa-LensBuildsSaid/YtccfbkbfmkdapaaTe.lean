/-
  What Build answers, for whatever counts and limit.
-/
import Derived.Test.YtccfbkbfmkdapaaTd
namespace Go.Proofs.Ytccfbkbfmkdapaa
open Go.RowKit

open Classical in
/-- 11, 14 or 0. -/
noncomputable def berr (zs : List Int) (limit : Int) : Int := if Wrong zs limit then 11 else if 2 ^ limit.toNat < (nz (nat zs)).length then 14 else 0
/-- Counts and a limit for which there are lengths. -/
structure Okn (ns : List Nat) (lim : Nat) : Prop where
  len : ns.length ≤ 320
  all : ∀ x ∈ ns, x ≤ 1099511627776
  few : (nz ns).length ≤ 2 ^ lim
  lim : 1 ≤ lim ∧ lim ≤ 15
theorem nat_ints (ns : List Nat) : nat (ints ns) = ns := by simp [nat, ints, Function.comp_def]
theorem Okn.fine {ns : List Nat} {lim : Nat} (h : Okn ns lim) : Fine (ints ns) lim := ⟨by rw [ints_len]; exact h.len, fun z hz => by
  obtain ⟨x, hx, rfl⟩ := List.mem_map.1 hz
  have := h.all x hx
  unfold maxC
  omega, h.lim⟩
theorem berr_cases (zs : List Int) (limit : Int) : (berr zs limit = 11 ∧ Wrong zs limit) ∨ (∃ lim : Nat, berr zs limit = 14 ∧ limit = lim ∧ Fine zs lim ∧ 2 ^ lim < (nz (nat zs)).length) ∨ (∃ (ns : List Nat) (lim : Nat), berr zs limit = 0 ∧ zs = ints ns ∧ limit = lim ∧ Okn ns lim) := by
  unfold berr
  by_cases hw : Wrong zs limit
  · rw [if_pos hw]; exact .inl ⟨rfl, hw⟩
  · rw [if_neg hw]
    obtain ⟨lim, rfl, hF⟩ := fine_or zs limit hw
    rw [Int.toNat_natCast]
    by_cases h2 : 2 ^ lim < (nz (nat zs)).length
    · rw [if_pos h2]; exact .inr (.inl ⟨lim, rfl, rfl, hF, h2⟩)
    · rw [if_neg h2]
      refine .inr (.inr ⟨nat zs, lim, rfl, hF.ints.symm, rfl, by rw [nat_len]; exact hF.len, fun x hx => ?_, by omega, hF.lim⟩)
      obtain ⟨z, hz, rfl⟩ := List.mem_map.1 hx
      have := hF.all z hz
      unfold maxC at this
      omega
theorem build_no (ao : Option Addr) (c : Nat) (zs : List Int) (limit : Int) (w : World) (h : IS w ao zs) {er : Int} (he : berr zs limit = er) (h0 : er ≠ 0) {n : Nat} (hn : n = zs.length) :
    Calls Try.prog 10 #[.slice ao n c, .int .i64 limit] w (No er w) := by
  subst hn
  rcases berr_cases zs limit with ⟨e, hw⟩ | ⟨lim, e, rfl, hF, h2⟩ | ⟨ns, lim, e, _⟩
  · rw [← he, e]; exact build_wrong ao c zs limit w h hw
  · rw [← he, e]
    refine (build_fine ao c zs lim w h hF).mono ?_
    rintro e w' (⟨_, hN⟩ | ⟨g, us, rfl, hU, hul, _⟩)
    · exact hN
    · have := hU.len_nz
      omega
  · exact absurd (he.symm.trans e) h0
theorem build_yes (ao : Option Addr) (c : Nat) (ns : List Nat) (lim : Nat) (w : World) (h : IS w ao (ints ns)) (ho : Okn ns lim) {n : Nat} (hn : n = ns.length) :
    Calls Try.prog 10 #[.slice ao n c, .int .i64 lim] w fun e w' => ∃ g us, e = .returned (.tuple #[.slice (some ⟨g, 0, none⟩) n n, .int .i64 0]) ∧ Used ns us ∧ us.length ≤ 2 ^ lim ∧ IS w' (some ⟨g, 0, none⟩) (ints (lens ns us lim)) ∧ Below w.heap.size w w' := by
  subst hn
  have hB := build_fine ao c (ints ns) lim w h ho.fine
  rw [ints_len] at hB
  refine hB.mono ?_
  rintro e w' (⟨hn, _⟩ | ⟨g, us, rfl, hU, hul, hb, hbe, _⟩)
  · rw [nat_ints] at hn
    have := ho.few
    rw [usd_nz] at hn
    omega
  · rw [nat_ints] at hU hb
    exact ⟨g, us, by rw [ints_len], hU, hul, built_is (ints_len ns) hb, hbe⟩
theorem Okn.more {ns : List Nat} {lim : Nat} (h : Okn ns lim) (hl : lim ≤ 14) : Okn ns (lim + 1) := ⟨h.len, h.all, by have := h.few; rw [Nat.pow_succ]; omega, by have := h.lim; omega⟩
/-- The cost of lengths that are built. -/
theorem cost_built (ao bo : Option Addr) (c d : Nat) (ns us : List Nat) (lim : Nat) (w : World) (h : IS w ao (ints ns)) (h2 : IS w bo (ints (lens ns us lim))) (ho : Okn ns lim) (hU : Used ns us) (hul : us.length ≤ 2 ^ lim) {n : Nat} (hn : n = ns.length) :
    Calls Try.prog 15 #[.slice ao n c, .slice bo n d] w fun e w' => e = .returned (.int .i64 (cst ns (lens ns us lim) ns.length : Nat)) ∧ Below w.heap.size w w' := by
  subst hn
  exact cost_any ao bo c d ns (lens ns us lim) w h h2 (by have := ho.len; omega) (lens_len ns us lim) ho.all fun x hx => Nat.le_trans (lens_le hU ho.lim.1 hul x hx) ho.lim.2
end Go.Proofs.Ytccfbkbfmkdapaa
