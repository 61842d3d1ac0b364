/-
  Arguments opened: rows of integers, rows of items.
-/
import Derived.Test.YtccfbkbfmkdapaaTb
import Derived.HandedShaped
import Derived.ProofKit
import Derived.OpenShut
import Derived.ShutString
import Derived.Deep.Slices
import Derived.Deep.SlicePairs
import Derived.Lib.SmallJoins
namespace Go.Proofs.Ytccfbkbfmkdapaa
open Go.ChangeShapes Go.WideShapes Go.ChangeAt Go.RowKit

theorem own : ownKnob Try.prog.godebug = none := by kernel_rfl
theorem laidOut : laidOutB Try.prog = true := by kernel_rfl

section
variable {H : Type} {enc : TypeId × Value → H} {w : World} {base : Nat} {spare : Nat → Bool} {held : Bool} {fuel : Nat}
theorem is_open {a : Option Addr} {len cap : Nat} {y : DataW H × List MemPlace}
    (h : DataW.trod enc Try.prog w base spare held fuel 22 [.slice a len cap] = some y) : ∃ zs : List Int, zs.length = len ∧ IS w a zs ∧ zs.length ≤ maxLen ∧ (a = none → cap = 0) ∧ len ≤ cap := by
  rcases open_ints Try.underlying22 Try.underlying3 (by kernel_rfl) h with ⟨hcs, _⟩ | ⟨ad, l, c, zs, hcs, _, hl, hm, hz, _, hcell, hwf⟩
  · simp at hcs
    obtain ⟨rfl, rfl, rfl⟩ := hcs
    exact ⟨[], rfl, .inl rfl, by simp [maxLen], fun _ => rfl, Nat.le_refl _⟩
  · simp at hcs
    obtain ⟨rfl, rfl, rfl⟩ := hcs
    have hzl : len ≤ zs.length := by rw [hz]; split <;> omega
    have hlen : (zs.take len).length = len := by rw [List.length_take]; omega
    refine ⟨zs.take len, hlen, ?_, by rw [hlen]; omega, (fun e => by cases e), hl⟩
    by_cases h0 : len = 0
    · left
      exact List.eq_nil_of_length_eq_zero (by rw [hlen, h0])
    · right
      have hc0 := hcell 0 (by omega)
      obtain ⟨b, off, spot⟩ := ad
      have hspot : spot = none := by simpa [Addr.add] using World.cell?_spot hc0
      subst hspot
      refine ⟨b, off, rfl, fun j hj => ?_⟩
      rw [hlen] at hj
      have hcj := hcell j (by omega)
      rw [Addr.add_lit] at hcj
      rw [hcj]
      simp [List.getD, hj]
theorem ts_open {a : Option Addr} {len cap : Nat} {y : DataW H × List MemPlace}
    (h : DataW.trod enc Try.prog w base spare held fuel 35 [.slice a len cap] = some y) : ∃ r : List (Int × Int), r.length = len ∧ TS w a r ∧ r.length ≤ maxLen := by
  rcases Deep.open_slice_pairs Try.underlying35 Try.underlying39 (by kernel_rfl) rfl rfl (by kernel_rfl) (by kernel_rfl) h with ⟨hcs, _⟩ | ⟨ad, l, c, m, n, V0, V1, D0, D1, P0, P1, hcs, _, hl, hm, hmm, _, hcell⟩
  · simp at hcs
    obtain ⟨rfl, rfl, rfl⟩ := hcs
    exact ⟨[], rfl, .inl rfl, by simp [maxLen]⟩
  · simp at hcs
    obtain ⟨rfl, rfl, rfl⟩ := hcs
    have hlm : len ≤ m := by rw [hmm]; split <;> omega
    have hv : ∀ i, ∃ x : Int × Int, i < len → V0 i = .int .i64 x.1 ∧ V1 i = .int .i64 x.2 := fun i => by
      by_cases hi : i < len
      · obtain ⟨_, _, h1, h2⟩ := hcell i (by omega)
        obtain ⟨n1, e1, _⟩ := DataW.trod_int Try.underlying3 h1
        obtain ⟨n2, e2, _⟩ := DataW.trod_int Try.underlying3 h2
        simp at e1 e2
        exact ⟨(n1, n2), fun _ => ⟨e1, e2⟩⟩
      · exact ⟨(0, 0), fun h => absurd h hi⟩
    refine ⟨(List.range len).map fun i => Classical.choose (hv i), by simp, ?_, by simp; omega⟩
    by_cases h0 : len = 0
    · left; subst h0; rfl
    · right
      have hc0 := (hcell 0 (by omega)).1
      obtain ⟨b, off, spot⟩ := ad
      have hspot : spot = none := by simpa [Addr.add] using World.cell?_spot hc0
      subst hspot
      refine ⟨b, off, rfl, fun j v hj => ?_⟩
      have hjl : j < len * 2 := by
        have := (List.getElem?_eq_some_iff.1 hj).1
        rw [icl_len] at this
        simpa using this
      have hi : j / 2 < len := by omega
      obtain ⟨c1, c2, _, _⟩ := hcell (j / 2) (by omega)
      have hx := Classical.choose_spec (hv (j / 2)) hi
      have hat := icl_at ((List.range len).map fun i => Classical.choose (hv i)) (j / 2) (by simpa using hi)
      have hit : itm ((List.range len).map fun i => Classical.choose (hv i)) (j / 2) = Classical.choose (hv (j / 2)) := by simp [itm, List.getD, hi]
      rw [hit] at hat
      rw [Addr.add_lit] at c1 c2
      rcases Nat.mod_two_eq_zero_or_one j with e | e
      · have ej : j = j / 2 * 2 := by omega
        rw [ej] at hj ⊢
        rw [hat.1] at hj
        rw [c1, hx.1]
        exact hj
      · have ej : j = j / 2 * 2 + 1 := by omega
        rw [ej] at hj ⊢
        rw [hat.2] at hj
        rw [c2, hx.2]
        exact hj
end
end Go.Proofs.Ytccfbkbfmkdapaa
