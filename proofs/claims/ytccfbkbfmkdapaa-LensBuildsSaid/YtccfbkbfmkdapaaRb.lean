/-
  The reference's used counts, the greater ones first.
-/
import Derived.Test.YtccfbkbfmkdapaaRa
namespace Go.Proofs.Ytccfbkbfmkdapaa
open Go.RowKit

/-- A count among these, at a place. -/
def insAt (P : List Nat) (c k : Nat) : List Nat := P.take k ++ c :: P.drop k
theorem insAt_len (P : List Nat) (c : Nat) {k : Nat} (hk : k ≤ P.length) : (insAt P c k).length = P.length + 1 := by
  simp only [insAt, List.length_append, List.length_cons, List.length_take, List.length_drop]; omega
theorem insAt_end (P : List Nat) (c : Nat) : insAt P c P.length = P ++ [c] := by simp [insAt]
theorem insAt_perm (P : List Nat) (c k : Nat) : (insAt P c k).Perm (c :: P) := by
  unfold insAt
  refine List.perm_middle.trans ?_
  rw [List.take_append_drop]
theorem insAt_at (P : List Nat) (c : Nat) {k : Nat} (hk : k ≤ P.length) : (insAt P c k).getD k 0 = c := by
  simp only [insAt, List.getD]
  rw [List.getElem?_append_right (by rw [List.length_take]; omega), List.length_take, Nat.min_eq_left hk, Nat.sub_self]
  rfl
theorem insAt_lo (P : List Nat) (c : Nat) {j k : Nat} (hk : k ≤ P.length) (hj : j < k) : (insAt P c k).getD j 0 = P.getD j 0 := by
  simp only [insAt, List.getD]
  rw [List.getElem?_append_left (by rw [List.length_take]; omega), List.getElem?_take, if_pos hj]
/-- One place further to the front. -/
theorem insAt_step (P : List Nat) (c : Nat) {k : Nat} (hk : k + 1 ≤ P.length) : ((insAt P c (k + 1)).set (k + 1) (P.getD k 0)).set k c = insAt P c k := by
  have e : P.take (k + 1) = P.take k ++ [P.getD k 0] := by
    rw [List.take_add_one]
    simp [List.getD, show k < P.length by omega]
  have hl : (P.take k).length = k := by rw [List.length_take]; omega
  unfold insAt
  rw [e, List.append_assoc, List.singleton_append, drop_at P (show k < P.length by omega)]
  rw [List.set_append_right _ _ (by rw [hl]; omega), hl, show k + 1 - k = 1 by omega]
  rw [List.set_append_right _ _ (by rw [hl]; exact Nat.le_refl _), hl, Nat.sub_self]
  rfl
/-- The greater ones first. -/
def Dn (l : List Nat) : Prop := l.Pairwise (· ≥ ·)
theorem insAt_dn {P : List Nat} {c k : Nat} (h : Dn P) (hk : k ≤ P.length) (h1 : ∀ p ∈ P.drop k, p ≤ c) (h2 : k = 0 ∨ c ≤ P.getD (k - 1) 0) : Dn (insAt P c k) := by
  unfold Dn insAt
  have hs : Dn (P.take k ++ P.drop k) := by rw [List.take_append_drop]; exact h
  obtain ⟨a1, a2, a3⟩ := List.pairwise_append.1 hs
  refine List.pairwise_append.2 ⟨a1, List.pairwise_cons.2 ⟨fun p hp => h1 p hp, a2⟩, fun x hx y hy => ?_⟩
  have hxc : c ≤ x := by
    rcases h2 with rfl | h2
    · simp at hx
    · obtain ⟨i, hi, rfl⟩ := List.getElem_of_mem hx
      rw [List.length_take] at hi
      rw [List.getElem_take]
      rcases (show i = k - 1 ∨ i < k - 1 by omega) with e | e
      · subst e
        simpa [List.getD, show k - 1 < P.length by omega] using h2
      · have h3 := List.pairwise_iff_getElem.1 h i (k - 1) (by omega) (by omega) e
        have h4 : c ≤ P[k - 1]'(by omega) := by simpa [List.getD, show k - 1 < P.length by omega] using h2
        exact Nat.le_trans h4 h3
  rcases List.mem_cons.1 hy with rfl | hy
  · exact hxc
  · exact Nat.le_trans (h1 y hy) hxc
theorem nz_take {zs : List Int} {k : Nat} (hk : k < zs.length) : nz (nat (zs.take (k + 1))) = nz (nat (zs.take k)) ++ (if 0 < (zs.getD k 0).toNat then [(zs.getD k 0).toNat] else []) := by
  have e : zs.take (k + 1) = zs.take k ++ [zs.getD k 0] := by
    rw [List.take_add_one]
    simp [List.getD, hk]
  rw [e]
  unfold nz nat
  rw [List.map_append, List.filter_append]
  congr 1
  simp only [List.map_cons, List.map_nil, List.filter_cons, List.filter_nil]
  by_cases h : 0 < (zs.getD k 0).toNat
  · rw [if_pos h, if_pos (decide_eq_true h)]
  · rw [if_neg h, if_neg (by simpa using h)]

/-! ### A row of the call's own, cell for cell -/
theorem iv_set (P : List Int) (j : Nat) (z : Int) : (iv P).set j (.int .i64 z) = iv (P.set j z) := by simp [iv, List.map_set]
theorem Rn.form {w wr : World} {P : List Int} {v : Value} (h : Rn w P v wr) (hn : 0 < P.length) : ∃ g cap, v = .slice (some ⟨g, 0, none⟩) P.length cap ∧ w.heap.size ≤ g := by
  rcases h.own.2 with ⟨_, h0⟩ | ⟨g, cap, cur, e, hb, _⟩
  · omega
  · exact ⟨g, cap, e, hb⟩
theorem Rn.at {w wr : World} {P : List Int} {g n c : Nat} (h : Rn w P (.slice (some ⟨g, 0, none⟩) n c) wr) {j : Nat} (hj : j < P.length) : wr.cell? ⟨g, j, none⟩ = some (.int .i64 (P.getD j 0)) := by
  obtain ⟨g', cap, e, _⟩ := h.form (by omega)
  simp only [Value.slice.injEq, Option.some.injEq, Addr.mk.injEq, and_true] at e
  obtain ⟨rfl, rfl, rfl⟩ := e
  rw [h.own.cellAt j (by omega), iv_at P j hj]
theorem Rn.free {w wr : World} {P : List Int} {g n c : Nat} (h : Rn w P (.slice (some ⟨g, 0, none⟩) n c) wr) (hn : 0 < P.length) (j : Nat) : wr.frozen? ⟨g, j, none⟩ = false := by
  obtain ⟨g', cap, e, _⟩ := h.form hn
  simp only [Value.slice.injEq, Option.some.injEq, Addr.mk.injEq, and_true] at e
  obtain ⟨rfl, rfl, rfl⟩ := e
  exact h.own.frozenAt j
theorem Rn.set {w wr : World} {P : List Int} {g n c : Nat} (h : Rn w P (.slice (some ⟨g, 0, none⟩) n c) wr) {j : Nat} (hj : j < P.length) (z : Int) : Rn w (P.set j z) (.slice (some ⟨g, 0, none⟩) n c) (wr.setCell ⟨g, j, none⟩ (.int .i64 z)) := by
  obtain ⟨g', cap, e, hb⟩ := h.form (by omega)
  simp only [Value.slice.injEq, Option.some.injEq, Addr.mk.injEq, and_true] at e
  obtain ⟨rfl, rfl, rfl⟩ := e
  refine ⟨?_, h.below.setCell hb _⟩
  rw [List.length_set, ← iv_set]
  exact (h.own.stored j _).1
theorem Rn.two {w wr : World} {P : List Int} {g n c : Nat} (h : Rn w P (.slice (some ⟨g, 0, none⟩) n c) wr) {i j : Nat} (hi : i < P.length) (hj : j < P.length) (z : Int) : ∃ u, (wr.setCell ⟨g, i, none⟩ (.int .i64 z)).cell? ⟨g, j, none⟩ = some u :=
  ⟨_, (h.set hi z).at (by rw [List.length_set]; exact hj)⟩
theorem ints_set (P : List Nat) (j z : Nat) : (ints P).set j (z : Int) = ints (P.set j z) := by simp [ints, List.map_set]

/-! ### used -/
def Usd (zs : List Int) (w : World) (e : Ending) (w' : World) : Prop :=
  (anyBad 0 maxC zs = true ∧ e = .returned (.tuple #[.slice none 0 0, .bool false]) ∧ Below w.heap.size w w') ∨
  (anyBad 0 maxC zs = false ∧ ∃ ds eo ce, e = .returned (.tuple #[.slice eo ds.length ce, .bool true]) ∧ Dn ds ∧ ds.Perm (nz (nat zs)) ∧ IS w' eo (ints ds) ∧ Below w.heap.size w w')
structure Uo (w : World) (zs : List Int) (k : Nat) (P : List Nat) (v : Value) (wr : World) : Prop where
  ok : ∀ j, j < k → 0 ≤ zs.getD j 0 ∧ zs.getD j 0 ≤ maxC
  dn : Dn P
  perm : P.Perm (nz (nat (zs.take k)))
  rn : Rn w (ints P) v wr
theorem Uo.len {w wr : World} {zs : List Int} {k : Nat} {P : List Nat} {v : Value} (h : Uo w zs k P v wr) : P.length ≤ k := by
  rw [h.perm.length_eq]
  refine Nat.le_trans (List.length_filter_le _ _) ?_
  rw [nat_len, List.length_take]; omega
theorem bad_at {zs : List Int} {k : Nat} (hk : k < zs.length) (h : ¬ (0 ≤ zs.getD k 0 ∧ zs.getD k 0 ≤ maxC)) : anyBad 0 maxC zs = true := by
  unfold anyBad
  rw [List.any_eq_true]
  refine ⟨zs.getD k 0, ?_, decide_eq_true ?_⟩
  · simp [List.getD, hk]
  · unfold Bad; omega
theorem good_all {zs : List Int} (h : ∀ j, j < zs.length → 0 ≤ zs.getD j 0 ∧ zs.getD j 0 ≤ maxC) : anyBad 0 maxC zs = false := by
  unfold anyBad
  rw [List.any_eq_false]
  intro z hz hb
  obtain ⟨k, hk, rfl⟩ := List.getElem_of_mem hz
  have h1 : Bad 0 maxC zs[k] := of_decide_eq_true hb
  have h2 := h k hk
  rw [show zs.getD k 0 = zs[k] by simp [List.getD, hk]] at h2
  unfold Bad at h1
  omega
end Go.Proofs.Ytccfbkbfmkdapaa
