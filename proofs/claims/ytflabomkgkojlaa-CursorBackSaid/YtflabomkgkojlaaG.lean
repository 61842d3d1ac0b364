/-
  First; the reference's.
-/
import Derived.Test.YtflabomkgkojlaaF
import Derived.Ground.NamesProg
import Derived.Shelf.Lay
import Derived.Shelf.Bytes.SlIndexWhole
namespace Go.Proofs
open Go.Shelf
shelf_lay LaysM.n185 Nm 185 at Try as Try.laysM185
end Go.Proofs
namespace Go.Proofs.Ytflabomkgkojlaa
open Go.RowKit Go.Shelf

/-- The library's own bound holds some number. -/
def MaxL (w : World) : Prop := ∃ m, w.cell? ⟨0, 0, none⟩ = some (.int .i64 m)
theorem MaxL.below {w w' : World} (h : MaxL w) (hb : Below w.heap.size w w') : MaxL w' := by
  obtain ⟨m, hm⟩ := h
  exact ⟨m, (hb.cell (World.block_lt_of_cell? w _ hm)).trans hm⟩

theorem ints_bd {xs : List Nat} (hb : Bs xs) : ∀ x ∈ ints xs, 0 ≤ x ∧ x < 256 := by
  intro x hx
  obtain ⟨y, hy, rfl⟩ := List.mem_map.1 hx
  have := hb y hy
  omega
theorem ints_at (xs : List Nat) (j : Nat) : (ints xs).getD j 0 = ((xs.getD j 0 : Nat) : Int) := by
  simp only [ints, List.getD, List.getElem?_map]
  cases xs[j]? <;> simp

theorem index_any (ao ao2 : Option Addr) (c c2 : Nat) (xs : List Nat) (s : Nat) (w : World) (h : Sl w ao c xs) (h2 : Sl w ao2 c2 (le s 4)) (hm : xs.length ≤ 1000000000) (hM : MaxL w) :
    Calls Try.prog 23 #[.slice ao xs.length c, .slice ao2 4 c2] w fun e w' => e = .returned (.int .i64 (Lib.index (U xs) (U (le s 4)))) ∧ Drew w w' := by
  have hnl := le_len (s : Int) 4
  obtain ⟨b2, o2, rfl, _, hc2⟩ := h2.at_ (by omega)
  obtain ⟨m, hmm⟩ := hM
  cases ao with
  | none =>
    have h0 := h.nil rfl
    have h1 := h.le
    have hx : xs = [] := List.eq_nil_of_length_eq_zero (by omega)
    subst hx
    subst h0
    have K := Any.bytes_Index_nil { Try.laysM185 with } (some ⟨b2, o2, none⟩) 4 c2 w (by omega) (fun h => absurd h (by decide))
    exact K.mono fun e w' ⟨he, hw⟩ => ⟨by rw [he]; rfl, ⟨0, hw⟩⟩
  | some ad =>
    have K := Any.bytes_Index_at { Try.laysM185 with } ad ⟨b2, o2, none⟩ xs.length c 4 c2 (ints xs) (ints (le s 4)) m w (by simp [ints]) (by simp [ints, le_len]) (ints_bd h.bs) (ints_bd h2.bs)
      (fun i hi => by
        obtain ⟨b1, o1, e1, _, hc1⟩ := h.at_ (by omega)
        obtain rfl := Option.some.inj e1
        rw [Addr.add_lit, ints_at]
        exact hc1 i hi)
      (fun i hi => by
        rw [Addr.add_lit, ints_at]
        exact hc2 i (by omega))
      h.le (by omega) (by omega) hmm
    rw [bytesOf_ints, bytesOf_ints] at K
    exact K
end Go.Proofs.Ytflabomkgkojlaa
