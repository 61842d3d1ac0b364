/-
  Contracts: cmp.Compare, the closure that compares two symbols by their counts; a row that is being sorted.
-/
import Derived.Test.YtccfbkbfmkdapaaG
import Derived.Sort.LotA
import Derived.Deep.LoopGhost
namespace Go.Proofs.Ytccfbkbfmkdapaa
open Go.RowKit

theorem isnan_any (x : Int) (w : World) : Calls Try.prog 45 #[.int .i64 x] w fun e w' => e = .returned (.bool false) ∧ w' = w := by
  have hn : (x != x) = false := by simp
  go_enter Try.func45, Try.ntmps45
  go_wp2
  go_ret
  exact ⟨rfl, rfl⟩

def ci (x y : Int) : Int := if x < y then -1 else if x > y then 1 else 0
theorem ci_neg (x y : Int) : decide (ci x y < 0) = decide (x < y) := by
  unfold ci
  by_cases h : x < y
  · simp [h]
  · by_cases h2 : x > y
    · simp [h, h2]
    · simp [h, h2]

theorem compare_any (x y : Int) (w : World) : Calls Try.prog 39 #[.int .i64 x, .int .i64 y] w fun e w' => e = .returned (.int .i64 (ci x y)) ∧ w' = w := by
  have E := Lib.hid (show ci x y = if x < y then -1 else if x > y then 1 else 0 from rfl)
  by_cases h : x < y
  · rw [if_pos h] at E
    go_enter Try.func39, Try.ntmps39
    go_wp2_with (go_at_call 45; (refine (isnan_any _ _).mono ?_); rintro e w' ⟨rfl, rfl⟩)
    go_ret
    exact ⟨ret_int E.out.symm, rfl⟩
  · rw [if_neg h] at E
    have h' : y ≤ x := by omega
    by_cases h2 : x > y
    · rw [if_pos h2] at E
      go_enter Try.func39, Try.ntmps39
      go_wp2_with (go_at_call 45; (refine (isnan_any _ _).mono ?_); rintro e w' ⟨rfl, rfl⟩)
      go_ret
      exact ⟨ret_int E.out.symm, rfl⟩
    · rw [if_neg h2] at E
      have h2' : x ≤ y := by omega
      go_enter Try.func39, Try.ntmps39
      go_wp2_with (go_at_call 45; (refine (isnan_any _ _).mono ?_); rintro e w' ⟨rfl, rfl⟩)
      go_ret
      exact ⟨ret_int E.out.symm, rfl⟩

/-- The closure: it reads the counts, which lie in a variable of their own. -/
theorem less_any (cx g co c n : Nat) (kx ky : Int) (x y : Nat) (hx : x < n) (hy : y < n) (w : World)
    (h0 : w.cell? ⟨cx, 0, none⟩ = some (.slice (some ⟨g, co, none⟩) n c))
    (h1 : w.cell? ⟨g, co + x, none⟩ = some (.int .i64 kx)) (h2 : w.cell? ⟨g, co + y, none⟩ = some (.int .i64 ky)) :
    Calls Try.prog 38 #[.int .i64 x, .int .i64 y, .pointer (some ⟨cx, 0, none⟩)] w fun e w' => e = .returned (.int .i64 (ci kx ky)) ∧ ∃ q, w' = w.drewN q := by
  have hx' : (x : Int) < n := by omega
  have hy' : (y : Int) < n := by omega
  go_enter Try.func38, Try.ntmps38
  go_wp2
  go_quiet ((go_at_call 39; exact Calls.quiet_of_same (compare_any _ _ _)))
  go_wp2
  go_ret
  exact ⟨rfl, _, rfl⟩

/-- How two symbols compare, wherever only the block b has changed. -/
def Cmp (key : Nat → Int) (N cx b : Nat) (w0 : World) : Prop :=
  ∀ W, Touch (fun k => k = b) w0 W → ∀ x y, x < N → y < N → Calls Try.prog 38 #[.int .i64 (x : Nat), .int .i64 (y : Nat), .pointer (some ⟨cx, 0, none⟩)] W fun e w' => e = .returned (.int .i64 (ci (key x) (key y))) ∧ ∃ q, w' = W.drewN q

/-- A row of symbols at block b that is being sorted. -/
structure Srt (w0 : World) (b N : Nat) (d : Array Nat) (W : World) : Prop where
  cell : ∀ i, i < d.size → W.cell? ⟨b, i, none⟩ = some (.int .i64 (d[i]! : Nat))
  free : ∀ i, i < d.size → W.frozen? ⟨b, i, none⟩ = false
  touch : Touch (fun k => k = b) w0 W
  hb : b < w0.heap.size
  lt : ∀ i, i < d.size → d[i]! < N

theorem Srt.drewN {w0 W : World} {b N : Nat} {d : Array Nat} (h : Srt w0 b N d W) (q : Nat) : Srt w0 b N d (W.drewN q) := ⟨h.cell, h.free, h.touch.drewN q, h.hb, h.lt⟩
theorem Srt.drew {w0 W : World} {b N : Nat} {d : Array Nat} (h : Srt w0 b N d W) : Srt w0 b N d W.drew := ⟨h.cell, h.free, h.touch.drew, h.hb, h.lt⟩
open Go.Sort in
theorem Srt.swap {w0 W : World} {b N : Nat} {d : Array Nat} (h : Srt w0 b N d W) (i j : Nat) (hi : i < d.size) (hj : j < d.size) :
    Srt w0 b N (swp d i j) ((W.setCell ⟨b, i, none⟩ (.int .i64 (d[j]! : Nat))).setCell ⟨b, j, none⟩ (.int .i64 (d[i]! : Nat))) := by
  have ne : ∀ p q : Nat, p ≠ q → (⟨b, p, none⟩ : Addr) ≠ ⟨b, q, none⟩ := fun p q h e => by simp only [Addr.mk.injEq] at e; omega
  refine ⟨fun k hk => ?_, fun k hk => ?_, (h.touch.setCell _ _ (.inl rfl)).setCell _ _ (.inl rfl), h.hb, fun k hk => ?_⟩
  · rw [size_swp] at hk
    rw [swp_get d hi hj]
    by_cases e1 : k = j
    · subst e1
      rw [if_pos rfl]
      by_cases e2 : k = i
      · subst e2
        exact World.cell?_setCell_same _ _ _ (World.cell?_setCell_same _ _ _ (h.cell k hk))
      · exact World.cell?_setCell_same _ _ _ ((World.cell?_setCell_other _ _ _ _ (ne _ _ (Ne.symm e2))).trans (h.cell k hk))

    · rw [if_neg e1, World.cell?_setCell_other _ _ _ _ (ne _ _ (Ne.symm e1))]
      by_cases e2 : k = i
      · subst e2
        rw [if_pos rfl]
        exact World.cell?_setCell_same _ _ _ (h.cell k hk)
      · rw [if_neg e2, World.cell?_setCell_other _ _ _ _ (ne _ _ (Ne.symm e2))]
        exact h.cell k hk
  · rw [size_swp] at hk
    rw [World.frozen?_setCell, World.frozen?_setCell]
    exact h.free k hk
  · rw [size_swp] at hk
    rw [swp_get d hi hj]
    split
    · exact h.lt i hi
    · split
      · exact h.lt j hj
      · exact h.lt k hk
/-- Behind the first store the second place still holds something. -/
theorem Srt.two {w0 W : World} {b N : Nat} {d : Array Nat} (h : Srt w0 b N d W) (i j : Nat) (hi : i < d.size) (hj : j < d.size) (v : Value) : ∃ u, (W.setCell ⟨b, i, none⟩ v).cell? ⟨b, j, none⟩ = some u := by
  by_cases e : i = j
  · subst e; exact ⟨v, World.cell?_setCell_same _ _ _ (h.cell i hi)⟩
  · exact ⟨_, (World.cell?_setCell_other _ _ _ _ (by intro e'; simp only [Addr.mk.injEq] at e'; omega)).trans (h.cell j hj)⟩
end Go.Proofs.Ytccfbkbfmkdapaa
