/-
  What is read is written as it was; kinds appended.
-/
import Derived.Test.YtflabomkgkojlaaN
import Derived.Test.YtflabomkgkojlaaQ
namespace Go.Proofs.Ytflabomkgkojlaa
open Go.RowKit

theorem win_add (xs : List Nat) (a n m : Nat) : win xs a n ++ win xs (a + n) m = win xs a (n + m) := by
  unfold win
  rw [List.take_add, List.drop_drop]
theorem stp_some {xs : List Nat} (hb : Bs xs) {back at_ : Nat} {k : Int} {l : List Fd} {f : Fd} {at' : Nat} (h : stp xs back k at_ l = some (f, at')) : at_ ≤ at' ∧ at' ≤ xs.length ∧ wf f = win xs at_ (at' - at_) := by
  unfold stp at h
  simp only at h
  split at h
  · rename_i hc
    simp only [Option.some.injEq, Prod.mk.injEq] at h
    obtain ⟨rfl, rfl⟩ := h
    refine ⟨by omega, hc.2, ?_⟩
    rw [Nat.add_sub_cancel_left]
    by_cases h0 : k = 0
    · subst h0
      have e : (szf 0 ((xs.length : Int) - at_) l back).1.toNat = 2 := by simp [szf]
      have h2 := hc.2
      rw [e] at h2 ⊢
      simp only [fld, isN_0, if_true, wf]
      exact le_num2 ((hb.drop _).take _) (win_len h2)
    · by_cases h1 : k = 1
      · subst h1
        have e : (szf 1 ((xs.length : Int) - at_) l back).1.toNat = 4 := by simp [szf]
        have h2 := hc.2
        rw [e] at h2 ⊢
        simp only [fld, isN_1, if_true, wf]
        exact le_num4 ((hb.drop _).take _) (win_len h2)
      · have hn := isN_no h0 h1
        have h23 : k = 2 ∨ k = 3 := by
          by_cases h2 : k = 2
          · exact .inl h2
          · by_cases h3 : k = 3
            · exact .inr h3
            · have := hc.1
              simp [szf, h0, h1, h2, h3] at this
        simp [fld, hn, wf, h0, h1, h23]
  · cases h
theorem run_some {xs : List Nat} (hb : Bs xs) (back : Nat) : ∀ (ks : List Int) (at_ : Nat) (l fds : List Fd) (en : Nat), at_ ≤ xs.length → run xs back ks at_ l = some (fds, en) → at_ ≤ en ∧ en ≤ xs.length ∧ wrt fds = wrt l ++ win xs at_ (en - at_) ∧ fds.length = l.length + ks.length
  | [], at_, l, fds, en, ha, h => by
    simp only [run, Option.some.injEq, Prod.mk.injEq] at h
    obtain ⟨rfl, rfl⟩ := h
    exact ⟨Nat.le_refl _, ha, by simp [win], by simp⟩
  | k :: ks, at_, l, fds, en, ha, h => by
    simp only [run] at h
    cases hs : stp xs back k at_ l with
    | none => rw [hs] at h; cases h
    | some p =>
      obtain ⟨f, at'⟩ := p
      rw [hs] at h
      obtain ⟨h1, h2, h3⟩ := stp_some hb hs
      obtain ⟨h4, h5, h6, h7⟩ := run_some hb back ks at' (l ++ [f]) fds en h2 h
      refine ⟨by omega, h5, ?_, by rw [h7, List.length_append]; simp; omega⟩
      rw [h6]
      have e : wrt (l ++ [f]) = wrt l ++ wf f := by simp [wrt]
      rw [e, List.append_assoc, h3, show win xs at' (en - at') = win xs (at_ + (at' - at_)) (en - at') from by rw [show at_ + (at' - at_) = at' from by omega], win_add, show at' - at_ + (en - at') = en - at_ from by omega]

theorem kv_len (ks : List Int) : (kv ks).length = ks.length := by simp [kv]
theorem kv_app (a b : List Int) : kv a ++ kv b = kv (a ++ b) := by simp [kv]
theorem own_ks {w : World} {base : Nat} {ao : Option Addr} {c n : Nat} {ks : List Int} (h : w.ownsRow base 36 1 (.slice ao n c) n (kv ks)) (hn : ks.length = n) : KSrc w ao ks := by
  by_cases h0 : ks = []
  · exact .inl h0
  · obtain ⟨g, cap, hv, _, hlt⟩ := h.form (by rw [← hn]; exact List.length_pos_iff.2 h0)
    have hA : ao = some ⟨g, 0, none⟩ := by injection hv
    subst hA
    refine .inr ⟨g, 0, rfl, fun j hj => ?_⟩
    have := h.cells (g := g) rfl j (.int .i64 (ks.getD j 0)) (by simp [kv, hj, List.getD])
    rwa [Addr.add_lit] at this
theorem cells_oneB (w : World) (B : Nat) (hB : w.heap.size = B) (e : TypeId) (u : Value) : CellsAt (w.alloc (.cells #[u] e)) (.slice (some ⟨B, 0, none⟩) 1 1) 1 [u] := by
  subst hB; exact cells_one w e u
end Go.Proofs.Ytflabomkgkojlaa
