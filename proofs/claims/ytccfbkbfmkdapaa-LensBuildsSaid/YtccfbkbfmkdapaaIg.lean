/-
  Contract: the closure that tells items out of bounds, in one.
-/
import Derived.Test.YtccfbkbfmkdapaaIc
namespace Go.Proofs.Ytccfbkbfmkdapaa
open Go.RowKit

theorem wrong_any (g n c : Nat) (ao : Option Addr) (s x : Int) (w : World) (hg : w.cell? ⟨g, 0, none⟩ = some (.slice ao n c)) (hn : n ≤ 320) :
    Calls Try.prog 33 #[.agg #[.int .i64 s, .int .i64 x], .pointer (some ⟨g, 0, none⟩)] w (Wrote w (decide (Wi s x n))) := by
  have hs := sp_lim s
  have e1 : IntKind.i64.wrap ((spm s : Int) - spl s) = ((spm s - spl s : Nat) : Int) := by rw [IntKind.wrap_i64]; omega
  have e3 : IntKind.i64.wrap ((320 : Int) - n) = 320 - n := by rw [IntKind.wrap_i64]; omega
  have e5 : ((spm s - spl s : Nat) : Int) = (spm s : Int) - spl s := by omega
  by_cases h1 : Bad 0 18 s
  · rw [decide_eq_true (show Wi s x n from .inl h1)]
    exact wr_a g n c (spl s) (spm s) _ ao s x _ _ w hg rfl rfl e1 rfl e3 h1
  · by_cases h2 : Bad 0 ((spm s : Int) - spl s) x
    · rw [decide_eq_true (show Wi s x n from .inr (.inl h2))]
      exact wr_b g n c (spl s) (spm s) _ ao s x _ _ w hg rfl rfl e1 rfl e3 h1 (by rw [e5]; exact h2)
    · have e2 : IntKind.i64.wrap ((spl s : Int) + x) = spl s + x := by unfold Bad at h2; rw [IntKind.wrap_i64]; omega
      have h2' : ¬ Bad 0 ((spm s - spl s : Nat) : Int) x := by rw [e5]; exact h2
      by_cases h3 : s = 16
      · have h3' : (s == 16) = true := by simp [h3]
        by_cases h4 : n = 0
        · rw [decide_eq_true (show Wi s x n from .inr (.inr (.inl ⟨h3, h4⟩)))]
          exact wr_c g n c (spl s) (spm s) _ ao s x _ _ w hg rfl rfl e1 e2 e3 h1 h2' h3' (by simp [h4])
        · have h4' : ((n : Int) == 0) = false := by simp [h4]
          by_cases h5 : (320 - n : Int) < spl s + x
          · rw [decide_eq_true (show Wi s x n from .inr (.inr (.inr h5)))]
            exact wr_d g n c (spl s) (spm s) _ ao s x _ _ w hg rfl rfl e1 e2 e3 h1 h2' h3' h4' (decide_eq_true h5)
          · rw [decide_eq_false (show ¬ Wi s x n from fun h => by rcases h with h | h | h | h; exact h1 h; exact h2 h; exact h4 h.2; exact h5 h)]
            exact wr_e g n c (spl s) (spm s) _ ao s x _ _ w hg rfl rfl e1 e2 e3 h1 h2' h3' h4' (decide_eq_false h5)
      · have h3' : (s == 16) = false := by simp [h3]
        by_cases h5 : (320 - n : Int) < spl s + x
        · rw [decide_eq_true (show Wi s x n from .inr (.inr (.inr h5)))]
          exact wr_f g n c (spl s) (spm s) _ ao s x _ _ w hg rfl rfl e1 e2 e3 h1 h2' h3' (decide_eq_true h5)
        · rw [decide_eq_false (show ¬ Wi s x n from fun h => by rcases h with h | h | h | h; exact h1 h; exact h2 h; exact h3 h.1; exact h5 h)]
          exact wr_g g n c (spl s) (spm s) _ ao s x _ _ w hg rfl rfl e1 e2 e3 h1 h2' h3' (decide_eq_false h5)
end Go.Proofs.Ytccfbkbfmkdapaa
