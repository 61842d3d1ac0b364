/-
  Contracts: toldBy.
-/
import Derived.Test.YtccfbkbfmkdapaaIa
namespace Go.Proofs.Ytccfbkbfmkdapaa
open Go.RowKit

/-- The length that an item tells. -/
def tv (s : Int) (ts : List Int) : Int := if s = 16 then ts.getD (ts.length - 1) 0 else if s = 17 then 0 else if s = 18 then 0 else s
set_option maxHeartbeats 4000000 in
theorem told_any (ao : Option Addr) (c : Nat) (s : Int) (ts : List Int) (w : World) (h : IS w ao ts) (hs : s = 16 → ts ≠ []) (hl : ts.length ≤ 1000) :
    Calls Try.prog 34 #[.int .i64 s, .slice ao ts.length c] w fun e w' => e = .returned (.int .i64 (tv s ts)) ∧ w' = w := by
  by_cases h1 : s = 16
  · subst h1
    have hn : 0 < ts.length := List.length_pos_iff.2 (hs rfl)
    obtain ⟨b, o, rfl, q1⟩ := h.at (k := ts.length - 1) (by omega)
    obtain ⟨x, hx⟩ : ∃ x, x = ts.getD (ts.length - 1) 0 := ⟨_, rfl⟩
    have e0 := Lib.hid (show tv 16 ts = x by rw [tv, if_pos rfl, hx])
    rw [e0.out]
    rw [← hx] at q1
    clear hx hs h
    obtain ⟨k, hk⟩ : ∃ k, k = ts.length - 1 := ⟨_, rfl⟩
    obtain ⟨L, hL⟩ : ∃ L, L = ts.length := ⟨_, rfl⟩
    rw [← hk] at q1
    rw [← hL] at hk hl hn ⊢
    have e1 : IntKind.i64.wrap ((L : Int) - 1) = k := by rw [IntKind.wrap_i64]; omega
    have hk2 : (k : Int) < L := by omega
    clear hk hL
    go_enter Try.func34, Try.ntmps34
    go_wp2
    go_ret
    exact ⟨rfl, rfl⟩
  · have b1 : (s == 16) = false := by simp [h1]
    clear hs h
    by_cases h2 : s = 17
    · subst h2
      go_enter Try.func34, Try.ntmps34
      go_wp2
      go_ret
      exact ⟨rfl, rfl⟩
    · have b2 : (s == 17) = false := by simp [h2]
      by_cases h3 : s = 18
      · subst h3
        go_enter Try.func34, Try.ntmps34
        go_wp2
        go_ret
        exact ⟨rfl, rfl⟩
      · have b3 : (s == 18) = false := by simp [h3]
        have e1 := Lib.hid (show tv s ts = s by simp [tv, h1, h2, h3])
        rw [e1.out]
        clear h1 h2 h3
        go_enter Try.func34, Try.ntmps34
        go_wp2
        go_ret
        exact ⟨rfl, rfl⟩
end Go.Proofs.Ytccfbkbfmkdapaa
