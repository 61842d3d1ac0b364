/-
  Contract of the law's own same: rows of the same items.
-/
import Derived.Test.YtccfbkbfmkdapaaIb
namespace Go.Proofs.Ytccfbkbfmkdapaa
open Go.RowKit

set_option maxHeartbeats 1600000 in
theorem items_same (a b : Option Addr) (c d : Nat) (P : List (Int × Int)) (w : World) (h : TS w a P) (h2 : TS w b P) (hl : P.length ≤ 1000) :
    Calls Try.prog 19 #[.slice a P.length c, .slice b P.length d] w fun e w' => e = .returned (.bool true) ∧ ∃ q, w' = w.drewN q := by
  have H1 := Lib.hid h
  have H2 := Lib.hid h2
  clear h h2
  have hnn : ((P.length : Int) != P.length) = false := by simp
  go_enter Try.func19, Try.ntmps19
  go_wp2
  go_loopw [5] (fun i wr => ∃ k q : Nat, k ≤ P.length ∧ i = .int .i64 k ∧ wr = w.drewN q) (fun i _ => P.length - (intOf i).toNat)
  case atStart => exact ⟨0, 0, Nat.zero_le _, rfl, rfl⟩
  case round =>
    obtain ⟨k, q, hk, rfl, rfl⟩ := hrel
    by_cases hlt : k < P.length
    · have hkk : (k : Int) < P.length := by omega
      obtain ⟨b1, o1, rfl, c1, d1⟩ := H1.out.at hlt
      obtain ⟨b2, o2, rfl, c2, d2⟩ := H2.out.at hlt
      obtain ⟨x, hx⟩ : ∃ x, x = (itm P k).1 := ⟨_, rfl⟩
      obtain ⟨y, hy⟩ : ∃ y, y = (itm P k).2 := ⟨_, rfl⟩
      rw [← hx] at c1 c2
      rw [← hy] at d1 d2
      clear hx hy
      have hxx : (x != x) = false := by simp
      have hyy : (y != y) = false := by simp
      go_wp2
      go_quiet (fail)
      go_wp2
      go_roundw
      case rel => exact ⟨k + 1, _, by omega, by go_num, rfl⟩
      case measure => simp [intOf]; omega
    · have hk' : k = P.length := by omega
      subst hk'
      go_wp2
      go_ret
      exact ⟨rfl, _, rfl⟩
end Go.Proofs.Ytccfbkbfmkdapaa
