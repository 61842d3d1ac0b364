
/-
  Contracts of the small functions of package bits.
-/
import Derived.Test.YthgehgdbplbcfaaRows
import Derived.WalkKit
import Derived.WalkSpells
import Derived.WalkLawsBesides
import Derived.Deep.QuietTactic
import Derived.BigQuiet
import Derived.Lib.Hide
import Derived.BigRegion
import Derived.Deep.RegionLawGrows
import Derived.Deep.AppendLies
import Derived.Deep.RegionHeld3
import Derived.Laws.AppendOwnNone
import Derived.Test.YthgehgdbplbcfaaMath
namespace Go.Proofs.Ythgehgdbplbcfaa
open Go.RowKit

theorem isWidth_yes (n : Int) (w : World) (h0 : 0 ≤ n) (h1 : n ≤ 32) :
    Calls Try.prog 38 #[.int .i64 n] w fun e w' => e = .returned (.bool true) ∧ w = w' := by
  go_enter Try.func38, Try.ntmps38
  go_wp2
  go_ret
  exact ⟨by simp, rfl⟩

theorem isWidth_no (n : Int) (w : World) (h0 : n < 0 ∨ 32 < n) :
    Calls Try.prog 38 #[.int .i64 n] w fun e w' => e = .returned (.bool false) ∧ w = w' := by
  rcases h0 with h0 | h0
  · go_enter Try.func38, Try.ntmps38
    go_wp2
    go_ret
    exact ⟨rfl, rfl⟩
  · have : 0 ≤ n := by omega
    have : decide (n ≤ 32) = false := by simp; omega
    go_enter Try.func38, Try.ntmps38
    go_wp2
    go_ret
    exact ⟨by simp, rfl⟩

theorem low_mask (v n : Nat) (hn : n ≤ 32) (hv : v < 18446744073709551616) :
    bits BinOp.and IntKind.u64 (v : Int) (IntKind.u64.wrap (IntKind.u64.wrap (2 ^ n) - 1)) = ((v % 2 ^ n : Nat) : Int) := by
  have hp : 2 ^ n ≤ 2 ^ 32 := Nat.pow_le_pow_right (by omega) hn
  have hq : 0 < 2 ^ n := Nat.two_pow_pos n
  have e1 : IntKind.u64.wrap ((2 : Int) ^ n) = ((2 ^ n : Nat) : Int) := by
    rw [IntKind.wrap_u64, show (2 : Int) ^ n = ((2 ^ n : Nat) : Int) from by simp]
    omega
  have e2 : IntKind.u64.wrap (((2 ^ n : Nat) : Int) - 1) = ((2 ^ n - 1 : Nat) : Int) := by
    rw [IntKind.wrap_u64]
    omega
  rw [e1, e2, u64_and_nat _ _ hv (by omega), Nat.and_two_pow_sub_one_eq_mod]

theorem ret_int {k : IntKind} {a b : Int} (h : a = b) : Ending.returned (.int k a) = .returned (.int k b) := by rw [h]

theorem lowest_any (v n : Nat) (w : World) (hn : n ≤ 32) (hv : v < 18446744073709551616) :
    Calls Try.prog 42 #[.int .u64 v, .int .i64 n] w fun e w' => e = .returned (.int .u64 ((v % 2 ^ n : Nat) : Int)) ∧ w = w' := by
  have H := Lib.hid (low_mask v n hn hv)
  clear hv
  go_enter Try.func42, Try.ntmps42
  go_wp2
  go_ret
  exact ⟨ret_int H.out, rfl⟩

theorem two_cell {w : World} {p : Nat} {a b : Value} {t : TypeId} (h : w.heap[p]? = some (.cells #[a, b] t (0, 0))) :
    w.cell? ⟨p, 0, none⟩ = some a ∧ w.cell? ⟨p, 1, none⟩ = some b ∧ w.frozen? ⟨p, 0, none⟩ = false ∧ w.frozen? ⟨p, 1, none⟩ = false := by
  simp [World.cell?, World.frozen?, h]

theorem at_walk (p : Nat) (n : Int) (w : World) (h1 : w.cell? ⟨p, 1, none⟩ = some (.int .i64 n)) :
    Calls Try.prog 23 #[.pointer (some ⟨p, 0, none⟩)] w fun e w' => e = .returned (.int .i64 n) ∧ w = w' := by
  go_enter Try.func23, Try.ntmps23
  go_wp2
  go_ret
  exact ⟨rfl, rfl⟩

theorem len_walk (p : Nat) (n : Int) (w : World) (h1 : w.cell? ⟨p, 1, none⟩ = some (.int .i64 n)) :
    Calls Try.prog 27 #[.pointer (some ⟨p, 0, none⟩)] w fun e w' => e = .returned (.int .i64 n) ∧ w = w' := by
  go_enter Try.func27, Try.ntmps27
  go_wp2
  go_ret
  exact ⟨rfl, rfl⟩

theorem left_walk (p : Nat) (n : Int) (ao : Option Addr) (len cap : Nat) (w : World) (hl : len ≤ 1000000000) (hn : 0 ≤ n) (hn2 : n ≤ 8000000000)
   (h0 : w.cell? ⟨p, 0, none⟩ = some (.slice ao len cap))
   (h1 : w.cell? ⟨p, 1, none⟩ = some (.int .i64 n)) :
    Calls Try.prog 34 #[.pointer (some ⟨p, 0, none⟩)] w fun e w' => e = .returned (.int .i64 (8 * len - n)) ∧ ∃ nq, w' = w.drewN nq := by
  go_enter Try.func34, Try.ntmps34
  go_wp2
  go_quiet (fail)
  go_wp2
  go_ret
  exact ⟨ret_int (by omega), _, rfl⟩

set_option maxHeartbeats 400000 in
theorem skip_yes (p : Nat) (n at_ : Int) (ao : Option Addr) (len cap : Nat) (w : World) (hl : len ≤ 1000000000) (ha : 0 ≤ at_) (hn : 0 ≤ n) (hn2 : n ≤ 8 * len - at_)
   (h0 : w.cell? ⟨p, 0, none⟩ = some (.slice ao len cap)) (h1 : w.cell? ⟨p, 1, none⟩ = some (.int .i64 at_)) (f1 : w.frozen? ⟨p, 1, none⟩ = false) :
    Calls Try.prog 20 #[.pointer (some ⟨p, 0, none⟩), .int .i64 n] w fun e w' => e = .returned (.bool true) ∧ ∃ nq, w' = (w.drewN nq).setCell ⟨p, 1, none⟩ (.int .i64 (at_ + n)) := by
  go_enter Try.func20, Try.ntmps20
  go_wp2_with (go_at_call 34; refine (left_walk p at_ ao len cap _ hl ha (by omega) h0 h1).mono ?_; rintro e w' ⟨rfl, nq, rfl⟩)
  go_ret
  exact ⟨rfl, _, rfl⟩

theorem skip_no (p : Nat) (n at_ : Int) (ao : Option Addr) (len cap : Nat) (w : World) (hl : len ≤ 1000000000) (ha : 0 ≤ at_) (ha2 : at_ ≤ 8 * len) (hn : n < 0 ∨ 8 * len - at_ < n)
   (h0 : w.cell? ⟨p, 0, none⟩ = some (.slice ao len cap)) (h1 : w.cell? ⟨p, 1, none⟩ = some (.int .i64 at_)) :
    Calls Try.prog 20 #[.pointer (some ⟨p, 0, none⟩), .int .i64 n] w fun e w' => e = .returned (.bool false) ∧ ∃ nq, w' = w.drewN nq := by
  rcases hn with hn | hn
  · go_enter Try.func20, Try.ntmps20
    go_wp2
    go_ret
    exact ⟨rfl, 0, rfl⟩
  · have hn0 : 0 ≤ n := by omega
    go_enter Try.func20, Try.ntmps20
    go_wp2_with (go_at_call 34; refine (left_walk p at_ ao len cap _ hl ha (by omega) h0 h1).mono ?_; rintro e w' ⟨rfl, nq, rfl⟩)
    go_ret
    exact ⟨rfl, _, rfl⟩
end Go.Proofs.Ythgehgdbplbcfaa
