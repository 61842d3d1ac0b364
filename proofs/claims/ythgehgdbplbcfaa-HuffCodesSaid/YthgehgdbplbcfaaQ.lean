/-
  Contracts of Bits, Symbols, Complete and Cost.
-/
import Derived.Test.YthgehgdbplbcfaaP
namespace Go.Proofs.Ythgehgdbplbcfaa
open Go.RowKit

/-- What is seen of a code at a symbol. -/
structure WordAt (w : World) (p gw s : Nat) (ls : List Nat) : Prop where
  c : w.cell? ⟨p, 0, none⟩ = some (.slice (some ⟨gw, 0, none⟩) ls.length ls.length)
  b : w.cell? ⟨gw, s * 2, none⟩ = some (.int .u32 (rv (ln ls s) (cd ls s) : Nat))
  l : w.cell? ⟨gw, s * 2 + 1, none⟩ = some (.int .i64 (ln ls s : Nat))
theorem CodeAt.word {w : World} {p : Nat} {ls : List Nat} (h : CodeAt w p ls) : ∃ gw, w.cell? ⟨p, 0, none⟩ = some (.slice (some ⟨gw, 0, none⟩) ls.length ls.length) ∧ ∀ s, s < ls.length → WordAt w p gw s ls := by
  obtain ⟨_, gw, go, F, h1, h2, h3, h4⟩ := h
  have hc := (h1.cell 0).trans (cc_0 _ _ _ _)
  refine ⟨gw, hc, fun s hs => ⟨hc, ?_, ?_⟩⟩
  · rw [h2.cell, va_at _ _ _ (by omega)]
    unfold wordF
    rw [if_pos (by omega), show s * 2 / 2 = s by omega]
  · rw [h2.cell, va_at _ _ _ (by omega)]
    unfold wordF
    rw [if_neg (by omega), show (s * 2 + 1) / 2 = s by omega]

set_option maxHeartbeats 800000 in
theorem Bits_yes (p s : Nat) (ls : List Nat) (w : World) (h : CodeAt w p ls) (hs : ln ls s ≠ 0) (V n : Nat) (hV : rv (ln ls s) (cd ls s) = V) (hn : ln ls s = n) :
    Calls Try.prog 15 #[.pointer (some ⟨p, 0, none⟩), .int .i64 s] w fun e w' => e = .returned (.tuple #[.int .u32 V, .int .i64 n, .bool true]) ∧ ∃ nq, w' = w.drewN nq := by
  have hlt := ln_lt hs
  have hl := h.ok.len
  obtain ⟨gw, _, hw⟩ := h.word
  have W := hw s hlt
  obtain ⟨c0, c1, c2⟩ := W
  rw [hV] at c1
  rw [hn] at c2 hs
  clear hw h hV hn
  have hlt' : (s : Int) < ls.length := by omega
  have d1 : decide ((s : Int) < 0) = false := by simp
  have d2 : decide ((ls.length : Int) ≤ s) = false := by simp; omega
  have d2' : decide (ls.length ≤ s) = false := by simp; omega
  have d3 : ((n : Int) == 0) = false := by simp; omega
  go_enter Try.func15, Try.ntmps15
  go_wp2
  go_quiet (fail)
  go_wp2
  go_ret3
  exact ⟨rfl, _, rfl⟩

set_option maxHeartbeats 800000 in
theorem Bits_no (p : Nat) (s : Int) (ls : List Nat) (w : World) (h : CodeAt w p ls) (hs : s < 0 ∨ ls.length ≤ s ∨ ∃ k : Nat, s = k ∧ k < ls.length ∧ ln ls k = 0) :
    Calls Try.prog 15 #[.pointer (some ⟨p, 0, none⟩), .int .i64 s] w fun e w' => e = .returned (.tuple #[.int .u32 0, .int .i64 0, .bool false]) ∧ w = w' := by
  have hl := h.ok.len
  obtain ⟨gw, c0, hw⟩ := h.word
  rcases hs with hs | hs | ⟨k, rfl, hk, h0⟩
  · clear hw h
    go_enter Try.func15, Try.ntmps15
    go_wp2
    go_ret3
    exact ⟨rfl, rfl⟩
  · clear hw h
    have h0 : 0 ≤ s := by omega
    go_enter Try.func15, Try.ntmps15
    go_wp2
    go_ret3
    exact ⟨rfl, rfl⟩
  · obtain ⟨_, c1, c2⟩ := hw k hk
    rw [h0] at c2
    clear hw h
    have hlt' : (k : Int) < ls.length := by omega
    have d1 : decide ((k : Int) < 0) = false := by simp
    have d2 : decide ((ls.length : Int) ≤ k) = false := by simp; omega
    have d2' : decide (ls.length ≤ k) = false := by simp; omega
    go_enter Try.func15, Try.ntmps15
    go_wp2
    go_ret3
    exact ⟨rfl, rfl⟩

theorem Symbols_any (p : Nat) (ls : List Nat) (w : World) (h : CodeAt w p ls) :
    Calls Try.prog 16 #[.pointer (some ⟨p, 0, none⟩)] w fun e w' => e = .returned (.int .i64 (many ls : Nat)) ∧ w = w' := by
  obtain ⟨_, gw, go, F, h1, _⟩ := h
  have hc := (h1.cell 1).trans (cc_1 _ _ _ _)
  clear h1
  go_enter Try.func16, Try.ntmps16
  go_wp2
  go_ret
  exact ⟨rfl, rfl⟩

theorem ret_bool {a b : Bool} (h : a = b) : Ending.returned (.bool a) = .returned (.bool b) := by rw [h]

theorem Complete_any (p : Nat) (ls : List Nat) (w : World) (h : CodeAt w p ls) :
    Calls Try.prog 17 #[.pointer (some ⟨p, 0, none⟩)] w fun e w' => e = .returned (.bool (decide (room ls = 32768))) ∧ Below w.heap.size w w' := by
  have HO := Lib.hid h.ok
  obtain ⟨_, gw, go, F, h1, _⟩ := h
  have HC := Lib.hid h1
  clear h1
  have HD : Hid (((room ls : Int) == 32768) = decide (room ls = 32768)) := Lib.hid (by rw [Bool.eq_iff_iff]; simp; omega)
  go_enter Try.func17, Try.ntmps17
  go_wp2_with (first
    | (refine wpList_load_il rfl (.tmp 5) rfl p 18 rfl (cn ls) (cc_rg HC.out) ?_)
    | (go_at_call 30; (refine (room_any ls HO.out.len _).mono ?_); rintro e w2 ⟨rfl, hb2⟩; have HB2 := Lib.hid hb2; clear hb2))
  go_ret
  exact ⟨ret_bool HD.out, HB2.out⟩

/-- The cost of the first k symbols. -/
def cst (ls : List Nat) (zs : List Int) : Nat → Nat
  | 0 => 0
  | k + 1 => cst ls zs k + if 0 < zs.getD k 0 ∧ zs.getD k 0 ≤ 1099511627776 then (zs.getD k 0).toNat * ln ls k else 0
theorem cst_le {ls : List Nat} (H : Ok ls) (zs : List Int) (k : Nat) : cst ls zs k ≤ k * (1099511627776 * 15) := by
  induction k with
  | zero => exact Nat.zero_le _
  | succ k ih =>
    rw [cst, Nat.add_mul, Nat.one_mul]
    refine Nat.add_le_add ih ?_
    split
    · rename_i h
      exact Nat.mul_le_mul (by have := h.2; omega) (ln_le H k)
    · exact Nat.zero_le _
theorem cst_more (ls : List Nat) (zs : List Int) (k : Nat) (hk : min zs.length ls.length ≤ k) : cst ls zs k = cst ls zs (min zs.length ls.length) := by
  induction k with
  | zero => rw [show min zs.length ls.length = 0 by omega]
  | succ k ih =>
    by_cases e : min zs.length ls.length = k + 1
    · rw [e]
    · rw [cst, ih (by omega)]
      by_cases h1 : zs.length ≤ k
      · rw [show zs.getD k 0 = 0 by simp [List.getD, h1]]; simp
      · rw [show ln ls k = 0 by unfold ln; simp [List.getD, show ls.length ≤ k by omega]]; simp
end Go.Proofs.Ythgehgdbplbcfaa
