/-
  A reader of no bytes.
-/
import Derived.Test.YtjbjjnfhklpffaaWa
namespace Go.Proofs.Ytjbjjnfhklpffaa
open Go.RowKit

theorem pk_nil (a n : Nat) : pk [] a n = 0 := by simp [pk, num]
theorem empty_sl (w : World) (x : Addr) (c : Nat) : BySl w (.slice (some x) 0 c) [] := .inr ⟨x, c, rfl, Nat.zero_le _, fun j u hu => by simp [u8s] at hu⟩
theorem empty_any (w : World) (a : Option Addr) (c : Nat) (h : a = none → c = 0) : BySl w (.slice a 0 c) [] := by
  cases a with
  | none => have := h rfl; subst this; exact .inl ⟨rfl, rfl⟩
  | some x => exact empty_sl w x c
theorem get0 (a : Option Addr) (c n : Nat) (w : World) (hn : n ≤ 32) : Calls Try.prog 12 #[.slice a 0 c, .int .i64 0, .int .i64 n] w fun e w' => e = .returned (.int .u32 0) ∧ w = w' := by
  have h := get_none a c 0 n w hn (by omega)
  rw [pk_nil] at h
  exact h
section
variable {B : Nat} {w0 w1 : World} {p : Nat}
theorem RdB.bits0 (h : RdB B w0 w1 p [] 0) : Calls Try.prog 11 #[.pointer (some ⟨p, 0, none⟩), .int .i64 0] w1 fun e w' => e = .returned (.tuple #[.int .u32 0, .bool true]) ∧ RdB B w0 w' p [] 0 :=
  h.bits (by simp) 0 0 (by omega) (by simp) (pk_nil _ _)
theorem RdB.bits0_no (h : RdB B w0 w1 p [] 0) (z : Int) (hz : z < 0 ∨ 0 < z) : Calls Try.prog 11 #[.pointer (some ⟨p, 0, none⟩), .int .i64 z] w1 fun e w' => e = .returned (.tuple #[.int .u32 0, .bool false]) ∧ ∃ nq, w' = w1.drewN nq :=
  h.bits_no (by simp) (by simp) z (by simp only [List.length_nil]; omega)
theorem RdB.skip0 (h : RdB B w0 w1 p [] 0) : Calls Try.prog 13 #[.pointer (some ⟨p, 0, none⟩), .int .i64 0] w1 fun e w' => e = .returned (.bool true) ∧ RdB B w0 w' p [] 0 :=
  h.skip (by simp) 0 (by simp)
theorem RdB.skip0_no (h : RdB B w0 w1 p [] 0) (z : Int) (hz : z < 0 ∨ 0 < z) : Calls Try.prog 13 #[.pointer (some ⟨p, 0, none⟩), .int .i64 z] w1 fun e w' => e = .returned (.bool false) ∧ ∃ nq, w' = w1.drewN nq :=
  h.skip_no (by simp) (by simp) z (by simp only [List.length_nil]; omega)
theorem RdB.align0 (h : RdB B w0 w1 p [] 0) : Calls Try.prog 14 #[.pointer (some ⟨p, 0, none⟩)] w1 fun e w' => e = .returned (.tuple #[]) ∧ RdB B w0 w' p [] 0 :=
  h.align (by omega)
theorem RdB.bytes0 (h : RdB B w0 w1 p [] 0) : Calls Try.prog 15 #[.pointer (some ⟨p, 0, none⟩), .int .i64 0] w1 (BytesOfB B w0 w1 p [] 0 []) :=
  h.bytes (by simp) (by simp) 0 0 [] (by simp) (by simp) (by simp)
theorem RdB.bytes0_no (h : RdB B w0 w1 p [] 0) (z : Int) (hz : z < 0 ∨ 0 < z) : Calls Try.prog 15 #[.pointer (some ⟨p, 0, none⟩), .int .i64 z] w1 fun e w' => e = .returned (.tuple #[.slice none 0 0, .bool false]) ∧ w1 = w' :=
  h.bytes_no (by simp) (by simp) z (by simp only [List.length_nil]; omega)
theorem RdB.at0 (h : RdB B w0 w1 p [] 0) : Calls Try.prog 17 #[.pointer (some ⟨p, 0, none⟩)] w1 fun e w' => e = .returned (.int .i64 0) ∧ w1 = w' := h.at
theorem RdB.left0 (h : RdB B w0 w1 p [] 0) : Calls Try.prog 18 #[.pointer (some ⟨p, 0, none⟩)] w1 fun e w' => e = .returned (.int .i64 0) ∧ ∃ nq, w' = w1.drewN nq := h.left (by simp) (by simp)
theorem RdB.peek0 (h : RdB B w0 w1 p [] 0) (n : Nat) (hn : n ≤ 32) : Calls Try.prog 19 #[.pointer (some ⟨p, 0, none⟩), .int .i64 n] w1 fun e w' => e = .returned (.int .u32 0) ∧ w1 = w' :=
  h.peek (by simp) (by simp) n 0 hn (pk_nil _ _)
end


end Go.Proofs.Ytjbjjnfhklpffaa
