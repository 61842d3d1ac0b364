/-
  What a field's length is told by; a field made.
-/
import Derived.Test.YtflabomkgkojlaaI
namespace Go.Proofs.Ytflabomkgkojlaa
open Go.RowKit

set_option maxHeartbeats 800000 in
theorem told_ok (ao : Option Addr) (c : Nat) (l : List Fe) (back i : Nat) (x : Fe) (hi : i + back = l.length) (hx : l[i]? = some x) (w : World) (h : Fs w ao l) (hm : l.length ≤ 1000000) :
    Calls Try.prog 37 #[.slice ao l.length c, .int .i64 back] w fun e w' => e = .returned (.tuple #[.int .i64 (x.f.n : Nat), .bool (isN x.f.k)]) ∧ Below w.heap.size w w' := by
  obtain ⟨g, rfl, hF⟩ := h.get hx
  obtain ⟨L, hL⟩ : ∃ L, L = l.length := ⟨_, rfl⟩
  rw [← hL] at hi hm ⊢
  have c0 := hF.c0
  have c1 := hF.c1
  have c2 := hF.c2
  have hil : i < L := by
    have := (List.getElem?_eq_some_iff.1 hx).1
    omega
  clear hF hx h hL
  obtain ⟨k, hk⟩ : ∃ k, k = x.f.k := ⟨_, rfl⟩
  obtain ⟨n, hn⟩ : ∃ n, n = x.f.n := ⟨_, rfl⟩
  obtain ⟨bl, hbl⟩ : ∃ bl, bl = x.f.b.length := ⟨_, rfl⟩
  rw [← hk] at c0 ⊢
  rw [← hn] at c1 ⊢
  rw [← hbl] at c2
  clear hk hn hbl
  obtain rfl : back = L - i := by omega
  have hidx : (L : Int) - ((L - i : Nat) : Int) = (i : Int) := by omega
  have hlt : ¬ ((L : Int) < ((L - i : Nat) : Int)) := by omega
  have hii : (i : Int) < (L : Int) := by omega
  obtain ⟨B, hB⟩ : ∃ B, B = L - i := ⟨_, rfl⟩
  rw [← hB] at hidx hlt ⊢
  have hB1 : 1 ≤ B := by omega
  clear hi hB
  go_enter Try.func37, Try.ntmps37
  go_wp2_with fail
  go_quiet ((go_at_call 38; exact Calls.quiet_of_same ((isnum_any _ _).mono fun e w' ⟨he, hw⟩ => ⟨he, hw.symm⟩)))
  go_wp2
  go_ret2
  exact ⟨rfl, below_drewN (((Below.refl _ _).alloc (Nat.le_refl _) _)) _⟩
end Go.Proofs.Ytflabomkgkojlaa
