
/-
  Contracts of Reverse.
-/
import Derived.Test.YthgehgdbplbcfaaA
import Derived.Test.YthgehgdbplbcfaaRev
namespace Go.Proofs.Ythgehgdbplbcfaa
open Go.RowKit

theorem st_int (m s S x X : Nat) (hS : S = 2 ^ s) (hm : m < 4294967296) (hx : x < 4294967296) (hX : st m s x = X) :
    bits BinOp.or IntKind.u32 (bits BinOp.and IntKind.u32 ((x : Int) / (S : Int)) (m : Int)) (bits BinOp.and IntKind.u32 (x : Int) (m : Int) * (S : Int) % 4294967296) = (X : Int) := by
  subst hX; subst hS
  have h1 : x / 2 ^ s ≤ x := Nat.div_le_self _ _
  have e1 : ((x : Int) / ((2 ^ s : Nat) : Int)) = ((x / 2 ^ s : Nat) : Int) := by simp
  rw [e1, u32_and_nat _ _ (by omega) hm, u32_and_nat _ _ hx hm]
  have e2 : (((x &&& m : Nat) : Int) * ((2 ^ s : Nat) : Int) % 4294967296) = (((x &&& m) * 2 ^ s % 4294967296 : Nat) : Int) := by rw [← Int.natCast_mul]; omega
  rw [e2, u32_or_nat _ _ (Nat.lt_of_le_of_lt Nat.and_le_right hm) (by omega)]
  rfl

theorem st16_int (x X : Nat) (hx : x < 4294967296) (hX : st 65535 16 x = X) :
    bits BinOp.or IntKind.u32 ((x : Int) / 65536) ((x : Int) * 65536 % 4294967296) = (X : Int) := by
  subst hX
  have e1 : ((x : Int) / 65536) = ((x / 65536 : Nat) : Int) := by omega
  have e2 : ((x : Int) * 65536 % 4294967296) = ((x * 65536 % 4294967296 : Nat) : Int) := by omega
  rw [e1, e2, u32_or_nat _ _ (by omega) (by omega)]
  unfold st
  rw [show (65535 : Nat) = 2 ^ 16 - 1 from rfl, Nat.and_two_pow_sub_one_eq_mod, Nat.and_two_pow_sub_one_eq_mod]
  have a : x / 2 ^ 16 % 2 ^ 16 = x / 65536 := by
    have : (2 : Nat) ^ 16 = 65536 := rfl
    omega
  have b : x % 2 ^ 16 * 2 ^ 16 % 2 ^ 32 = x * 65536 % 4294967296 := by
    have : (2 : Nat) ^ 16 = 65536 := rfl
    have : (2 : Nat) ^ 32 = 4294967296 := rfl
    omega
  rw [a, b]

theorem rb32 (v a b : Nat) (w : World) (hv : v < 4294967296) (ha : st 16711935 8 v = a) (hb : st 65535 16 a = b) :
    Calls Try.prog 43 #[.int .u32 v] w fun e w' => e = .returned (.int .u32 b) ∧ w = w' := by
  have hal : a < 4294967296 := by rw [← ha]; exact st_lt _ _ _ (by omega)
  have h1 := st_int 16711935 8 256 v a rfl (by omega) hv ha
  have h2 := st16_int a b hal hb
  clear ha hb
  simp only [Int.cast_ofNat_Int] at h1
  go_enter Try.func43, Try.ntmps43
  go_wp2
  go_ret
  exact ⟨rfl, rfl⟩

theorem r32_walk (v a b c d e : Nat) (w : World) (hv : v < 4294967296) (ha : st 1431655765 1 v = a) (hb : st 858993459 2 a = b) (hc : st 252645135 4 b = c) (hd : st 16711935 8 c = d) (he : st 65535 16 d = e) :
    Calls Try.prog 39 #[.int .u32 v] w fun en w' => en = .returned (.int .u32 e) ∧ w = w' := by
  have hal : a < 4294967296 := by rw [← ha]; exact st_lt _ _ _ (by omega)
  have hbl : b < 4294967296 := by rw [← hb]; exact st_lt _ _ _ (by omega)
  have hcl : c < 4294967296 := by rw [← hc]; exact st_lt _ _ _ (by omega)
  have h1 := st_int 1431655765 1 2 v a rfl (by omega) hv ha
  have h2 := st_int 858993459 2 4 a b rfl (by omega) hal hb
  have h3 := st_int 252645135 4 16 b c rfl (by omega) hbl hc
  have HD := Lib.hid hd
  have HE := Lib.hid he
  clear ha hb hc hd he
  simp only [Int.cast_ofNat_Int] at h1 h2 h3
  go_enter Try.func39, Try.ntmps39
  go_wp2_with (go_at_call 43; refine (rb32 c d e _ hcl HD.out HE.out).mono ?_; rintro en w' ⟨rfl, rfl⟩)
  go_ret
  exact ⟨rfl, rfl⟩

theorem reverse32_any (v : Nat) (w : World) (hv : v < 4294967296) :
    Calls Try.prog 39 #[.int .u32 v] w fun en w' => en = .returned (.int .u32 (rv 32 v : Nat)) ∧ w = w' := by
  rw [← r32_rv]
  exact r32_walk v _ _ _ _ _ w hv rfl rfl rfl rfl rfl

theorem reverse_no (v n : Int) (w : World) (hn : n < 0 ∨ 32 < n) :
    Calls Try.prog 28 #[.int .u32 v, .int .i64 n] w fun e w' => e = .returned (.int .u32 0) ∧ w = w' := by
  go_enter Try.func28, Try.ntmps28
  go_wp2_with (go_at_call 38; refine (isWidth_no n _ hn).mono ?_; rintro e w' ⟨rfl, rfl⟩)
  go_ret
  exact ⟨rfl, rfl⟩

theorem reverse_yes (v n : Nat) (w : World) (hv : v < 4294967296) (hn : n ≤ 32) :
    Calls Try.prog 28 #[.int .u32 v, .int .i64 n] w fun e w' => e = .returned (.int .u32 (rv n v : Nat)) ∧ w = w' := by
  have hd := rv_div n (32 - n) v
  rw [show n + (32 - n) = 32 from by omega] at hd
  obtain ⟨R, hR⟩ : ∃ R, rv 32 v = R := ⟨_, rfl⟩
  obtain ⟨S, hS⟩ : ∃ S, rv n v = S := ⟨_, rfl⟩
  rw [hR, hS] at hd
  have hrev := reverse32_any v w hv
  rw [hR] at hrev
  rw [hS]
  have HR := Lib.hid hrev
  have HD := Lib.hid hd
  clear hR hS hd hrev
  go_enter Try.func28, Try.ntmps28
  go_wp2_with (first
    | (go_at_call 38; refine (isWidth_yes n _ (by omega) (by omega)).mono ?_; rintro e w' ⟨rfl, rfl⟩)
    | (go_at_call 39; refine HR.out.mono ?_; rintro e w' ⟨rfl, rfl⟩))
  go_ret
  exact ⟨ret_int (by rw [← HD.out]; simp), rfl⟩
end Go.Proofs.Ythgehgdbplbcfaa
