/-
  The reference's number; U16, U32, Cut.
-/
import Derived.Test.YtflabomkgkojlaaC
namespace Go.Proofs.Ytflabomkgkojlaa
open Go.RowKit

theorem num_cons (x : Nat) (r : List Nat) : num (x :: r) = x + 256 * num r := rfl
theorem win_cons {xs : List Nat} {f n : Nat} (h : f < xs.length) : (xs.drop f).take (n + 1) = xs.getD f 0 :: (xs.drop (f + 1)).take n := by
  rw [List.drop_eq_getElem_cons h, List.take_succ_cons]
  simp [List.getD, h]
theorem win_lt {xs : List Nat} (hb : Bs xs) (f n : Nat) (h : n ≤ 4) : num ((xs.drop f).take n) < 4294967296 := by
  have h1 := num_lt ((hb.drop f).take n)
  have h2 : ((xs.drop f).take n).length ≤ 4 := by rw [List.length_take]; omega
  have h3 : 256 ^ ((xs.drop f).take n).length ≤ 256 ^ 4 := Nat.pow_le_pow_right (by omega) h2
  have h4 : (256 : Nat) ^ 4 = 4294967296 := by decide
  omega

set_option maxHeartbeats 800000 in
theorem rnum_ok (ao : Option Addr) (c : Nat) (xs : List Nat) (at_ size : Nat) (w : World) (h : Sl w ao c xs) (hsz : size ≤ 4) (hle : at_ + size ≤ xs.length) (hm : xs.length ≤ 1000000000) :
    Calls Try.prog 9 #[.slice ao xs.length c, .int .i64 at_, .int .i64 size] w fun e w' => e = .returned (.tuple #[.int .i64 (num ((xs.drop at_).take size) : Nat), .bool true]) ∧ w = w' := by
  have HS := Lib.hid h
  have hb := Lib.hid h.bs
  clear h
  have d0 : ¬ ((at_ : Int) < 0) := by omega
  have d1 : ¬ ((xs.length : Int) - size < at_) := by omega
  go_enter Try.func9, Try.ntmps9
  go_wp2
  all_goals try (exfalso; omega)
  go_loop [8, 9] (fun vn vi => ∃ k : Nat, k ≤ size ∧ vi = .int .i64 ((k : Int) - 1) ∧ vn = .int .i64 (num ((xs.drop (at_ + k)).take (size - k)) : Nat)) (fun _ vi => (intOf vi + 1).toNat)
  case atStart => exact ⟨size, Nat.le_refl _, rfl, by simp [num]⟩
  case round =>
    obtain ⟨k, hk, rfl, rfl⟩ := hrel
    rcases k with _ | j
    · simp only [Nat.add_zero, Nat.sub_zero]
      obtain ⟨z, hz⟩ : ∃ z, z = num ((xs.drop at_).take size) := ⟨_, rfl⟩
      rw [← hz]
      have HZ := Lib.hid hz
      clear hz
      go_wp2
      go_ret2
      rw [← HZ.out]
      exact ⟨rfl, rfl⟩
    · rw [show ((j + 1 : Nat) : Int) - 1 = (j : Int) from by omega]
      have hjl : at_ + j < xs.length := by omega
      rcases HS.out.src with h0 | ⟨b, off, rfl, hc⟩
      · rw [h0] at hjl; simp at hjl
      have hcell := hc (at_ + j) hjl
      have hx := hb.out.at (at_ + j)
      have hz := win_lt hb.out (at_ + (j + 1)) (size - (j + 1)) (by omega)
      have HN : Hid (num ((xs.drop (at_ + j)).take (size - j)) = xs.getD (at_ + j) 0 + 256 * num ((xs.drop (at_ + (j + 1))).take (size - (j + 1)))) := Lib.hid (by
        rw [show size - j = size - (j + 1) + 1 from by omega, win_cons hjl, num_cons, Nat.add_assoc])
      clear hc
      obtain ⟨x, hxx⟩ : ∃ x, x = xs.getD (at_ + j) 0 := ⟨_, rfl⟩
      obtain ⟨z, hzz⟩ : ∃ z, z = num ((xs.drop (at_ + (j + 1))).take (size - (j + 1))) := ⟨_, rfl⟩
      rw [← hxx] at hcell hx HN
      rw [← hzz] at hz HN ⊢
      clear hxx hzz
      have hadd : ((at_ : Int) + j).toNat = at_ + j := by omega
      go_wp2
      go_round
      case rel => exact ⟨j, by omega, rfl, by rw [HN.out]; congr 1; omega⟩
      case measure => simp [intOf]

set_option maxHeartbeats 400000 in
theorem rnum_no (ao : Option Addr) (c len : Nat) (at_ : Int) (size : Nat) (w : World) (hsz : size ≤ 4) (h : at_ < 0 ∨ (len : Int) - size < at_) (hm : len ≤ 1000000000) :
    Calls Try.prog 9 #[.slice ao len c, .int .i64 at_, .int .i64 size] w fun e w' => e = .returned (.tuple #[.int .i64 0, .bool false]) ∧ w = w' := by
  by_cases h1 : at_ < 0
  · go_enter Try.func9, Try.ntmps9
    go_wp2
    all_goals first | (exfalso; omega) | (go_ret2; exact ⟨rfl, rfl⟩)
  · have h2 : (len : Int) - size < at_ := by omega
    go_enter Try.func9, Try.ntmps9
    go_wp2
    all_goals first | (exfalso; omega) | (go_ret2; exact ⟨rfl, rfl⟩)

theorem within_okI (ao : Option Addr) (len c at_ k : Nat) (K : Int) (hK : K = k) (w : World) (hc : len ≤ c) (hm : c ≤ maxLen) (h : at_ + k ≤ len) :
    Calls Try.prog 20 #[.slice ao len c, .int .i64 at_, .int .i64 K] w fun e w' => e = .returned (.tuple #[.slice (cutA ao c at_) k (c - at_), .bool true]) ∧ w = w' := by
  subst hK; exact within_ok ao len c at_ k w hc hm h

set_option maxHeartbeats 400000 in
theorem u16_ok (ao : Option Addr) (c : Nat) (xs : List Nat) (at_ : Nat) (w : World) (h : Sl w ao c xs) (hle : at_ + 2 ≤ xs.length) :
    Calls Try.prog 8 #[.slice ao xs.length c, .int .i64 at_] w fun e w' => e = .returned (.tuple #[.int .i64 (num ((xs.drop at_).take 2) : Nat), .bool true]) ∧ w = w' := by
  have K1 := Lib.hid (within_okI ao xs.length c at_ 2 2 rfl w h.le h.big hle)
  have K2 := number_any _ _ _ w (h.cut' at_ 2 hle) (by rw [win_len hle]; omega)
  rw [win_len hle] at K2
  have K2 := Lib.hid K2
  obtain ⟨A, hA⟩ : ∃ A, A = cutA ao c at_ := ⟨_, rfl⟩
  obtain ⟨z, hz⟩ : ∃ z, z = num ((xs.drop at_).take 2) := ⟨_, rfl⟩
  rw [← hA] at K1 K2
  rw [← hz] at K2 ⊢
  clear hA hz h
  go_enter Try.func8, Try.ntmps8
  go_wp2_with (first
    | (go_at_call 20; (with_reducible refine K1.out.mono ?_); rintro e w' ⟨rfl, rfl⟩)
    | (go_at_call 21; (with_reducible refine K2.out.mono ?_); rintro e w' ⟨rfl, rfl⟩))
  go_ret2
  exact ⟨rfl, rfl⟩

set_option maxHeartbeats 400000 in
theorem u32_ok (ao : Option Addr) (c : Nat) (xs : List Nat) (at_ : Nat) (w : World) (h : Sl w ao c xs) (hle : at_ + 4 ≤ xs.length) :
    Calls Try.prog 10 #[.slice ao xs.length c, .int .i64 at_] w fun e w' => e = .returned (.tuple #[.int .i64 (num ((xs.drop at_).take 4) : Nat), .bool true]) ∧ w = w' := by
  have K1 := Lib.hid (within_okI ao xs.length c at_ 4 4 rfl w h.le h.big hle)
  have K2 := number_any _ _ _ w (h.cut' at_ 4 hle) (by rw [win_len hle]; omega)
  rw [win_len hle] at K2
  have K2 := Lib.hid K2
  obtain ⟨A, hA⟩ : ∃ A, A = cutA ao c at_ := ⟨_, rfl⟩
  obtain ⟨z, hz⟩ : ∃ z, z = num ((xs.drop at_).take 4) := ⟨_, rfl⟩
  rw [← hA] at K1 K2
  rw [← hz] at K2 ⊢
  clear hA hz h
  go_enter Try.func10, Try.ntmps10
  go_wp2_with (first
    | (go_at_call 20; (with_reducible refine K1.out.mono ?_); rintro e w' ⟨rfl, rfl⟩)
    | (go_at_call 21; (with_reducible refine K2.out.mono ?_); rintro e w' ⟨rfl, rfl⟩))
  go_ret2
  exact ⟨rfl, rfl⟩

theorem number_nil (w : World) : Calls Try.prog 21 #[.slice none 0 0] w fun e w' => e = .returned (.int .i64 0) ∧ w = w' := number_any none 0 [] w (Sl.none_ w) (by simp)

set_option maxHeartbeats 400000 in
theorem u16_no (ao : Option Addr) (c len : Nat) (at_ : Int) (w : World) (hm : len ≤ maxLen) (h : at_ < 0 ∨ (len : Int) - 2 < at_) :
    Calls Try.prog 8 #[.slice ao len c, .int .i64 at_] w fun e w' => e = .returned (.tuple #[.int .i64 0, .bool false]) ∧ w = w' := by
  have K1 := Lib.hid (within_no ao len c at_ 2 w hm (by omega))
  have K2 := Lib.hid (number_nil w)
  clear hm h
  go_enter Try.func8, Try.ntmps8
  go_wp2_with (first
    | (go_at_call 20; (with_reducible refine K1.out.mono ?_); rintro e w' ⟨rfl, rfl⟩)
    | (go_at_call 21; (with_reducible refine K2.out.mono ?_); rintro e w' ⟨rfl, rfl⟩))
  go_ret2
  exact ⟨rfl, rfl⟩

set_option maxHeartbeats 400000 in
theorem u32_no (ao : Option Addr) (c len : Nat) (at_ : Int) (w : World) (hm : len ≤ maxLen) (h : at_ < 0 ∨ (len : Int) - 4 < at_) :
    Calls Try.prog 10 #[.slice ao len c, .int .i64 at_] w fun e w' => e = .returned (.tuple #[.int .i64 0, .bool false]) ∧ w = w' := by
  have K1 := Lib.hid (within_no ao len c at_ 4 w hm (by omega))
  have K2 := Lib.hid (number_nil w)
  clear hm h
  go_enter Try.func10, Try.ntmps10
  go_wp2_with (first
    | (go_at_call 20; (with_reducible refine K1.out.mono ?_); rintro e w' ⟨rfl, rfl⟩)
    | (go_at_call 21; (with_reducible refine K2.out.mono ?_); rintro e w' ⟨rfl, rfl⟩))
  go_ret2
  exact ⟨rfl, rfl⟩

/-- Cut's answer. -/
def CutOk (ys : List Nat) (w : World) (e : Ending) (w' : World) : Prop := ∃ ao c, e = .returned (.tuple #[.slice ao ys.length c, .bool true]) ∧ Sl w' ao c ys ∧ Below w.heap.size w w'

set_option maxHeartbeats 400000 in
theorem cut_ok (ao : Option Addr) (c : Nat) (xs : List Nat) (at_ n : Nat) (w : World) (h : Sl w ao c xs) (hle : at_ + n ≤ xs.length) (hm : xs.length ≤ 1000000000) :
    Calls Try.prog 11 #[.slice ao xs.length c, .int .i64 at_, .int .i64 n] w (CutOk ((xs.drop at_).take n) w) := by
  have K1 := within_ok ao xs.length c at_ n w h.le h.big hle
  have hl := win_len hle
  have K2 := clone_any _ _ _ w (h.cut' at_ n hle) (by rw [hl]; omega)
  obtain ⟨ys, hys⟩ : ∃ ys, ys = (xs.drop at_).take n := ⟨_, rfl⟩
  rw [← hys] at K2 hl ⊢
  subst hl
  have K1 := Lib.hid K1
  have K2 := Lib.hid K2
  obtain ⟨A, hA⟩ : ∃ A, A = cutA ao c at_ := ⟨_, rfl⟩
  rw [← hA] at K1 K2
  clear hA hys h
  go_enter Try.func11, Try.ntmps11
  go_wp2_with (first
    | (go_at_call 20; (with_reducible refine K1.out.mono ?_); rintro e w' ⟨rfl, rfl⟩)
    | (go_at_call 22; (with_reducible refine K2.out.mono ?_); rintro e w2 ⟨ao2, c2, rfl, hF, hb2⟩; have HP : Hid (CutOk ys w (.returned (.tuple #[.slice ao2 ys.length c2, .bool true])) w2) := Lib.hid ⟨ao2, c2, rfl, hF.1, hb2⟩; clear hF hb2))
  go_ret2
  exact HP.out

set_option maxHeartbeats 400000 in
theorem cut_no (ao : Option Addr) (c len : Nat) (at_ n : Int) (w : World) (hm : len ≤ maxLen) (h : at_ < 0 ∨ (len : Int) < at_ ∨ n < 0 ∨ (len : Int) - at_ < n) :
    Calls Try.prog 11 #[.slice ao len c, .int .i64 at_, .int .i64 n] w fun e w' => e = .returned (.tuple #[.slice none 0 0, .bool false]) ∧ w = w' := by
  have K1 := Lib.hid (within_no ao len c at_ n w hm h)
  have K2 := Lib.hid (clone_nil 0 w 0)
  clear hm h
  go_enter Try.func11, Try.ntmps11
  go_wp2_with (first
    | (go_at_call 20; (with_reducible refine K1.out.mono ?_); rintro e w' ⟨rfl, rfl⟩)
    | (go_at_call 22; (with_reducible refine K2.out.mono ?_); rintro e w' ⟨rfl, rfl⟩))
  go_ret2
  exact ⟨rfl, rfl⟩
end Go.Proofs.Ytflabomkgkojlaa
