/-
  CursorNumbers: the walk.
-/
import Derived.Test.YtflabomkgkojlaaQ
namespace Go.Proofs.Ytflabomkgkojlaa.cursorNumbers
open Go.RowKit
set_option linter.unusedVariables false

theorem walk_long (ao : Option Addr) (c L : Nat) (at_ n : Int) (s : Int) (h : 3000 < L) (w : World) (hM : MaxL w) :
    Calls Try.prog 3 #[.slice ao L c, .int .i64 at_, .int .i64 n, .int .u32 s] w fun e w' => e = .returned (.bool true) ∧ Below w.heap.size w w' := by
  have K7 := Lib.hid (alive_any w hM)
  have h' : (3000 : Int) < L := by omega
  clear hM
  go_enter Try.func3, Try.ntmps3
  go_wp2_with (go_at_call 7; (with_reducible refine K7.out.mono ?_); rintro e w1 ⟨rfl, hb1⟩; have HB := Lib.hid hb1; clear hb1)
  go_ret
  exact ⟨rfl, HB.out⟩

/-- The last sign among the places below one. -/
def LastBelow (xs : List Nat) (s k : Nat) (r : Int) : Prop :=
  (r = -1 ∧ ∀ j, j < k → ¬ Has xs s j) ∨ ∃ i : Nat, i < k ∧ r = i ∧ Has xs s i ∧ ∀ j, i < j → j < k → ¬ Has xs s j

theorem nums (ao : Option Addr) (c : Nat) (xs : List Nat) (at_ : Int) (w : World) (h : Sl w ao c xs) (hl : xs.length ≤ 3000) :
    (∃ (A : Int) (ok : Bool), ∀ W, Below w.heap.size w W →
      (Calls Try.prog 8 #[.slice ao xs.length c, .int .i64 at_] W fun e w' => e = .returned (.tuple #[.int .i64 A, .bool ok]) ∧ W = w') ∧
      (Calls Try.prog 9 #[.slice ao xs.length c, .int .i64 at_, .int .i64 2] W fun e w' => e = .returned (.tuple #[.int .i64 A, .bool ok]) ∧ W = w')) ∧
    (∃ (A : Int) (ok : Bool), ∀ W, Below w.heap.size w W →
      (Calls Try.prog 10 #[.slice ao xs.length c, .int .i64 at_] W fun e w' => e = .returned (.tuple #[.int .i64 A, .bool ok]) ∧ W = w') ∧
      (Calls Try.prog 9 #[.slice ao xs.length c, .int .i64 at_, .int .i64 4] W fun e w' => e = .returned (.tuple #[.int .i64 A, .bool ok]) ∧ W = w')) := by
  have hm : xs.length ≤ maxLen := by unfold maxLen; omega
  refine ⟨?_, ?_⟩
  · by_cases ha : 0 ≤ at_ ∧ at_ + 2 ≤ xs.length
    · obtain ⟨a, rfl⟩ := Int.eq_ofNat_of_zero_le ha.1
      exact ⟨_, _, fun W hW => ⟨u16_ok ao c xs a W (h.below hW) (by omega), rnum_ok ao c xs a 2 W (h.below hW) (by omega) (by omega) (by omega)⟩⟩
    · exact ⟨0, false, fun W hW => ⟨u16_no ao c xs.length at_ W hm (by omega), rnum_no ao c xs.length at_ 2 W (by omega) (by omega) (by omega)⟩⟩
  · by_cases ha : 0 ≤ at_ ∧ at_ + 4 ≤ xs.length
    · obtain ⟨a, rfl⟩ := Int.eq_ofNat_of_zero_le ha.1
      exact ⟨_, _, fun W hW => ⟨u32_ok ao c xs a W (h.below hW) (by omega), rnum_ok ao c xs a 4 W (h.below hW) (by omega) (by omega) (by omega)⟩⟩
    · exact ⟨0, false, fun W hW => ⟨u32_no ao c xs.length at_ W hm (by omega), rnum_no ao c xs.length at_ 4 W (by omega) (by omega) (by omega)⟩⟩

set_option maxHeartbeats 6400000 in
set_option maxRecDepth 100000 in
theorem walk_can (ao : Option Addr) (c : Nat) (xs : List Nat) (a m s : Nat) (hs : s < 4294967296) (h3 : xs.length ≤ 3000) (hcan : a + m ≤ xs.length) (w : World) (h : Sl w ao c xs) (hM : MaxL w) :
    Calls Try.prog 3 #[.slice ao xs.length c, .int .i64 a, .int .i64 m, .int .u32 s] w fun e w' => e = .returned (.bool true) ∧ Below w.heap.size w w' := by
  have K7 := Lib.hid (alive_any w hM)
  obtain ⟨⟨A2, ok2, hn2⟩, ⟨A4, ok4, hn4⟩⟩ := nums ao c xs a w h h3
  have K8 := Lib.hid fun W hW => (hn2 W hW).1
  have K9 := Lib.hid fun W hW => (hn2 W hW).2
  have K10 := Lib.hid fun W hW => (hn4 W hW).1
  have K94 := Lib.hid fun W hW => (hn4 W hW).2
  have K11 := Lib.hid fun W (hW : Below w.heap.size w W) => cut_ok ao c xs a m W (h.below hW) hcan (by omega)
  obtain ⟨ys, hys⟩ : ∃ ys, ys = (xs.drop a).take m := ⟨_, rfl⟩
  have hyl : ys.length = m := by rw [hys]; exact win_len hcan
  have hcut := h.cut' a m hcan
  have hsl := slice_lh ao xs.length c a (a + m) (by omega) (by have := h.le; omega)
  rw [show a + m - a = m from by omega, show ((a + m : Nat) : Int) = (a : Int) + m from by omega] at hsl
  rw [← hys] at K11 hcut
  subst hyl
  obtain ⟨A, hA⟩ : ∃ A, A = cutA ao c a := ⟨_, rfl⟩
  rw [← hA] at hsl hcut
  have HCUT := Lib.hid hcut
  have HS := Lib.hid h
  obtain ⟨r1, hr1⟩ := exists_first h.bs s hs a
  have K13 := Lib.hid fun W (hW : Below w.heap.size w W) => first_any ao c xs a a (by omega) s hs r1 hr1 W (h.below hW) (hM.below hW) (by omega)
  have K14 := Lib.hid fun W (hW : Below w.heap.size w W) => rfirst_any ao c xs a a (by omega) s r1 hr1 W (h.below hW) (by omega)
  obtain ⟨r2, hr2⟩ : ∃ r, IsLast xs s r := ⟨_, last_index h.bs s hs⟩
  have HR2 := Lib.hid hr2
  have K15 := Lib.hid fun W (hW : Below w.heap.size w W) => last_any ao c xs s hs r2 hr2 W (h.below hW) (by omega)
  have h3' : ¬ (3000 : Int) < xs.length := by omega
  have d1 : (0 : Int) ≤ a := by omega
  have d2 : (a : Int) ≤ xs.length := by omega
  have d3 : (0 : Int) ≤ ys.length := by omega
  have d4 : (ys.length : Int) ≤ (xs.length : Int) - a := by omega
  have d5 : decide ((3000 : Int) < xs.length) = false := by simp; omega
  have d6 : decide (3000 < xs.length) = false := by simp; omega
  clear hn2 hn4 hys hcut hA h hM hr1 hr2
  go_enter Try.func3, Try.ntmps3
  go_wp2_with (first
    | (go_at_call 7; (with_reducible refine K7.out.mono ?_); rintro e w1 ⟨rfl, hb1⟩; have HB := Lib.hid hb1; clear hb1)
    | (go_at_call 8; (with_reducible refine (K8.out _ HB.out).mono ?_); rintro e w' ⟨rfl, rfl⟩)
    | (go_at_call 9; (with_reducible refine (K9.out _ HB.out).mono ?_); rintro e w' ⟨rfl, rfl⟩)
    | (go_at_call 10; (with_reducible refine (K10.out _ HB.out).mono ?_); rintro e w' ⟨rfl, rfl⟩)
    | (go_at_call 9; (with_reducible refine (K94.out _ HB.out).mono ?_); rintro e w' ⟨rfl, rfl⟩)
    | (go_at_call 11; (with_reducible refine (K11.out _ HB.out).mono ?_); rintro e w2 ⟨ao2, c2, rfl, hsl2, hb2⟩; have K12 := Lib.hid (same_eq ao2 A c2 (c - a) ys w2 hsl2 (HCUT.out.below (HB.out.trans (hb2.mono HB.out.size)))); have HB2 := Lib.hid (HB.out.trans (hb2.mono HB.out.size)); clear hsl2 hb2)
    | (go_at_call 12; (with_reducible refine K12.out.mono ?_); rintro e w3 ⟨rfl, hd⟩; have HB3 := Lib.hid (hd.below HB2.out); clear hd))
  go_loop [20, 21] (fun vl vi => ∃ (k : Nat) (L : Int), k ≤ xs.length ∧ vi = .int .i64 k ∧ vl = .int .i64 L ∧ Hid (LastBelow xs s k L)) (fun _ vi => xs.length - (intOf vi).toNat)
  case atStart => exact ⟨0, -1, Nat.zero_le _, rfl, rfl, Lib.hid (.inl ⟨rfl, fun j hj => by omega⟩)⟩
  case round =>
    obtain ⟨k, L, hk, rfl, rfl, hL⟩ := hrel
    by_cases hlt : k + 4 ≤ xs.length
    · have hkk : (k : Int) ≤ (xs.length : Int) - 4 := by omega
      have K := fun W (hW : Below w.heap.size w W) => rnum_ok ao c xs k 4 W (HS.out.below hW) (by omega) hlt (by omega)
      have hz := win_lt HS.out.bs k 4 (by omega)
      obtain ⟨z, hzz⟩ : ∃ z, z = num ((xs.drop k).take 4) := ⟨_, rfl⟩
      rw [← hzz] at K hz
      have HZ := Lib.hid hzz
      have K := Lib.hid (show ∀ W, Below w.heap.size w W → Calls Try.prog 9 #[.slice ao xs.length c, .int .i64 k, .int .i64 4] W fun e w' => e = .returned (.tuple #[.int .i64 z, .bool true]) ∧ W = w' from K)
      clear hzz
      have hmod : (z : Int) % 4294967296 = z := by omega
      by_cases he : z = s
      · have HN : Hid (LastBelow xs s (k + 1) k) := Lib.hid (.inr ⟨k, by omega, rfl, ⟨hlt, by have := HZ.out; omega⟩, fun j h1 h2 => by omega⟩)
        subst he
        clear hz
        go_wp2_with (go_at_call 9; (with_reducible refine (K.out _ HB3.out).mono ?_); rintro e w' ⟨rfl, rfl⟩)
        go_round
        case rel => exact ⟨k + 1, k, by omega, by go_num, rfl, HN⟩
        case measure => simp [intOf]; omega
      · have HN : Hid (LastBelow xs s (k + 1) L) := Lib.hid (by
          have hnh : ¬ Has xs s k := fun hc => he (by rw [HZ.out]; exact hc.2)
          rcases hL.out with ⟨h1, h2⟩ | ⟨i, hi, h1, h2, h3⟩
          · exact .inl ⟨h1, fun j hj => by
              by_cases e : j = k
              · subst e; exact hnh
              · exact h2 j (by omega)⟩
          · exact .inr ⟨i, by omega, h1, h2, fun j h4 h5 => by
              by_cases e : j = k
              · subst e; exact hnh
              · exact h3 j h4 (by omega)⟩)
        have he' : decide ((z : Int) = s) = false := by simp; omega
        have he2 : ¬ (z : Int) = s := by omega
        clear hz he
        go_wp2_with (go_at_call 9; (with_reducible refine (K.out _ HB3.out).mono ?_); rintro e w' ⟨rfl, rfl⟩)
        go_round
        case rel => exact ⟨k + 1, L, by omega, by go_num, rfl, HN⟩
        case measure => simp [intOf]; omega
    · have hkk : ¬ ((k : Int) ≤ (xs.length : Int) - 4) := by omega
      have hLr : L = r2 := by
        have h1 : IsLast xs s L := by
          rcases hL.out with ⟨h1, h2⟩ | ⟨i, hi, h1, h2, h3⟩
          · exact .inl ⟨h1, fun j hc => h2 j (by have := hc.1; omega) hc⟩
          · exact .inr ⟨i, h1, h2, fun j h4 hc => h3 j h4 (by have := hc.1; omega) hc⟩
        exact h1.uniq HR2.out
      subst hLr
      clear hL
      go_wp2_with (first
        | (go_at_call 13; (with_reducible refine (K13.out _ HB3.out).mono ?_); rintro e w4 ⟨rfl, hb4⟩; have HB4 := Lib.hid (HB3.out.trans (hb4.mono HB3.out.size)); clear hb4)
        | (go_at_call 14; (with_reducible refine (K14.out _ HB4.out).mono ?_); rintro e w' ⟨rfl, rfl⟩)
        | (go_at_call 15; (with_reducible refine (K15.out _ HB4.out).mono ?_); rintro e w5 ⟨rfl, hb5⟩; have HB5 := Lib.hid (HB4.out.trans (hb5.mono HB4.out.size)); clear hb5))
      go_ret
      exact ⟨rfl, HB5.out⟩

set_option maxHeartbeats 12800000 in
set_option maxRecDepth 100000 in
theorem walk_no (ao : Option Addr) (c : Nat) (xs : List Nat) (at_ n : Int) (f s : Nat) (hs : s < 4294967296) (h3 : xs.length ≤ 3000) (hf : (f : Int) = max at_ 0) (hno : at_ < 0 ∨ (xs.length : Int) < at_ ∨ n < 0 ∨ (xs.length : Int) - at_ < n) (w : World) (h : Sl w ao c xs) (hM : MaxL w) :
    Calls Try.prog 3 #[.slice ao xs.length c, .int .i64 at_, .int .i64 n, .int .u32 s] w fun e w' => e = .returned (.bool true) ∧ Below w.heap.size w w' := by
  have K7 := Lib.hid (alive_any w hM)
  obtain ⟨⟨A2, ok2, hn2⟩, ⟨A4, ok4, hn4⟩⟩ := nums ao c xs at_ w h h3
  have K8 := Lib.hid fun W hW => (hn2 W hW).1
  have K9 := Lib.hid fun W hW => (hn2 W hW).2
  have K10 := Lib.hid fun W hW => (hn4 W hW).1
  have K94 := Lib.hid fun W hW => (hn4 W hW).2
  have K11 := Lib.hid fun W => cut_no ao c xs.length at_ n W (by unfold maxLen; omega) hno
  have HS := Lib.hid h
  obtain ⟨r1, hr1⟩ := exists_first h.bs s hs f
  have K13 := Lib.hid fun W (hW : Below w.heap.size w W) => first_any ao c xs at_ f hf s hs r1 hr1 W (h.below hW) (hM.below hW) (by omega)
  have K14 := Lib.hid fun W (hW : Below w.heap.size w W) => rfirst_any ao c xs at_ f hf s r1 hr1 W (h.below hW) (by omega)
  obtain ⟨r2, hr2⟩ : ∃ r, IsLast xs s r := ⟨_, last_index h.bs s hs⟩
  have HR2 := Lib.hid hr2
  have K15 := Lib.hid fun W (hW : Below w.heap.size w W) => last_any ao c xs s hs r2 hr2 W (h.below hW) (by omega)
  have h3' : ¬ (3000 : Int) < xs.length := by omega
  have d5 : decide ((3000 : Int) < xs.length) = false := by simp; omega
  have d6 : decide (3000 < xs.length) = false := by simp; omega
  clear hn2 hn4 h hM hr1 hr2 hf
  have hcase : at_ < 0 ∨ (¬ at_ < 0 ∧ (xs.length : Int) < at_) ∨ (¬ at_ < 0 ∧ ¬ (xs.length : Int) < at_ ∧ n < 0) ∨ (¬ at_ < 0 ∧ ¬ (xs.length : Int) < at_ ∧ ¬ n < 0 ∧ (xs.length : Int) - at_ < n) := by omega
  clear hno
  rcases hcase with h1 | ⟨h1, h2⟩ | ⟨h1, h2, h4⟩ | ⟨h1, h2, h4, h5⟩
  · have HX := trivial
    go_enter Try.func3, Try.ntmps3
    go_wp2_with (first
      | (go_at_call 7; (with_reducible refine K7.out.mono ?_); rintro e w1 ⟨rfl, hb1⟩; have HB := Lib.hid hb1; clear hb1)
      | (go_at_call 8; (with_reducible refine (K8.out _ HB.out).mono ?_); rintro e w' ⟨rfl, rfl⟩)
      | (go_at_call 9; (with_reducible refine (K9.out _ HB.out).mono ?_); rintro e w' ⟨rfl, rfl⟩)
      | (go_at_call 10; (with_reducible refine (K10.out _ HB.out).mono ?_); rintro e w' ⟨rfl, rfl⟩)
      | (go_at_call 9; (with_reducible refine (K94.out _ HB.out).mono ?_); rintro e w' ⟨rfl, rfl⟩)
      | (go_at_call 11; (with_reducible refine (K11.out _).mono ?_); rintro e w' ⟨rfl, rfl⟩))
    go_loop [20, 21] (fun vl vi => ∃ (k : Nat) (L : Int), k ≤ xs.length ∧ vi = .int .i64 k ∧ vl = .int .i64 L ∧ Hid (LastBelow xs s k L)) (fun _ vi => xs.length - (intOf vi).toNat)
    case atStart => exact ⟨0, -1, Nat.zero_le _, rfl, rfl, Lib.hid (.inl ⟨rfl, fun j hj => by omega⟩)⟩
    case round =>
      obtain ⟨k, L, hk, rfl, rfl, hL⟩ := hrel
      by_cases hlt : k + 4 ≤ xs.length
      · have hkk : (k : Int) ≤ (xs.length : Int) - 4 := by omega
        have K := fun W (hW : Below w.heap.size w W) => rnum_ok ao c xs k 4 W (HS.out.below hW) (by omega) hlt (by omega)
        have hz := win_lt HS.out.bs k 4 (by omega)
        obtain ⟨z, hzz⟩ : ∃ z, z = num ((xs.drop k).take 4) := ⟨_, rfl⟩
        rw [← hzz] at K hz
        have HZ := Lib.hid hzz
        have K := Lib.hid (show ∀ W, Below w.heap.size w W → Calls Try.prog 9 #[.slice ao xs.length c, .int .i64 k, .int .i64 4] W fun e w' => e = .returned (.tuple #[.int .i64 z, .bool true]) ∧ W = w' from K)
        clear hzz
        have hmod : (z : Int) % 4294967296 = z := by omega
        by_cases he : z = s
        · have HN : Hid (LastBelow xs s (k + 1) k) := Lib.hid (.inr ⟨k, by omega, rfl, ⟨hlt, by have := HZ.out; omega⟩, fun j h1 h2 => by omega⟩)
          subst he
          clear hz
          go_wp2_with (go_at_call 9; (with_reducible refine (K.out _ HB.out).mono ?_); rintro e w' ⟨rfl, rfl⟩)
          go_round
          case rel => exact ⟨k + 1, k, by omega, by go_num, rfl, HN⟩
          case measure => simp [intOf]; omega
        · have HN : Hid (LastBelow xs s (k + 1) L) := Lib.hid (by
            have hnh : ¬ Has xs s k := fun hc => he (by rw [HZ.out]; exact hc.2)
            rcases hL.out with ⟨h1, h2⟩ | ⟨i, hi, h1, h2, h3⟩
            · exact .inl ⟨h1, fun j hj => by
                by_cases e : j = k
                · subst e; exact hnh
                · exact h2 j (by omega)⟩
            · exact .inr ⟨i, by omega, h1, h2, fun j h4 h5 => by
                by_cases e : j = k
                · subst e; exact hnh
                · exact h3 j h4 (by omega)⟩)
          have he' : decide ((z : Int) = s) = false := by simp; omega
          have he2 : ¬ (z : Int) = s := by omega
          clear hz he
          go_wp2_with (go_at_call 9; (with_reducible refine (K.out _ HB.out).mono ?_); rintro e w' ⟨rfl, rfl⟩)
          go_round
          case rel => exact ⟨k + 1, L, by omega, by go_num, rfl, HN⟩
          case measure => simp [intOf]; omega
      · have hkk : ¬ ((k : Int) ≤ (xs.length : Int) - 4) := by omega
        have hLr : L = r2 := by
          have h1 : IsLast xs s L := by
            rcases hL.out with ⟨h1, h2⟩ | ⟨i, hi, h1, h2, h3⟩
            · exact .inl ⟨h1, fun j hc => h2 j (by have := hc.1; omega) hc⟩
            · exact .inr ⟨i, h1, h2, fun j h4 hc => h3 j h4 (by have := hc.1; omega) hc⟩
          exact h1.uniq HR2.out
        subst hLr
        clear hL
        go_wp2_with (first
          | (go_at_call 13; (with_reducible refine (K13.out _ HB.out).mono ?_); rintro e w4 ⟨rfl, hb4⟩; have HB4 := Lib.hid (HB.out.trans (hb4.mono HB.out.size)); clear hb4)
          | (go_at_call 14; (with_reducible refine (K14.out _ HB4.out).mono ?_); rintro e w' ⟨rfl, rfl⟩)
          | (go_at_call 15; (with_reducible refine (K15.out _ HB4.out).mono ?_); rintro e w5 ⟨rfl, hb5⟩; have HB5 := Lib.hid (HB4.out.trans (hb5.mono HB4.out.size)); clear hb5))
        go_ret
        exact ⟨rfl, HB5.out⟩
  · have HX := trivial
    go_enter Try.func3, Try.ntmps3
    go_wp2_with (first
      | (go_at_call 7; (with_reducible refine K7.out.mono ?_); rintro e w1 ⟨rfl, hb1⟩; have HB := Lib.hid hb1; clear hb1)
      | (go_at_call 8; (with_reducible refine (K8.out _ HB.out).mono ?_); rintro e w' ⟨rfl, rfl⟩)
      | (go_at_call 9; (with_reducible refine (K9.out _ HB.out).mono ?_); rintro e w' ⟨rfl, rfl⟩)
      | (go_at_call 10; (with_reducible refine (K10.out _ HB.out).mono ?_); rintro e w' ⟨rfl, rfl⟩)
      | (go_at_call 9; (with_reducible refine (K94.out _ HB.out).mono ?_); rintro e w' ⟨rfl, rfl⟩)
      | (go_at_call 11; (with_reducible refine (K11.out _).mono ?_); rintro e w' ⟨rfl, rfl⟩))
    go_loop [20, 21] (fun vl vi => ∃ (k : Nat) (L : Int), k ≤ xs.length ∧ vi = .int .i64 k ∧ vl = .int .i64 L ∧ Hid (LastBelow xs s k L)) (fun _ vi => xs.length - (intOf vi).toNat)
    case atStart => exact ⟨0, -1, Nat.zero_le _, rfl, rfl, Lib.hid (.inl ⟨rfl, fun j hj => by omega⟩)⟩
    case round =>
      obtain ⟨k, L, hk, rfl, rfl, hL⟩ := hrel
      by_cases hlt : k + 4 ≤ xs.length
      · have hkk : (k : Int) ≤ (xs.length : Int) - 4 := by omega
        have K := fun W (hW : Below w.heap.size w W) => rnum_ok ao c xs k 4 W (HS.out.below hW) (by omega) hlt (by omega)
        have hz := win_lt HS.out.bs k 4 (by omega)
        obtain ⟨z, hzz⟩ : ∃ z, z = num ((xs.drop k).take 4) := ⟨_, rfl⟩
        rw [← hzz] at K hz
        have HZ := Lib.hid hzz
        have K := Lib.hid (show ∀ W, Below w.heap.size w W → Calls Try.prog 9 #[.slice ao xs.length c, .int .i64 k, .int .i64 4] W fun e w' => e = .returned (.tuple #[.int .i64 z, .bool true]) ∧ W = w' from K)
        clear hzz
        have hmod : (z : Int) % 4294967296 = z := by omega
        by_cases he : z = s
        · have HN : Hid (LastBelow xs s (k + 1) k) := Lib.hid (.inr ⟨k, by omega, rfl, ⟨hlt, by have := HZ.out; omega⟩, fun j h1 h2 => by omega⟩)
          subst he
          clear hz
          go_wp2_with (go_at_call 9; (with_reducible refine (K.out _ HB.out).mono ?_); rintro e w' ⟨rfl, rfl⟩)
          go_round
          case rel => exact ⟨k + 1, k, by omega, by go_num, rfl, HN⟩
          case measure => simp [intOf]; omega
        · have HN : Hid (LastBelow xs s (k + 1) L) := Lib.hid (by
            have hnh : ¬ Has xs s k := fun hc => he (by rw [HZ.out]; exact hc.2)
            rcases hL.out with ⟨h1, h2⟩ | ⟨i, hi, h1, h2, h3⟩
            · exact .inl ⟨h1, fun j hj => by
                by_cases e : j = k
                · subst e; exact hnh
                · exact h2 j (by omega)⟩
            · exact .inr ⟨i, by omega, h1, h2, fun j h4 h5 => by
                by_cases e : j = k
                · subst e; exact hnh
                · exact h3 j h4 (by omega)⟩)
          have he' : decide ((z : Int) = s) = false := by simp; omega
          have he2 : ¬ (z : Int) = s := by omega
          clear hz he
          go_wp2_with (go_at_call 9; (with_reducible refine (K.out _ HB.out).mono ?_); rintro e w' ⟨rfl, rfl⟩)
          go_round
          case rel => exact ⟨k + 1, L, by omega, by go_num, rfl, HN⟩
          case measure => simp [intOf]; omega
      · have hkk : ¬ ((k : Int) ≤ (xs.length : Int) - 4) := by omega
        have hLr : L = r2 := by
          have h1 : IsLast xs s L := by
            rcases hL.out with ⟨h1, h2⟩ | ⟨i, hi, h1, h2, h3⟩
            · exact .inl ⟨h1, fun j hc => h2 j (by have := hc.1; omega) hc⟩
            · exact .inr ⟨i, h1, h2, fun j h4 hc => h3 j h4 (by have := hc.1; omega) hc⟩
          exact h1.uniq HR2.out
        subst hLr
        clear hL
        go_wp2_with (first
          | (go_at_call 13; (with_reducible refine (K13.out _ HB.out).mono ?_); rintro e w4 ⟨rfl, hb4⟩; have HB4 := Lib.hid (HB.out.trans (hb4.mono HB.out.size)); clear hb4)
          | (go_at_call 14; (with_reducible refine (K14.out _ HB4.out).mono ?_); rintro e w' ⟨rfl, rfl⟩)
          | (go_at_call 15; (with_reducible refine (K15.out _ HB4.out).mono ?_); rintro e w5 ⟨rfl, hb5⟩; have HB5 := Lib.hid (HB4.out.trans (hb5.mono HB4.out.size)); clear hb5))
        go_ret
        exact ⟨rfl, HB5.out⟩
  · have HX := trivial
    go_enter Try.func3, Try.ntmps3
    go_wp2_with (first
      | (go_at_call 7; (with_reducible refine K7.out.mono ?_); rintro e w1 ⟨rfl, hb1⟩; have HB := Lib.hid hb1; clear hb1)
      | (go_at_call 8; (with_reducible refine (K8.out _ HB.out).mono ?_); rintro e w' ⟨rfl, rfl⟩)
      | (go_at_call 9; (with_reducible refine (K9.out _ HB.out).mono ?_); rintro e w' ⟨rfl, rfl⟩)
      | (go_at_call 10; (with_reducible refine (K10.out _ HB.out).mono ?_); rintro e w' ⟨rfl, rfl⟩)
      | (go_at_call 9; (with_reducible refine (K94.out _ HB.out).mono ?_); rintro e w' ⟨rfl, rfl⟩)
      | (go_at_call 11; (with_reducible refine (K11.out _).mono ?_); rintro e w' ⟨rfl, rfl⟩))
    go_loop [20, 21] (fun vl vi => ∃ (k : Nat) (L : Int), k ≤ xs.length ∧ vi = .int .i64 k ∧ vl = .int .i64 L ∧ Hid (LastBelow xs s k L)) (fun _ vi => xs.length - (intOf vi).toNat)
    case atStart => exact ⟨0, -1, Nat.zero_le _, rfl, rfl, Lib.hid (.inl ⟨rfl, fun j hj => by omega⟩)⟩
    case round =>
      obtain ⟨k, L, hk, rfl, rfl, hL⟩ := hrel
      by_cases hlt : k + 4 ≤ xs.length
      · have hkk : (k : Int) ≤ (xs.length : Int) - 4 := by omega
        have K := fun W (hW : Below w.heap.size w W) => rnum_ok ao c xs k 4 W (HS.out.below hW) (by omega) hlt (by omega)
        have hz := win_lt HS.out.bs k 4 (by omega)
        obtain ⟨z, hzz⟩ : ∃ z, z = num ((xs.drop k).take 4) := ⟨_, rfl⟩
        rw [← hzz] at K hz
        have HZ := Lib.hid hzz
        have K := Lib.hid (show ∀ W, Below w.heap.size w W → Calls Try.prog 9 #[.slice ao xs.length c, .int .i64 k, .int .i64 4] W fun e w' => e = .returned (.tuple #[.int .i64 z, .bool true]) ∧ W = w' from K)
        clear hzz
        have hmod : (z : Int) % 4294967296 = z := by omega
        by_cases he : z = s
        · have HN : Hid (LastBelow xs s (k + 1) k) := Lib.hid (.inr ⟨k, by omega, rfl, ⟨hlt, by have := HZ.out; omega⟩, fun j h1 h2 => by omega⟩)
          subst he
          clear hz
          go_wp2_with (go_at_call 9; (with_reducible refine (K.out _ HB.out).mono ?_); rintro e w' ⟨rfl, rfl⟩)
          go_round
          case rel => exact ⟨k + 1, k, by omega, by go_num, rfl, HN⟩
          case measure => simp [intOf]; omega
        · have HN : Hid (LastBelow xs s (k + 1) L) := Lib.hid (by
            have hnh : ¬ Has xs s k := fun hc => he (by rw [HZ.out]; exact hc.2)
            rcases hL.out with ⟨h1, h2⟩ | ⟨i, hi, h1, h2, h3⟩
            · exact .inl ⟨h1, fun j hj => by
                by_cases e : j = k
                · subst e; exact hnh
                · exact h2 j (by omega)⟩
            · exact .inr ⟨i, by omega, h1, h2, fun j h4 h5 => by
                by_cases e : j = k
                · subst e; exact hnh
                · exact h3 j h4 (by omega)⟩)
          have he' : decide ((z : Int) = s) = false := by simp; omega
          have he2 : ¬ (z : Int) = s := by omega
          clear hz he
          go_wp2_with (go_at_call 9; (with_reducible refine (K.out _ HB.out).mono ?_); rintro e w' ⟨rfl, rfl⟩)
          go_round
          case rel => exact ⟨k + 1, L, by omega, by go_num, rfl, HN⟩
          case measure => simp [intOf]; omega
      · have hkk : ¬ ((k : Int) ≤ (xs.length : Int) - 4) := by omega
        have hLr : L = r2 := by
          have h1 : IsLast xs s L := by
            rcases hL.out with ⟨h1, h2⟩ | ⟨i, hi, h1, h2, h3⟩
            · exact .inl ⟨h1, fun j hc => h2 j (by have := hc.1; omega) hc⟩
            · exact .inr ⟨i, h1, h2, fun j h4 hc => h3 j h4 (by have := hc.1; omega) hc⟩
          exact h1.uniq HR2.out
        subst hLr
        clear hL
        go_wp2_with (first
          | (go_at_call 13; (with_reducible refine (K13.out _ HB.out).mono ?_); rintro e w4 ⟨rfl, hb4⟩; have HB4 := Lib.hid (HB.out.trans (hb4.mono HB.out.size)); clear hb4)
          | (go_at_call 14; (with_reducible refine (K14.out _ HB4.out).mono ?_); rintro e w' ⟨rfl, rfl⟩)
          | (go_at_call 15; (with_reducible refine (K15.out _ HB4.out).mono ?_); rintro e w5 ⟨rfl, hb5⟩; have HB5 := Lib.hid (HB4.out.trans (hb5.mono HB4.out.size)); clear hb5))
        go_ret
        exact ⟨rfl, HB5.out⟩
  · have HX := trivial
    go_enter Try.func3, Try.ntmps3
    go_wp2_with (first
      | (go_at_call 7; (with_reducible refine K7.out.mono ?_); rintro e w1 ⟨rfl, hb1⟩; have HB := Lib.hid hb1; clear hb1)
      | (go_at_call 8; (with_reducible refine (K8.out _ HB.out).mono ?_); rintro e w' ⟨rfl, rfl⟩)
      | (go_at_call 9; (with_reducible refine (K9.out _ HB.out).mono ?_); rintro e w' ⟨rfl, rfl⟩)
      | (go_at_call 10; (with_reducible refine (K10.out _ HB.out).mono ?_); rintro e w' ⟨rfl, rfl⟩)
      | (go_at_call 9; (with_reducible refine (K94.out _ HB.out).mono ?_); rintro e w' ⟨rfl, rfl⟩)
      | (go_at_call 11; (with_reducible refine (K11.out _).mono ?_); rintro e w' ⟨rfl, rfl⟩))
    go_loop [20, 21] (fun vl vi => ∃ (k : Nat) (L : Int), k ≤ xs.length ∧ vi = .int .i64 k ∧ vl = .int .i64 L ∧ Hid (LastBelow xs s k L)) (fun _ vi => xs.length - (intOf vi).toNat)
    case atStart => exact ⟨0, -1, Nat.zero_le _, rfl, rfl, Lib.hid (.inl ⟨rfl, fun j hj => by omega⟩)⟩
    case round =>
      obtain ⟨k, L, hk, rfl, rfl, hL⟩ := hrel
      by_cases hlt : k + 4 ≤ xs.length
      · have hkk : (k : Int) ≤ (xs.length : Int) - 4 := by omega
        have K := fun W (hW : Below w.heap.size w W) => rnum_ok ao c xs k 4 W (HS.out.below hW) (by omega) hlt (by omega)
        have hz := win_lt HS.out.bs k 4 (by omega)
        obtain ⟨z, hzz⟩ : ∃ z, z = num ((xs.drop k).take 4) := ⟨_, rfl⟩
        rw [← hzz] at K hz
        have HZ := Lib.hid hzz
        have K := Lib.hid (show ∀ W, Below w.heap.size w W → Calls Try.prog 9 #[.slice ao xs.length c, .int .i64 k, .int .i64 4] W fun e w' => e = .returned (.tuple #[.int .i64 z, .bool true]) ∧ W = w' from K)
        clear hzz
        have hmod : (z : Int) % 4294967296 = z := by omega
        by_cases he : z = s
        · have HN : Hid (LastBelow xs s (k + 1) k) := Lib.hid (.inr ⟨k, by omega, rfl, ⟨hlt, by have := HZ.out; omega⟩, fun j h1 h2 => by omega⟩)
          subst he
          clear hz
          go_wp2_with (go_at_call 9; (with_reducible refine (K.out _ HB.out).mono ?_); rintro e w' ⟨rfl, rfl⟩)
          go_round
          case rel => exact ⟨k + 1, k, by omega, by go_num, rfl, HN⟩
          case measure => simp [intOf]; omega
        · have HN : Hid (LastBelow xs s (k + 1) L) := Lib.hid (by
            have hnh : ¬ Has xs s k := fun hc => he (by rw [HZ.out]; exact hc.2)
            rcases hL.out with ⟨h1, h2⟩ | ⟨i, hi, h1, h2, h3⟩
            · exact .inl ⟨h1, fun j hj => by
                by_cases e : j = k
                · subst e; exact hnh
                · exact h2 j (by omega)⟩
            · exact .inr ⟨i, by omega, h1, h2, fun j h4 h5 => by
                by_cases e : j = k
                · subst e; exact hnh
                · exact h3 j h4 (by omega)⟩)
          have he' : decide ((z : Int) = s) = false := by simp; omega
          have he2 : ¬ (z : Int) = s := by omega
          clear hz he
          go_wp2_with (go_at_call 9; (with_reducible refine (K.out _ HB.out).mono ?_); rintro e w' ⟨rfl, rfl⟩)
          go_round
          case rel => exact ⟨k + 1, L, by omega, by go_num, rfl, HN⟩
          case measure => simp [intOf]; omega
      · have hkk : ¬ ((k : Int) ≤ (xs.length : Int) - 4) := by omega
        have hLr : L = r2 := by
          have h1 : IsLast xs s L := by
            rcases hL.out with ⟨h1, h2⟩ | ⟨i, hi, h1, h2, h3⟩
            · exact .inl ⟨h1, fun j hc => h2 j (by have := hc.1; omega) hc⟩
            · exact .inr ⟨i, h1, h2, fun j h4 hc => h3 j h4 (by have := hc.1; omega) hc⟩
          exact h1.uniq HR2.out
        subst hLr
        clear hL
        go_wp2_with (first
          | (go_at_call 13; (with_reducible refine (K13.out _ HB.out).mono ?_); rintro e w4 ⟨rfl, hb4⟩; have HB4 := Lib.hid (HB.out.trans (hb4.mono HB.out.size)); clear hb4)
          | (go_at_call 14; (with_reducible refine (K14.out _ HB4.out).mono ?_); rintro e w' ⟨rfl, rfl⟩)
          | (go_at_call 15; (with_reducible refine (K15.out _ HB4.out).mono ?_); rintro e w5 ⟨rfl, hb5⟩; have HB5 := Lib.hid (HB4.out.trans (hb5.mono HB4.out.size)); clear hb5))
        go_ret
        exact ⟨rfl, HB5.out⟩
end Go.Proofs.Ytflabomkgkojlaa.cursorNumbers
