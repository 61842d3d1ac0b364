/-
  Contracts: swapRangeCmpFunc, rotateCmpFunc at a row of symbols.
-/
import Derived.Test.YtccfbkbfmkdapaaSa
namespace Go.Proofs.Ytccfbkbfmkdapaa
open Go.RowKit Go.Sort

/-- So many places exchanged with as many others. -/
def swaps (d : Array Nat) (a c : Nat) : Nat → Array Nat
  | 0 => d
  | k + 1 => swp (swaps d a c k) (a + k) (c + k)
theorem swaps_size (d : Array Nat) (a c k : Nat) : (swaps d a c k).size = d.size := by
  induction k with
  | zero => rfl
  | succ k ih => rw [swaps, size_swp, ih]
theorem swaps_at (d : Array Nat) (a c k : Nat) (h1 : a + k ≤ c) (h2 : c + k ≤ d.size) (x : Nat) :
    (swaps d a c k)[x]! = if a ≤ x ∧ x < a + k then d[x + c - a]! else if c ≤ x ∧ x < c + k then d[x + a - c]! else d[x]! := by
  induction k generalizing x with
  | zero => rw [if_neg (by omega), if_neg (by omega)]; rfl
  | succ k ih =>
    have ih' := ih (by omega) (by omega)
    rw [swaps, swp_get _ (by rw [swaps_size]; omega) (by rw [swaps_size]; omega)]
    by_cases e1 : x = c + k
    · subst e1
      rw [if_pos rfl, ih', if_neg (by omega), if_neg (by omega), if_neg (by omega), if_pos (by omega)]
      congr 1; omega
    · rw [if_neg e1]
      by_cases e2 : x = a + k
      · subst e2
        rw [if_pos rfl, ih', if_neg (by omega), if_neg (by omega), if_pos (by omega)]
        congr 1; omega
      · rw [if_neg e2, ih']
        by_cases e3 : a ≤ x ∧ x < a + k
        · rw [if_pos e3, if_pos (show a ≤ x ∧ x < a + (k + 1) by omega)]
        · rw [if_neg e3, if_neg (show ¬ (a ≤ x ∧ x < a + (k + 1)) by omega)]
          by_cases e4 : c ≤ x ∧ x < c + k
          · rw [if_pos e4, if_pos (show c ≤ x ∧ x < c + (k + 1) by omega)]
          · rw [if_neg e4, if_neg (show ¬ (c ≤ x ∧ x < c + (k + 1)) by omega)]
theorem swaps_perm (d : Array Nat) (a c k lo hi : Nat) (h0 : lo ≤ a) (h1 : a + k ≤ c) (h2 : c + k ≤ hi) (h3 : hi ≤ d.size) : PermIn lo hi d (swaps d a c k) := by
  induction k with
  | zero => exact permIn_refl _ _ _
  | succ k ih =>
    refine permIn_trans _ _ _ _ _ (ih (by omega) (by omega)) ?_
    exact swp_permIn _ _ _ _ _ (by omega) (by omega) (by omega) (by omega) (by rw [swaps_size]; omega)

set_option maxHeartbeats 1600000 in
theorem swapRange_any (cx b N c a p n : Nat) (d : Array Nat) (w0 w : World) (S : Srt w0 b N d w) (h1 : a + n ≤ p) (h2 : p + n ≤ d.size) (hsz : d.size ≤ 1000) :
    Calls Try.prog 51 #[.slice (some ⟨b, 0, none⟩) d.size c, .int .i64 a, .int .i64 p, .int .i64 n, .func (.func 38) #[] #[.pointer (some ⟨cx, 0, none⟩)]] w fun e w' =>
      e = .returned (.tuple #[]) ∧ Srt w0 b N (swaps d a p n) w' := by
  have S0 := Lib.hid S
  clear S
  go_enter Try.func51, Try.ntmps51
  go_wp2
  go_loopw [10] (fun i wr => ∃ k : Nat, k ≤ n ∧ i = .int .i64 k ∧ Srt w0 b N (swaps d a p k) wr) (fun i _ => n - (intOf i).toNat)
  case atStart => exact ⟨0, Nat.zero_le _, rfl, S0.out⟩
  case round =>
    obtain ⟨k, hk, rfl, hrel⟩ := hrel
    have HR := Lib.hid hrel
    clear hrel S0
    by_cases hlt : k < n
    · have hkk : (k : Int) < n := by omega
      obtain ⟨iN, hiN⟩ : ∃ q, q = a + k := ⟨_, rfl⟩
      obtain ⟨jN, hjN⟩ : ∃ q, q = p + k := ⟨_, rfl⟩
      have eN := Lib.hid (And.intro hiN hjN)
      have hsw := swaps_size d a p k
      obtain ⟨x, hx⟩ : ∃ x, x = (swaps d a p k)[iN]! := ⟨_, rfl⟩
      obtain ⟨y, hy⟩ : ∃ y, y = (swaps d a p k)[jN]! := ⟨_, rfl⟩
      have ca := HR.out.cell iN (by omega)
      have cb := HR.out.cell jN (by omega)
      have fa := HR.out.free iN (by omega)
      have fb := HR.out.free jN (by omega)
      obtain ⟨u, cc⟩ := HR.out.two iN jN (by omega) (by omega) (.int .i64 (y : Nat))
      have S3 := Lib.hid (HR.out.swap iN jN (by omega) (by omega)).drew
      rw [← hx, ← hy] at S3
      rw [← hx] at ca
      rw [← hy] at cb
      have e1 : IntKind.i64.wrap ((a : Int) + k) = iN := by rw [IntKind.wrap_i64]; omega
      have e2 : IntKind.i64.wrap ((p : Int) + k) = jN := by rw [IntKind.wrap_i64]; omega
      have b1 : (iN : Int) < d.size := by omega
      have b2 : (jN : Int) < d.size := by omega
      clear hx hy hiN hjN hsw HR
      go_wp2_with fail
      go_region
      generalize ((wr.setCell ⟨b, iN, none⟩ (.int .i64 (y : Nat))).setCell ⟨b, jN, none⟩ (.int .i64 (x : Nat))).drew = w3 at S3 ⊢
      go_wp2
      go_roundw
      case rel => exact ⟨k + 1, by omega, by go_num, by rw [swaps, ← eN.out.1, ← eN.out.2]; exact S3.out⟩
      case measure => simp [intOf]; omega
    · have hk' : k = n := by omega
      subst hk'
      go_wp2
      go_end0
      exact ⟨rfl, HR.out⟩

/-- Two rows that lie side by side change places. -/
def rotf (d : Array Nat) (a m e x : Nat) : Nat := if a ≤ x ∧ x < a + (e - m) then d[x + (m - a)]! else if a + (e - m) ≤ x ∧ x < e then d[x - (e - m)]! else d[x]!
theorem rotf_1 {d : Array Nat} {a m e x : Nat} (h : a ≤ x ∧ x < a + (e - m)) : rotf d a m e x = d[x + (m - a)]! := if_pos h
theorem rotf_2 {d : Array Nat} {a m e x : Nat} (h : a + (e - m) ≤ x ∧ x < e) : rotf d a m e x = d[x - (e - m)]! := by rw [rotf, if_neg (by omega), if_pos h]
theorem rotf_3 {d : Array Nat} {a m e x : Nat} (h : x < a ∨ (a + (e - m) ≤ x ∧ e ≤ x)) : rotf d a m e x = d[x]! := by rw [rotf, if_neg (by omega), if_neg (by omega)]
theorem swaps_1 {d : Array Nat} {a c k x : Nat} (h1 : a + k ≤ c) (h2 : c + k ≤ d.size) (h : a ≤ x ∧ x < a + k) : (swaps d a c k)[x]! = d[x + c - a]! := by rw [swaps_at d a c k h1 h2, if_pos h]
theorem swaps_2 {d : Array Nat} {a c k x : Nat} (h1 : a + k ≤ c) (h2 : c + k ≤ d.size) (h : c ≤ x ∧ x < c + k) : (swaps d a c k)[x]! = d[x + a - c]! := by rw [swaps_at d a c k h1 h2, if_neg (by omega), if_pos h]
theorem swaps_3 {d : Array Nat} {a c k x : Nat} (h1 : a + k ≤ c) (h2 : c + k ≤ d.size) (h : ¬ (a ≤ x ∧ x < a + k) ∧ ¬ (c ≤ x ∧ x < c + k)) : (swaps d a c k)[x]! = d[x]! := by rw [swaps_at d a c k h1 h2, if_neg h.1, if_neg h.2]
theorem at_eq {d : Array Nat} {x y : Nat} (h : x = y) : d[x]! = d[y]! := by rw [h]

theorem rot_gt (d : Array Nat) (m i j x : Nat) (hi : i ≤ m) (hij : j < i) (hs : m + j ≤ d.size) : rotf d (m - i) m (m + j) x = rotf (swaps d (m - i) m j) (m - (i - j)) m (m + j) x := by
  have h1 : m - i + j ≤ m := by omega
  by_cases c1 : x < m - i
  · rw [rotf_3 (by omega), rotf_3 (by omega), swaps_3 h1 hs (by omega)]
  · by_cases c2 : x < m - i + j
    · rw [rotf_1 (by omega), rotf_3 (by omega), swaps_1 h1 hs (by omega)]; exact at_eq (by omega)
    · by_cases c3 : x < m - i + 2 * j
      · rw [rotf_2 (by omega), rotf_1 (by omega), swaps_2 h1 hs (by omega)]; exact at_eq (by omega)
      · by_cases c4 : x < m + j
        · rw [rotf_2 (by omega), rotf_2 (by omega), swaps_3 h1 hs (by omega)]
        · rw [rotf_3 (by omega), rotf_3 (by omega), swaps_3 h1 hs (by omega)]
theorem rot_lt (d : Array Nat) (m i j x : Nat) (hi : i ≤ m) (hij : i < j) (hs : m + j ≤ d.size) : rotf d (m - i) m (m + j) x = rotf (swaps d (m - i) (m + j - i) i) (m - i) m (m + (j - i)) x := by
  have h1 : m - i + i ≤ m + j - i := by omega
  have h2 : m + j - i + i ≤ d.size := by omega
  by_cases c1 : x < m - i
  · rw [rotf_3 (by omega), rotf_3 (by omega), swaps_3 h1 h2 (by omega)]
  · by_cases c2 : x < m - i + (j - i)
    · rw [rotf_1 (by omega), rotf_1 (by omega), swaps_3 h1 h2 (by omega)]
    · by_cases c3 : x < m + (j - i)
      · rw [rotf_1 (by omega), rotf_2 (by omega), swaps_1 h1 h2 (by omega)]; exact at_eq (by omega)
      · by_cases c4 : x < m + j
        · rw [rotf_2 (by omega), rotf_3 (by omega), swaps_2 h1 h2 (by omega)]; exact at_eq (by omega)
        · rw [rotf_3 (by omega), rotf_3 (by omega), swaps_3 h1 h2 (by omega)]
theorem rot_eq (d : Array Nat) (m i x : Nat) (hi : i ≤ m) (hs : m + i ≤ d.size) : rotf d (m - i) m (m + i) x = (swaps d (m - i) m i)[x]! := by
  have h1 : m - i + i ≤ m := by omega
  by_cases c1 : x < m - i
  · rw [rotf_3 (by omega), swaps_3 h1 hs (by omega)]
  · by_cases c2 : x < m
    · rw [rotf_1 (by omega), swaps_1 h1 hs (by omega)]; exact at_eq (by omega)
    · by_cases c3 : x < m + i
      · rw [rotf_2 (by omega), swaps_2 h1 hs (by omega)]; exact at_eq (by omega)
      · rw [rotf_3 (by omega), swaps_3 h1 hs (by omega)]

/-- The row has been turned about. -/
structure Rot (w0 : World) (b N : Nat) (d : Array Nat) (a m e : Nat) (d' : Array Nat) (W : World) : Prop where
  s : Srt w0 b N d' W
  perm : PermIn a e d d'
  at_ : ∀ x, rotf d a m e x = d'[x]!

set_option maxHeartbeats 1600000 in
theorem rotate_any (cx b N c a m e : Nat) (d : Array Nat) (w0 w : World) (S : Srt w0 b N d w) (h1 : a < m) (h2 : m < e) (h3 : e ≤ d.size) (hsz : d.size ≤ 1000) :
    Calls Try.prog 50 #[.slice (some ⟨b, 0, none⟩) d.size c, .int .i64 a, .int .i64 m, .int .i64 e, .func (.func 38) #[] #[.pointer (some ⟨cx, 0, none⟩)]] w fun en w' =>
      en = .returned (.tuple #[]) ∧ ∃ d', Rot w0 b N d a m e d' w' := by
  have S0 := Lib.hid S
  clear S
  go_enter Try.func50, Try.ntmps50
  go_wp2
  go_loopw [10, 11] (fun iv jv wr => ∃ (i j : Nat) (dk : Array Nat), iv = .int .i64 i ∧ jv = .int .i64 j ∧ 0 < i ∧ 0 < j ∧ i ≤ m - a ∧ j ≤ e - m ∧ dk.size = d.size ∧ Srt w0 b N dk wr ∧ PermIn a e d dk ∧ ∀ x, rotf d a m e x = rotf dk (m - i) m (m + j) x) (fun iv jv _ => (intOf iv).toNat + (intOf jv).toNat)
  case atStart => exact ⟨m - a, e - m, d, by go_num, by go_num, by omega, by omega, by omega, by omega, rfl, S0.out, permIn_refl _ _ _, fun x => by rw [show m - (m - a) = a by omega, show m + (e - m) = e by omega]⟩
  case round =>
    obtain ⟨i, j, dk, rfl, rfl, hi0, hj0, hi, hj, hds, hs, hp, ht⟩ := hrel
    have HS := Lib.hid hs
    have HP := Lib.hid hp
    have HT := Lib.hid ht
    clear hs hp ht S0
    by_cases hne : i = j
    · have hHe := Lib.hid hne
      have hnn : ((i : Int) != j) = false := by simp [hne]
      have e1 : IntKind.i64.wrap ((m : Int) - i) = ((m - i : Nat) : Int) := by rw [IntKind.wrap_i64]; omega
      have HC := Lib.hid (swapRange_any cx b N c (m - i) m i dk w0 wr HS.out (by omega) (by omega) (by omega))
      rw [hds] at HC
      obtain ⟨mi, hmi⟩ : ∃ q, q = m - i := ⟨_, rfl⟩
      have HM := Lib.hid hmi
      rw [← hmi] at e1 HC
      clear hne hmi
      go_wp2_with (go_at_call 51; (with_reducible refine HC.out.mono ?_); rintro en w' ⟨rfl, hS⟩; have HS2 := Lib.hid hS; clear hS)
      go_end0
      refine ⟨rfl, _, HS2.out, ?_, fun x => ?_⟩
      · refine permIn_trans _ _ _ _ _ HP.out ?_
        have := HM.out
        have := hHe.out
        exact swaps_perm dk mi m i a e (by omega) (by omega) (by omega) (by omega)
      · rw [HT.out x, HM.out, ← hHe.out]
        have := hHe.out
        exact rot_eq dk m i x (by omega) (by omega)
    · have hnn : ((i : Int) != j) = true := by simp; omega
      by_cases hgt : j < i
      · have hgt' : (j : Int) < i := by omega
        have e1 : IntKind.i64.wrap ((m : Int) - i) = ((m - i : Nat) : Int) := by rw [IntKind.wrap_i64]; omega
        have HC := Lib.hid (swapRange_any cx b N c (m - i) m j dk w0 wr HS.out (by omega) (by omega) (by omega))
        rw [hds] at HC
        obtain ⟨mi, hmi⟩ : ∃ q, q = m - i := ⟨_, rfl⟩
        have HM := Lib.hid hmi
        rw [← hmi] at e1 HC
        have hne' := Lib.hid hne
        clear hne hmi
        go_wp2_with (go_at_call 51; (with_reducible refine HC.out.mono ?_); rintro en w' ⟨rfl, hS⟩; have HS2 := Lib.hid hS; clear hS)
        go_roundw
        case rel =>
          refine ⟨i - j, j, _, by go_num, rfl, by omega, hj0, by omega, hj, ?_, HS2.out, ?_, fun x => ?_⟩
          · rw [swaps_size]; exact hds
          · refine permIn_trans _ _ _ _ _ HP.out ?_
            have := HM.out
            exact swaps_perm dk mi m j a e (by omega) (by omega) (by omega) (by omega)
          · rw [HT.out x, HM.out]
            exact rot_gt dk m i j x (by omega) hgt (by omega)
        case measure => simp [intOf]; omega
      · have hgt' : (i : Int) ≤ j := by omega
        have hij : i < j := by omega
        have e1 : IntKind.i64.wrap ((m : Int) - i) = ((m - i : Nat) : Int) := by rw [IntKind.wrap_i64]; omega
        have e2 : IntKind.i64.wrap ((m : Int) + j) = ((m + j : Nat) : Int) := by rw [IntKind.wrap_i64]; omega
        have e3 : IntKind.i64.wrap (((m + j : Nat) : Int) - i) = ((m + j - i : Nat) : Int) := by rw [IntKind.wrap_i64]; omega
        have HC := Lib.hid (swapRange_any cx b N c (m - i) (m + j - i) i dk w0 wr HS.out (by omega) (by omega) (by omega))
        rw [hds] at HC
        obtain ⟨mi, hmi⟩ : ∃ q, q = m - i := ⟨_, rfl⟩
        obtain ⟨mj, hmj⟩ : ∃ q, q = m + j := ⟨_, rfl⟩
        obtain ⟨mk, hmk⟩ : ∃ q, q = m + j - i := ⟨_, rfl⟩
        have HM := Lib.hid hmi
        have HK := Lib.hid hmk
        rw [← hmk] at e3 HC
        rw [← hmj] at e2 e3
        rw [← hmi] at e1 HC
        have hne' := Lib.hid hne
        clear hne hmi hmk hmj
        go_wp2_with (go_at_call 51; (with_reducible refine HC.out.mono ?_); rintro en w' ⟨rfl, hS⟩; have HS2 := Lib.hid hS; clear hS)
        go_roundw
        case rel =>
          refine ⟨i, j - i, _, rfl, by go_num, hi0, by omega, hi, by omega, ?_, HS2.out, ?_, fun x => ?_⟩
          · rw [swaps_size]; exact hds
          · refine permIn_trans _ _ _ _ _ HP.out ?_
            have := HM.out
            have := HK.out
            exact swaps_perm dk mi mk i a e (by omega) (by omega) (by omega) (by omega)
          · rw [HT.out x, HM.out, HK.out]
            exact rot_lt dk m i j x (by omega) hij (by omega)
        case measure => simp [intOf]; omega
end Go.Proofs.Ytccfbkbfmkdapaa
