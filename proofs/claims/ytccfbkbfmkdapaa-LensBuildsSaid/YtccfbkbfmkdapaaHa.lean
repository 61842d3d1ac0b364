/-
  Contracts: spanOf, sameAt, longestAt.
-/
import Derived.Test.YtccfbkbfmkdapaaG
namespace Go.Proofs.Ytccfbkbfmkdapaa
open Go.RowKit

/-- How few lengths an item tells, how many. -/
def spl (s : Int) : Nat := if s = 16 then 3 else if s = 17 then 3 else if s = 18 then 11 else 1
def spm (s : Int) : Nat := if s = 16 then 6 else if s = 17 then 10 else if s = 18 then 138 else 1
theorem span_any (s : Int) (w : World) : Calls Try.prog 32 #[.int .i64 s] w fun e w' => e = .returned (.tuple #[.int .i64 (spl s : Nat), .int .i64 (spm s : Nat)]) ∧ w' = w := by
  by_cases h1 : s = 16
  · subst h1
    go_enter Try.func32, Try.ntmps32
    go_wp2
    go_ret2
    exact ⟨rfl, rfl⟩
  · have b1 : (s == 16) = false := by simp [h1]
    by_cases h2 : s = 17
    · subst h2
      go_enter Try.func32, Try.ntmps32
      go_wp2
      go_ret2
      exact ⟨rfl, rfl⟩
    · have b2 : (s == 17) = false := by simp [h2]
      by_cases h3 : s = 18
      · subst h3
        go_enter Try.func32, Try.ntmps32
        go_wp2
        go_ret2
        exact ⟨rfl, rfl⟩
      · have b3 : (s == 18) = false := by simp [h3]
        have e1 := Lib.hid (show spl s = 1 by simp [spl, h1, h2, h3])
        have e2 := Lib.hid (show spm s = 1 by simp [spm, h1, h2, h3])
        rw [e1.out, e2.out]
        clear h1 h2 h3
        go_enter Try.func32, Try.ntmps32
        go_wp2
        go_ret2
        exact ⟨rfl, rfl⟩

/-- How many at a row's head are x. -/
def cnt (x : Int) : List Int → Nat
  | [] => 0
  | y :: t => if y = x then cnt x t + 1 else 0
theorem cnt_le (x : Int) (l : List Int) : cnt x l ≤ l.length := by
  induction l with
  | nil => exact Nat.le_refl _
  | cons y t ih => rw [cnt]; split <;> simp <;> omega
theorem cnt_at {x : Int} {l : List Int} {i : Nat} (h : i < cnt x l) : l.getD i 0 = x := by
  induction l generalizing i with
  | nil => simp [cnt] at h
  | cons y t ih =>
    rw [cnt] at h
    split at h
    · next e =>
      cases i with
      | zero => simpa using e
      | succ i => rw [List.getD_cons_succ]; exact ih (by omega)
    · omega
theorem cnt_stop {x : Int} {l : List Int} (h : cnt x l < l.length) : l.getD (cnt x l) 0 ≠ x := by
  induction l with
  | nil => simp at h
  | cons y t ih =>
    rw [cnt] at h ⊢
    split at h
    · next e => rw [if_pos e, List.getD_cons_succ]; exact ih (by simpa using h)
    · next e => rw [if_neg e]; simpa using e
/-- How many lengths from a place on are the same. -/
def rl (zs : List Int) (a : Nat) : Nat := cnt (zs.getD a 0) (zs.drop a)
theorem getD_drop (zs : List Int) (a i : Nat) : (zs.drop a).getD i 0 = zs.getD (a + i) 0 := by simp [List.getD]
theorem rl_pos {zs : List Int} {a : Nat} (h : a < zs.length) : 1 ≤ rl zs a := by
  unfold rl
  rw [List.drop_eq_getElem_cons h, cnt, if_pos (by simp [List.getD, h])]
  omega
theorem rl_le (zs : List Int) (a : Nat) (h : a ≤ zs.length) : a + rl zs a ≤ zs.length := by
  have := cnt_le (zs.getD a 0) (zs.drop a)
  rw [List.length_drop] at this
  unfold rl
  omega
theorem rl_at {zs : List Int} {a i : Nat} (h : i < rl zs a) : zs.getD (a + i) 0 = zs.getD a 0 := by
  rw [← getD_drop]; exact cnt_at h
theorem rl_stop {zs : List Int} {a : Nat} (h : a + rl zs a < zs.length) : zs.getD (a + rl zs a) 0 ≠ zs.getD a 0 := by
  rw [← getD_drop]
  exact cnt_stop (by rw [List.length_drop]; unfold rl at h; omega)
/-- Where a walk along such a row stops. -/
theorem rl_end {zs : List Int} {a n m : Nat} (hn : n ≤ rl zs a) (hnm : n ≤ m) (ha : a ≤ zs.length) (hs : n = m ∨ zs.length ≤ a + n ∨ zs.getD (a + n) 0 ≠ zs.getD a 0) : n = min m (rl zs a) := by
  have h1 := rl_le zs a ha
  rcases hs with h | h | h
  · omega
  · omega
  · have : ¬ n < rl zs a := fun hlt => h (rl_at hlt)
    omega

set_option maxHeartbeats 4000000 in
theorem same_at (ao : Option Addr) (c a : Nat) (zs : List Int) (w : World) (h : IS w ao zs) (ha : a < zs.length) (hl : zs.length ≤ 1000) :
    Calls Try.prog 43 #[.slice ao zs.length c, .int .i64 a] w fun e w' => e = .returned (.int .i64 (min 138 (rl zs a) : Nat)) ∧ ∃ q, w' = w.drewN q := by
  have HI := Lib.hid h
  clear h
  obtain ⟨L, hL⟩ : ∃ L, L = zs.length := ⟨_, rfl⟩
  have HLN := Lib.hid hL
  rw [← hL] at ha hl ⊢
  clear hL
  have ha' : (a : Int) < L := by omega
  go_enter Try.func43, Try.ntmps43
  go_wp2
  go_loopw [5] (fun v wr => ∃ n q : Nat, v = .int .i64 n ∧ 1 ≤ n ∧ n ≤ rl zs a ∧ n ≤ 138 ∧ wr = w.drewN q) (fun v _ => 139 - (intOf v).toNat)
  case atStart => exact ⟨1, 0, rfl, Nat.le_refl _, rl_pos (by rw [← HLN.out]; exact ha), by omega, rfl⟩
  case round =>
    obtain ⟨n, q, rfl, hn1, hn, hn2, hw⟩ := hrel
    have HW := Lib.hid hw
    have HI2 : Hid (IS wr ao zs) := Lib.hid (by rw [hw]; exact HI.out.drewN q)
    clear hw
    have HNR := Lib.hid hn
    clear hn
    by_cases c1 : n < 138
    · have c1' : (n : Int) < 138 := by omega
      obtain ⟨m, hm⟩ : ∃ m, m = a + n := ⟨_, rfl⟩
      have HM := Lib.hid hm
      have e1 : IntKind.i64.wrap ((a : Int) + n) = m := by rw [IntKind.wrap_i64]; omega
      by_cases c2 : m < L
      · have c2' : (m : Int) < L := by omega
        obtain ⟨b1, o1, rfl, q1⟩ := HI2.out.at (k := m) (by rw [← HLN.out]; exact c2)
        obtain ⟨b2, o2, e2, q2⟩ := HI2.out.at (k := a) (by rw [← HLN.out]; exact ha)
        obtain ⟨rfl, rfl⟩ : b1 = b2 ∧ o1 = o2 := by simpa using e2
        clear e2
        obtain ⟨x, hx⟩ : ∃ x, x = zs.getD m 0 := ⟨_, rfl⟩
        obtain ⟨y, hy⟩ : ∃ y, y = zs.getD a 0 := ⟨_, rfl⟩
        have HXY := Lib.hid (And.intro hx hy)
        rw [← hx] at q1
        rw [← hy] at q2
        clear hx hy hm
        by_cases c3 : x = y
        · have c3' : (x == y) = true := by simp [c3]
          have HC3 := Lib.hid c3
          clear c3
          go_wp2
          go_quiet (fail)
          clear e1
          go_wp2
          go_roundw
          case rel =>
            refine ⟨n + 1, _, by go_num, by omega, ?_, by omega, by rw [HW.out, World.drewN_drewN]⟩
            have h1 := HNR.out
            rcases Nat.lt_or_ge n (rl zs a) with h2 | h2
            · exact h2
            · exfalso
              have h3 : n = rl zs a := by omega
              have h4 := rl_stop (zs := zs) (a := a) (by rw [← h3, ← HM.out, ← HLN.out]; exact c2)
              rw [← h3, ← HM.out, ← HXY.out.1, ← HXY.out.2] at h4
              exact h4 HC3.out
          case measure => simp [intOf]; omega
        · have c3' : (x == y) = false := by simp [c3]
          have HC3 := Lib.hid c3
          clear c3
          go_wp2
          go_quiet (fail)
          clear e1
          go_wp2
          go_ret
          refine ⟨ret_int (congrArg _ (rl_end HNR.out hn2 (by rw [← HLN.out]; omega) (.inr (.inr ?_)))), _, by rw [HW.out, World.drewN_drewN]⟩
          rw [← HM.out, ← HXY.out.1, ← HXY.out.2]
          exact HC3.out
      · have c2' : decide ((m : Int) < L) = false := decide_eq_false (by omega)
        have c2'' : (L : Int) ≤ m := by omega
        clear hm
        go_wp2
        go_quiet (fail)
        clear e1
        go_wp2
        go_ret
        exact ⟨ret_int (congrArg _ (rl_end HNR.out hn2 (by rw [← HLN.out]; omega) (.inr (.inl (by rw [← HM.out, ← HLN.out]; omega))))), _, by rw [HW.out, World.drewN_drewN]⟩
    · have c1' : decide ((n : Int) < 138) = false := decide_eq_false (by omega)
      have c1'' : (138 : Int) ≤ n := by omega
      go_wp2
      go_quiet (fail)
      go_wp2
      go_ret
      exact ⟨ret_int (congrArg _ (rl_end HNR.out hn2 (by rw [← HLN.out]; omega) (.inl (by omega)))), _, by rw [HW.out, World.drewN_drewN]⟩
end Go.Proofs.Ytccfbkbfmkdapaa
