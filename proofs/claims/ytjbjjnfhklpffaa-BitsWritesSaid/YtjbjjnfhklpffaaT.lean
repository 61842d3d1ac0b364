/-
  The contract of the law's guard, great.
-/
import Derived.Test.YtjbjjnfhklpffaaS
namespace Go.Proofs.Ytjbjjnfhklpffaa
open Go.RowKit

/-- What 'great' answers, and what it means where it says no. -/
def GreatSays (lb len : Nat) (f : Nat → CD) (w : World) (e : Ending) (w' : World) : Prop :=
  w = w' ∧ ∃ r : Bool, e = .returned (.bool r) ∧ (r = false → lb ≤ 1000 ∧ len ≤ 100 ∧ ∀ i, i < len → (f i).b.length ≤ 2000)

def sumB (f : Nat → CD) : Nat → Nat
  | 0 => 0
  | k + 1 => sumB f k + (f k).b.length

theorem sumB_le (f : Nat → CD) (k j : Nat) (h : j < k) : (f j).b.length ≤ sumB f k := by
  induction k with
  | zero => omega
  | succ k ih =>
    rw [sumB]
    by_cases hj : j < k
    · have := ih hj; omega
    · have : j = k := by omega
      subst this; omega

theorem BySl.shape {w : World} {v : Value} {xs : List Nat} (h : BySl w v xs) : ∃ a c, v = .slice a xs.length c := by
  rcases h with ⟨rfl, rfl⟩ | ⟨ad, c, rfl, _⟩
  · exact ⟨_, _, rfl⟩
  · exact ⟨_, _, rfl⟩

theorem great_any (ab ac : Option Addr) (lb cb len cap : Nat) (f : Nat → CD) (w : World) (h : CallsV w ac len f) (hb : lb ≤ maxLen) (hl : len ≤ maxLen) (hr : ∀ i, i < len → (f i).b.length ≤ 140737488351232) :
    Calls Try.prog 8 #[.slice ab lb cb, .slice ac len cap] w (GreatSays lb len f w) := by
  unfold maxLen at hb hl
  by_cases g1 : 1000 < lb
  · have d1 : decide ((1000 : Int) < (lb : Int)) = true := by simp; omega
    go_enter Try.func8, Try.ntmps8
    go_wp2
    go_ret
    exact ⟨rfl, true, rfl, fun h => by cases h⟩
  · by_cases g2 : 100 < len
    · have d1 : decide ((1000 : Int) < (lb : Int)) = false := by simp; omega
      have d2 : decide ((100 : Int) < (len : Int)) = true := by simp; omega
      go_enter Try.func8, Try.ntmps8
      go_wp2
      go_ret
      exact ⟨rfl, true, rfl, fun h => by cases h⟩
    · have d1 : decide ((1000 : Int) < (lb : Int)) = false := by simp; omega
      have d2 : decide ((100 : Int) < (len : Int)) = false := by simp; omega
      rcases h with rfl | ⟨b, off, rfl, hbl, hca⟩
      · go_enter Try.func8, Try.ntmps8
        go_wp2
        refine wp_loop_rounds 1 ?_
        rw [rounds_succ]
        go_wp2
        go_ret
        exact ⟨rfl, false, rfl, fun _ => ⟨by omega, by omega, fun i hi => absurd hi (by omega)⟩⟩
      · have HC := Lib.hid hca
        have HR := Lib.hid hr
        clear hca hr
        go_enter Try.func8, Try.ntmps8
        go_wp2
        go_loop [5, 6] (fun n i => ∃ k : Nat, k ≤ len ∧ i = .int .i64 k ∧ n = .int .i64 (sumB f k : Nat) ∧ sumB f k ≤ 2000) (fun _ i => len - (intOf i).toNat)
        case atStart => exact ⟨0, Nat.zero_le _, rfl, rfl, by simp [sumB]⟩
        case round =>
          obtain ⟨k, hk, rfl, rfl, hs⟩ := hrel
          by_cases hlt : k < len
          · have hcc := HC.out k hlt
            obtain ⟨av, cv, hsv⟩ := hcc.hs.shape
            have h3 := hcc.c3
            rw [hsv, Addr.add_lit] at h3
            have hrr := HR.out k hlt
            obtain ⟨L, hL⟩ : ∃ L, (f k).b.length = L := ⟨_, rfl⟩
            have hsum : sumB f (k + 1) = sumB f k + L := by rw [sumB, hL]
            rw [hL] at h3 hrr
            have HS := Lib.hid hsum
            have HSV := Lib.hid hsv
            clear hcc hsv hsum hL HSV
            by_cases hbig : 2000 < sumB f k + L
            · go_wp2
              go_ret
              exact ⟨rfl, true, rfl, fun h => by cases h⟩
            · go_wp2
              go_round
              case rel => exact ⟨k + 1, by omega, by go_num, by rw [HS.out]; simp, by rw [HS.out]; omega⟩
              case measure => simp [intOf]; omega
          · have hkl : k = len := by omega
            subst hkl
            have HS := Lib.hid hs
            go_wp2
            go_ret
            exact ⟨rfl, false, rfl, fun _ => ⟨by omega, by omega, fun i hi => Nat.le_trans (sumB_le f k i hi) HS.out⟩⟩
end Go.Proofs.Ytjbjjnfhklpffaa
