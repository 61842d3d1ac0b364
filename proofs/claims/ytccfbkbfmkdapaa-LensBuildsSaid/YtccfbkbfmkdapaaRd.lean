/-
  Contract of the reference's Fault.
-/
import Derived.Test.YtccfbkbfmkdapaaRc
namespace Go.Proofs.Ytccfbkbfmkdapaa
open Go.RowKit

open Classical in
theorem berr_wrong {zs : List Int} {limit : Int} (h : Wrong zs limit) : berr zs limit = 11 := by unfold berr; rw [if_pos h]

set_option maxHeartbeats 4000000 in
set_option maxRecDepth 100000 in
theorem fault_any (ao : Option Addr) (c : Nat) (zs : List Int) (limit : Int) (w : World) (h : IS w ao zs) (hl : zs.length ≤ 1000) {n : Nat} (hn : n = zs.length) :
    Calls Try.prog 11 #[.slice ao n c, .int .i64 limit] w fun e w' => e = .returned (.int .i64 (berr zs limit)) ∧ Below w.heap.size w w' := by
  have HU := Lib.hid (rused_any ao c zs w h hl hn)
  obtain ⟨er, her⟩ : ∃ er, er = berr zs limit := ⟨_, rfl⟩
  have HE := Lib.hid her
  have HN := Lib.hid hn
  rw [← hn] at hl
  rw [← her]
  clear her h hn
  go_enter Try.func11, Try.ntmps11
  go_wp2_with fail
  with_reducible refine HU.out.mono ?_
  rintro e w1 (⟨hb, rfl, hb1⟩ | ⟨hb, ds, eo, ce, rfl, hd, hp, hi, hb1⟩)
  · have HB := Lib.hid hb1
    obtain rfl : er = 11 := by rw [HE.out]; exact berr_wrong (.inr (.inl hb))
    clear hb hb1 HE HU
    by_cases c1 : 320 < n
    · have d1 : decide ((320 : Int) < n) = true := decide_eq_true (by omega)
      go_wp2
      go_ret
      exact ⟨rfl, HB.out⟩
    · have d1 : decide ((320 : Int) < n) = false := decide_eq_false (by omega)
      go_wp2
      go_ret
      exact ⟨rfl, HB.out⟩
  · have HB := Lib.hid hb1
    have HD := Lib.hid (And.intro hb hp)
    clear hb hd hp hi hb1 HU
    by_cases c1 : 320 < n
    · have d1 : decide ((320 : Int) < n) = true := decide_eq_true (by omega)
      obtain rfl : er = 11 := by rw [HE.out]; exact berr_wrong (.inl (by rw [← HN.out]; exact c1))
      clear HE
      go_wp2
      go_ret
      exact ⟨rfl, HB.out⟩
    · have d1 : decide ((320 : Int) < n) = false := decide_eq_false (by omega)
      by_cases c2 : limit < 1
      · have d2 : decide (limit < 1) = true := decide_eq_true c2
        obtain rfl : er = 11 := by rw [HE.out]; exact berr_wrong (.inr (.inr (by unfold Bad; omega)))
        clear HE
        go_wp2
        go_ret
        exact ⟨rfl, HB.out⟩
      · have d2 : decide (limit < 1) = false := decide_eq_false c2
        by_cases c3 : 15 < limit
        · have d3 : decide ((15 : Int) < limit) = true := decide_eq_true c3
          obtain rfl : er = 11 := by rw [HE.out]; exact berr_wrong (.inr (.inr (by unfold Bad; omega)))
          clear HE
          go_wp2
          go_ret
          exact ⟨rfl, HB.out⟩
        · have d3 : decide ((15 : Int) < limit) = false := decide_eq_false c3
          obtain ⟨lim, rfl⟩ : ∃ lim : Nat, limit = lim := ⟨limit.toNat, by omega⟩
          have hw : ¬ Wrong zs lim := by
            unfold Wrong Bad
            rw [HD.out.1, ← HN.out]
            rintro (h | h | h)
            · omega
            · cases h
            · omega
          have hds : ds.length ≤ 1000 := by
            rw [HD.out.2.length_eq]
            refine Nat.le_trans (List.length_filter_le _ _) ?_
            rw [nat_len, ← HN.out]; omega
          have HER : Hid (er = if 2 ^ lim < ds.length then 14 else 0) := Lib.hid (by
            rw [HE.out]
            unfold berr
            rw [if_neg hw, Int.toNat_natCast, HD.out.2.length_eq])
          obtain ⟨L, hL⟩ : ∃ L, L = ds.length := ⟨_, rfl⟩
          rw [← hL] at HER hds ⊢
          clear hw HE HD hL
          go_upto_if 32 with fail
          obtain ⟨pw, hpw⟩ : ∃ pw, pw = 2 ^ lim := ⟨_, rfl⟩
          have hp2 : pw ≤ 32768 := by rw [hpw]; exact Nat.le_trans (Nat.pow_le_pow_right (by omega) (by omega)) (Nat.le_refl (2 ^ 15))
          have epw : wrap64 ((2 : Int) ^ lim) = pw := by
            rw [show (2 : Int) ^ lim = ((2 ^ lim : Nat) : Int) by simp, ← hpw]
            unfold wrap64
            omega
          rw [← hpw] at HER
          rw [epw]
          clear epw hpw
          by_cases hmany : pw < L
          · have hm' : (pw : Int) < L := by omega
            obtain rfl : er = 14 := by rw [HER.out, if_pos hmany]
            clear HER
            go_wp2
            go_ret
            exact ⟨rfl, HB.out⟩
          · have hm' : decide ((pw : Int) < L) = false := decide_eq_false (by omega)
            obtain rfl : er = 0 := by rw [HER.out, if_neg hmany]
            clear HER
            rw [hm']
            go_wp2
            go_ret
            exact ⟨rfl, HB.out⟩
end Go.Proofs.Ytccfbkbfmkdapaa
