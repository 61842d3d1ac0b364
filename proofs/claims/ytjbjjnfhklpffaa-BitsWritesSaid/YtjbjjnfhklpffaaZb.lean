/-
  The walk of BitsWrites where no calls are told.
-/
import Derived.Test.YtjbjjnfhklpffaaYd
namespace Go.Proofs.Ytjbjjnfhklpffaa
open Go.RowKit

set_option maxRecDepth 100000 in
set_option maxHeartbeats 1000000 in
theorem writes_nocalls (ac : Option Addr) (capc : Nat) (v : Nat) (k : Int) (w : World) (hv : v < 4294967296) :
    Calls Try.prog 4 #[.slice ac 0 capc, .int .u32 v, .int .i64 k] w fun e w' => e = .returned (.bool true) ∧ Touch (U w.heap.size) w w' := by
  have hA := Lib.hid (alive_any w)
  have HG := Lib.hid fun W => great_any none ac 0 0 0 capc (fun _ => default) W (.inl rfl) (Nat.zero_le _) (Nat.zero_le _) (fun i hi => absurd hi (by omega))
  have HV := Lib.hid hv
  clear hv
  go_enter Try.func4, Try.ntmps4
  go_wp2_with (go_at_call 7; refine hA.out.mono ?_; rintro e w1 ⟨rfl, ht1⟩)
  refine (HG.out w1).mono ?_
  rintro e w1' ⟨rfl, r, rfl, hr⟩
  cases r with
  | true =>
    go_wp2
    go_ret
    exact ⟨rfl, ht1⟩
  | false =>
    clear hr
    go_wp2_with fail
    refine (newWriter_T ht1.size ht1).mono ?_
    rintro e w2 ⟨p, rfl, hW⟩
    have htt : Touch (U w.heap.size) w (w2.alloc (.cells #[.slice none 0 0] 46)) := by
      obtain ⟨_, _, h⟩ := hW; exact h.alloc _
    clear hW ht1
    by_cases hk : 0 ≤ k ∧ k ≤ 32
    · obtain ⟨K, hK⟩ := Int.eq_ofNat_of_zero_le hk.1
      subst hK
      have hK32 : K ≤ 32 := by omega
      obtain ⟨R, hR⟩ : ∃ R, rv K v = R := ⟨_, rfl⟩
      have HR := Lib.hid hR
      clear hR hk
      go_wp2_with fail
      refine wp_loop_rounds 1 ?_
      rw [rounds_succ]
      go_wp2_with fail
      refine (reverse_yes v K _ HV.out hK32).mono ?_
      rintro e w5 ⟨rfl, rfl⟩
      rw [HR.out]
      go_wp2_with fail
      refine (rrev_yes v K _ HV.out hK32).mono ?_
      rintro e w5 ⟨rfl, rfl⟩
      rw [HR.out]
      go_wp2_with fail
      go_ret
      exact ⟨by simp, htt⟩
    · have hk2 : k < 0 ∨ 32 < k := by omega
      have HK := Lib.hid hk2
      clear hk hk2
      go_wp2_with fail
      refine wp_loop_rounds 1 ?_
      rw [rounds_succ]
      go_wp2_with fail
      refine (reverse_no v k _ HK.out).mono ?_
      rintro e w5 ⟨rfl, rfl⟩
      go_wp2_with fail
      refine (rrev_no v k _ HK.out).mono ?_
      rintro e w5 ⟨rfl, rfl⟩
      go_wp2_with fail
      go_ret
      exact ⟨by simp, htt⟩
end Go.Proofs.Ytjbjjnfhklpffaa
