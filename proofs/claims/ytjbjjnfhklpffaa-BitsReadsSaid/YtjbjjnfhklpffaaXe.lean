/-
  The walk of BitsReads where no calls are told.
-/
import Derived.Test.YtjbjjnfhklpffaaXa
namespace Go.Proofs.Ytjbjjnfhklpffaa
open Go.RowKit

set_option maxRecDepth 100000 in
set_option maxHeartbeats 1000000 in
theorem reads_nocalls (a0 ac : Option Addr) (cb capc : Nat) (K : Int) (bs : List Nat) (w : World) (hb : Bs bs) (hbl : bs.length ≤ maxLen)
    (hsb : BySl w (.slice a0 bs.length cb) bs) (hkB : 0 < bs.length → ∀ k, (Value.slice a0 bs.length cb).ownBlock = some k → k < w.heap.size) :
    Calls Try.prog 3 #[.slice a0 bs.length cb, .slice ac 0 capc, .int .i64 K] w fun e w' => e = .returned (.bool true) ∧ Touch (U w.heap.size) w w' := by
  have hA := Lib.hid (alive_any w)
  have HSB : ∀ W, Touch (U w.heap.size) w W → Hid (BySl W (.slice a0 bs.length cb) bs) := fun W ht => by
    by_cases h0 : bs.length = 0
    · have hx := List.eq_nil_of_length_eq_zero h0
      subst hx
      rcases hsb with h | ⟨ad, c, e, hc, _⟩
      · exact .inl h
      · exact .inr ⟨ad, c, e, hc, fun j u hu => by simp [u8s] at hu⟩
    · exact hsb.touch ht fun k hk hu => by have := hkB (by omega) k hk; unfold U at hu; omega
  have HG := Lib.hid fun W => great_any a0 ac bs.length cb 0 capc (fun _ => default) W (.inl rfl) hbl (Nat.zero_le _) (fun i hi => absurd hi (by omega))
  have HBS := Lib.hid hb
  clear hb hsb hkB hbl
  go_enter Try.func3, Try.ntmps3
  go_wp2_with (go_at_call 7; refine hA.out.mono ?_; rintro e w1 ⟨rfl, ht1⟩)
  refine (HG.out w1).mono ?_
  rintro e w1' ⟨rfl, r, rfl, hr⟩
  cases r with
  | true =>
    go_wp2
    go_ret
    exact ⟨rfl, ht1⟩
  | false =>
    obtain ⟨hl, _, _⟩ := hr rfl
    clear hr
    go_wp2_with fail
    refine (copy_any (HSB w1 ht1).out (by omega)).mono ?_
    rintro e w2 ⟨a2, c2, rfl, hown2, hlow2, ht2⟩
    go_wp2_with fail
    refine (newReader_any (BySl.own hown2) HBS.out (by omega)).mono ?_
    rintro e w3 ⟨pr, g3, rfl, ho3, ht3⟩
    have hOL := OwnLoop.start (Nat.le_trans ht1.size ht2.size) (ht1.trans (ht2.mono fun _ h => h.elim)) HBS.out (own_base hown2 ht1.size) ho3 ht3
    clear hown2 hlow2 ht2 ho3 ht3 ht1 HSB
    by_cases hpos : 0 < bs.length
    · obtain ⟨g0, rfl⟩ := hOL.form hpos
      go_wp2_with fail
      go_loopw [9] (fun i wr => ∃ k : Nat, k ≤ bs.length ∧ i = .int .i64 k ∧ OwnLoop w.heap.size w wr pr bs (.slice (some ⟨g0, 0, none⟩) bs.length c2)) (fun i _ => bs.length - (intOf i).toNat)
      case atStart => exact ⟨0, Nat.zero_le _, rfl, hOL⟩
      case round =>
        clear hOL
        obtain ⟨k, hk, rfl, hOL⟩ := hrel
        by_cases hlt : k < bs.length
        · obtain ⟨y, hy, hcy, hfy⟩ := hOL.cell k hlt
          have HST := Lib.hid (hOL.store k ((y + 1) % 256) (Nat.mod_lt _ (by omega)) (u := ((y : Int) + 1) % 256) (by omega))
          clear hOL
          go_wp2
          go_roundw
          case rel => exact ⟨k + 1, by omega, by go_num, HST.out⟩
          case measure => simp [intOf]; omega
        · have hR := hOL.rd
          clear hOL
          go_wp2_with fail
          refine wp_loop_rounds 1 ?_
          rw [rounds_succ]
          go_wp2
          go_ret
          exact ⟨rfl, hR.touch⟩
    · have hx : bs = [] := List.eq_nil_of_length_eq_zero (by omega)
      subst hx
      have hR := hOL.rd
      clear hOL
      go_wp2_with fail
      refine wp_loop_rounds 1 ?_
      rw [rounds_succ]
      go_wp2_with fail
      refine wp_loop_rounds 1 ?_
      rw [rounds_succ]
      go_wp2
      go_ret
      exact ⟨rfl, hR.touch⟩

end Go.Proofs.Ytjbjjnfhklpffaa
