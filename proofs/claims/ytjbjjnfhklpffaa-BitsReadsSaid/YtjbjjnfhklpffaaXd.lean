/-
  The walk of BitsReads: no bytes, a look of more than 32 bits.
-/
import Derived.Test.YtjbjjnfhklpffaaXa
namespace Go.Proofs.Ytjbjjnfhklpffaa
open Go.RowKit
set_option linter.unusedVariables false
set_option linter.unusedSimpArgs false

set_option maxRecDepth 100000 in
set_option maxHeartbeats 4000000 in
theorem reads0_big (a0 : Option Addr) (cb bc oc capc len : Nat) (K : Int) (f : Nat → CD) (w : World) (hK : 32 < K) (hA0 : a0 = none → cb = 0) (hll : len ≤ maxLen)
    (hcalls : CallsV w (some ⟨bc, oc, none⟩) len f) (hbc : len = 0 ∨ bc < w.heap.size) (hr : ∀ i, i < len → (f i).b.length ≤ 140737488351232) :
    Calls Try.prog 3 #[.slice a0 0 cb, .slice (some ⟨bc, oc, none⟩) len capc, .int .i64 K] w fun e w' => e = .returned (.bool true) ∧ Touch (U w.heap.size) w w' := by
  have hA := Lib.hid (alive_any w)
  have hK0 : 0 ≤ K := by omega
  have HSB : ∀ W : World, Hid (BySl W (.slice a0 0 cb) []) := fun W => empty_any W a0 cb hA0
  have HG := Lib.hid fun W (h : CallsV W (some ⟨bc, oc, none⟩) len f) => great_any a0 (some ⟨bc, oc, none⟩) 0 cb len capc f W h (Nat.zero_le _) hll hr
  have HA0 := Lib.hid hA0
  have HCALLS := Lib.hid hcalls
  have HBC := Lib.hid hbc
  clear hcalls hbc hr hll hA0
  go_enter Try.func3, Try.ntmps3
  go_wp2_with (go_at_call 7; refine hA.out.mono ?_; rintro e w1 ⟨rfl, ht1⟩)
  have hc1 := CallsV.touch HCALLS.out HBC.out ht1
  refine (HG.out w1 hc1).mono ?_
  rintro e w1' ⟨rfl, r, rfl, hr⟩
  cases r with
  | true =>
    go_wp2
    go_ret
    exact ⟨rfl, ht1⟩
  | false =>
    obtain ⟨_, hlen, _⟩ := hr rfl
    clear hr hc1
    go_wp2_with fail
    refine (copy_any (HSB w1).out (by simp)).mono ?_
    rintro e w2 ⟨a2, c2, rfl, hown2, hlow2, ht2⟩
    go_wp2_with fail
    refine (newReader_any (BySl.own hown2) Bs.nil (by simp)).mono ?_
    rintro e w3 ⟨pr, g3, rfl, ho3, ht3⟩
    have hOL := OwnLoop.start (Nat.le_trans ht1.size ht2.size) (ht1.trans (ht2.mono fun _ h => h.elim)) Bs.nil (own_base hown2 ht1.size) ho3 ht3
    have hR := hOL.rd
    clear hown2 hlow2 ht2 ho3 ht3 ht1 hOL HSB
    go_wp2_with fail
    refine wp_loop_rounds 1 ?_
    rw [rounds_succ]
    go_wp2_with fail
    go_loopw [10, 11, 12, 13, 14, 15, 16, 17, 18, 19, 20, 21] (fun at_v i _ _ _ _ _ _ _ _ _ _ wr => ∃ i0 : Nat, i0 ≤ len ∧ i = .int .i64 i0 ∧ at_v = .int .i64 0 ∧ RdB w.heap.size w wr pr [] 0) (fun _ i _ _ _ _ _ _ _ _ _ _ _ => len - (intOf i).toNat)
    case atStart => exact ⟨0, Nat.zero_le _, rfl, rfl, hR⟩
    case round =>
      clear hR
      obtain ⟨i, hi, rfl, rfl, hR⟩ := hrel
      by_cases hlt2 : i < len
      · obtain ⟨hcc, hbcl⟩ := CallsV.get HCALLS.out HBC.out i hlt2
        have c0 := hR.cell (A := ⟨bc, oc + i * 4, none⟩) (by simpa [Addr.add_lit] using hcc.c0) hbcl
        have c1 := hR.cell (A := ⟨bc, oc + i * 4 + 1, none⟩) (by simpa [Addr.add_lit] using hcc.c1) hbcl
        clear hcc hbcl
        by_cases hw0 : (f i).what = 0
        · rw [hw0] at c0
          clear hw0
          obtain ⟨z, hz⟩ : ∃ z, (f i).n = z := ⟨_, rfl⟩
          rw [hz] at c1
          clear hz
          by_cases q0 : z = 0
          · subst q0
            as_aux_lemma =>
              go_wp2_with fail
              refine hR.bits0.mono ?_
              rintro e w5 ⟨rfl, hR5⟩
              go_wp2_with fail
              refine (get0 _ _ 0 _ (by omega)).mono ?_
              rintro e w6 ⟨rfl, rfl⟩
              go_wp2_with fail
              refine hR5.at0.mono ?_
              rintro e wz ⟨rfl, rfl⟩
              go_wp2_with fail
              refine hR5.left0.mono ?_
              rintro e wz ⟨rfl, nqz, rfl⟩
              go_wp2_with fail
              refine (peek_no pr K _ (.inr hK)).mono ?_
              rintro e wz ⟨rfl, rfl⟩
              go_wp2_with fail
              go_roundw
              case rel => exact ⟨i + 1, by omega, by go_num, rfl, hR5.drewN nqz⟩
              case measure => simp [intOf]; omega
          · by_cases q1 : z < 0
            · have HNO : Hid (z < 0 ∨ 0 < z) := .inl q1
              as_aux_lemma =>
                go_wp2_with fail
                refine (hR.bits0_no z HNO.out).mono ?_
                rintro e w5 ⟨rfl, nq5, rfl⟩
                have hR5 := hR.drewN nq5
                generalize wr.drewN nq5 = w5 at hR5 ⊢
                go_wp2_with fail
                refine hR5.at0.mono ?_
                rintro e wz ⟨rfl, rfl⟩
                go_wp2_with fail
                refine hR5.left0.mono ?_
                rintro e wz ⟨rfl, nqz, rfl⟩
                go_wp2_with fail
                refine (peek_no pr K _ (.inr hK)).mono ?_
                rintro e wz ⟨rfl, rfl⟩
                go_wp2_with fail
                go_roundw
                case rel => exact ⟨i + 1, by omega, by go_num, rfl, hR5.drewN nqz⟩
                case measure => simp [intOf]; omega
            · have q1' : 0 < z := by omega
              have HNO : Hid (z < 0 ∨ 0 < z) := .inr q1'
              have q4 : 0 ≤ z := by omega
              by_cases q2 : 32 < z
              · as_aux_lemma =>
                  go_wp2_with fail
                  refine (hR.bits0_no z HNO.out).mono ?_
                  rintro e w5 ⟨rfl, nq5, rfl⟩
                  have hR5 := hR.drewN nq5
                  generalize wr.drewN nq5 = w5 at hR5 ⊢
                  go_wp2_with fail
                  refine hR5.at0.mono ?_
                  rintro e wz ⟨rfl, rfl⟩
                  go_wp2_with fail
                  refine hR5.left0.mono ?_
                  rintro e wz ⟨rfl, nqz, rfl⟩
                  go_wp2_with fail
                  refine (peek_no pr K _ (.inr hK)).mono ?_
                  rintro e wz ⟨rfl, rfl⟩
                  go_wp2_with fail
                  go_roundw
                  case rel => exact ⟨i + 1, by omega, by go_num, rfl, hR5.drewN nqz⟩
                  case measure => simp [intOf]; omega
              · have q2' : z ≤ 32 := by omega
                as_aux_lemma =>
                  go_wp2_with fail
                  refine (hR.bits0_no z HNO.out).mono ?_
                  rintro e w5 ⟨rfl, nq5, rfl⟩
                  have hR5 := hR.drewN nq5
                  generalize wr.drewN nq5 = w5 at hR5 ⊢
                  go_wp2_with fail
                  refine hR5.at0.mono ?_
                  rintro e wz ⟨rfl, rfl⟩
                  go_wp2_with fail
                  refine hR5.left0.mono ?_
                  rintro e wz ⟨rfl, nqz, rfl⟩
                  go_wp2_with fail
                  refine (peek_no pr K _ (.inr hK)).mono ?_
                  rintro e wz ⟨rfl, rfl⟩
                  go_wp2_with fail
                  go_roundw
                  case rel => exact ⟨i + 1, by omega, by go_num, rfl, hR5.drewN nqz⟩
                  case measure => simp [intOf]; omega
        · by_cases hw1 : (f i).what = 1
          · rw [hw1] at c0
            clear hw1 hw0
            obtain ⟨z, hz⟩ : ∃ z, (f i).n = z := ⟨_, rfl⟩
            rw [hz] at c1
            clear hz
            by_cases q0 : z = 0
            · subst q0
              as_aux_lemma =>
                go_wp2_with fail
                refine hR.skip0.mono ?_
                rintro e w5 ⟨rfl, hR5⟩
                go_wp2_with fail
                refine hR5.at0.mono ?_
                rintro e wz ⟨rfl, rfl⟩
                go_wp2_with fail
                refine hR5.left0.mono ?_
                rintro e wz ⟨rfl, nqz, rfl⟩
                go_wp2_with fail
                refine (peek_no pr K _ (.inr hK)).mono ?_
                rintro e wz ⟨rfl, rfl⟩
                go_wp2_with fail
                go_roundw
                case rel => exact ⟨i + 1, by omega, by go_num, rfl, hR5.drewN nqz⟩
                case measure => simp [intOf]; omega
            · by_cases q1 : z < 0
              · have HNO : Hid (z < 0 ∨ 0 < z) := .inl q1
                as_aux_lemma =>
                  go_wp2_with fail
                  refine (hR.skip0_no z HNO.out).mono ?_
                  rintro e w5 ⟨rfl, nq5, rfl⟩
                  have hR5 := hR.drewN nq5
                  generalize wr.drewN nq5 = w5 at hR5 ⊢
                  go_wp2_with fail
                  refine hR5.at0.mono ?_
                  rintro e wz ⟨rfl, rfl⟩
                  go_wp2_with fail
                  refine hR5.left0.mono ?_
                  rintro e wz ⟨rfl, nqz, rfl⟩
                  go_wp2_with fail
                  refine (peek_no pr K _ (.inr hK)).mono ?_
                  rintro e wz ⟨rfl, rfl⟩
                  go_wp2_with fail
                  go_roundw
                  case rel => exact ⟨i + 1, by omega, by go_num, rfl, hR5.drewN nqz⟩
                  case measure => simp [intOf]; omega
              · have q1' : 0 < z := by omega
                have HNO : Hid (z < 0 ∨ 0 < z) := .inr q1'
                have q4 : 0 ≤ z := by omega
                as_aux_lemma =>
                  go_wp2_with fail
                  refine (hR.skip0_no z HNO.out).mono ?_
                  rintro e w5 ⟨rfl, nq5, rfl⟩
                  have hR5 := hR.drewN nq5
                  generalize wr.drewN nq5 = w5 at hR5 ⊢
                  go_wp2_with fail
                  refine hR5.at0.mono ?_
                  rintro e wz ⟨rfl, rfl⟩
                  go_wp2_with fail
                  refine hR5.left0.mono ?_
                  rintro e wz ⟨rfl, nqz, rfl⟩
                  go_wp2_with fail
                  refine (peek_no pr K _ (.inr hK)).mono ?_
                  rintro e wz ⟨rfl, rfl⟩
                  go_wp2_with fail
                  go_roundw
                  case rel => exact ⟨i + 1, by omega, by go_num, rfl, hR5.drewN nqz⟩
                  case measure => simp [intOf]; omega
          · by_cases hw2 : (f i).what = 2
            · rw [hw2] at c0
              clear hw2 hw1 hw0
              as_aux_lemma =>
                go_wp2_with fail
                refine hR.align0.mono ?_
                rintro e w5 ⟨rfl, hR5⟩
                go_wp2_with fail
                refine hR5.at0.mono ?_
                rintro e wz ⟨rfl, rfl⟩
                go_wp2_with fail
                refine hR5.left0.mono ?_
                rintro e wz ⟨rfl, nqz, rfl⟩
                go_wp2_with fail
                refine (peek_no pr K _ (.inr hK)).mono ?_
                rintro e wz ⟨rfl, rfl⟩
                go_wp2_with fail
                go_roundw
                case rel => exact ⟨i + 1, by omega, by go_num, rfl, hR5.drewN nqz⟩
                case measure => simp [intOf]; omega
            · by_cases hw3 : (f i).what = 3
              · rw [hw3] at c0
                clear hw3 hw2 hw1 hw0
                obtain ⟨z, hz⟩ : ∃ z, (f i).n = z := ⟨_, rfl⟩
                rw [hz] at c1
                clear hz
                by_cases q0 : z = 0
                · subst q0
                  as_aux_lemma =>
                    go_wp2_with fail
                    refine hR.bytes0.mono ?_
                    rintro e w5 ⟨a5, c5, rfl, hown5, hR5⟩
                    have hx5 := BySl.own hown5
                    clear hown5
                    cases a0 with
                    | none =>
                      have hcb0 : cb = 0 := HA0.out rfl
                      subst hcb0
                      have HSU : Hid (BySl w5 (.slice none 0 0) []) := .inl ⟨rfl, rfl⟩
                      go_wp2_with fail
                      refine (same_any hx5 HSU.out (by simp)).mono ?_
                      rintro e w6 ⟨rfl, nq6, rfl⟩
                      have hR6 := hR5.drewN nq6
                      generalize w5.drewN nq6 = w6 at hR6 ⊢
                      go_wp2_with fail
                      refine hR6.at0.mono ?_
                      rintro e wz ⟨rfl, rfl⟩
                      go_wp2_with fail
                      refine hR6.left0.mono ?_
                      rintro e wz ⟨rfl, nqz, rfl⟩
                      go_wp2_with fail
                      refine (peek_no pr K _ (.inr hK)).mono ?_
                      rintro e wz ⟨rfl, rfl⟩
                      go_wp2_with fail
                      go_roundw
                      case rel => exact ⟨i + 1, by omega, by go_num, rfl, hR6.drewN nqz⟩
                      case measure => simp [intOf]; omega
                    | some x0 =>
                      by_cases hcap : cb = 0
                      · subst hcap
                        have HSU : Hid (BySl w5 (.slice (some x0) 0 0) []) := empty_sl w5 x0 0
                        go_wp2_with fail
                        refine (same_any hx5 HSU.out (by simp)).mono ?_
                        rintro e w6 ⟨rfl, nq6, rfl⟩
                        have hR6 := hR5.drewN nq6
                        generalize w5.drewN nq6 = w6 at hR6 ⊢
                        go_wp2_with fail
                        refine hR6.at0.mono ?_
                        rintro e wz ⟨rfl, rfl⟩
                        go_wp2_with fail
                        refine hR6.left0.mono ?_
                        rintro e wz ⟨rfl, nqz, rfl⟩
                        go_wp2_with fail
                        refine (peek_no pr K _ (.inr hK)).mono ?_
                        rintro e wz ⟨rfl, rfl⟩
                        go_wp2_with fail
                        go_roundw
                        case rel => exact ⟨i + 1, by omega, by go_num, rfl, hR6.drewN nqz⟩
                        case measure => simp [intOf]; omega
                      · have HSU : Hid (BySl w5 (.slice (some x0) 0 cb) []) := empty_sl w5 x0 cb
                        go_wp2_with fail
                        refine (same_any hx5 HSU.out (by simp)).mono ?_
                        rintro e w6 ⟨rfl, nq6, rfl⟩
                        have hR6 := hR5.drewN nq6
                        generalize w5.drewN nq6 = w6 at hR6 ⊢
                        go_wp2_with fail
                        refine hR6.at0.mono ?_
                        rintro e wz ⟨rfl, rfl⟩
                        go_wp2_with fail
                        refine hR6.left0.mono ?_
                        rintro e wz ⟨rfl, nqz, rfl⟩
                        go_wp2_with fail
                        refine (peek_no pr K _ (.inr hK)).mono ?_
                        rintro e wz ⟨rfl, rfl⟩
                        go_wp2_with fail
                        go_roundw
                        case rel => exact ⟨i + 1, by omega, by go_num, rfl, hR6.drewN nqz⟩
                        case measure => simp [intOf]; omega
                · by_cases q1 : z < 0
                  · have HNO : Hid (z < 0 ∨ 0 < z) := .inl q1
                    as_aux_lemma =>
                      go_wp2_with fail
                      refine (hR.bytes0_no z HNO.out).mono ?_
                      rintro e w5 ⟨rfl, rfl⟩
                      go_wp2_with fail
                      refine hR.at0.mono ?_
                      rintro e wz ⟨rfl, rfl⟩
                      go_wp2_with fail
                      refine hR.left0.mono ?_
                      rintro e wz ⟨rfl, nqz, rfl⟩
                      go_wp2_with fail
                      refine (peek_no pr K _ (.inr hK)).mono ?_
                      rintro e wz ⟨rfl, rfl⟩
                      go_wp2_with fail
                      go_roundw
                      case rel => exact ⟨i + 1, by omega, by go_num, rfl, hR.drewN nqz⟩
                      case measure => simp [intOf]; omega
                  · have q1' : 0 < z := by omega
                    have HNO : Hid (z < 0 ∨ 0 < z) := .inr q1'
                    have q4 : 0 ≤ z := by omega
                    as_aux_lemma =>
                      go_wp2_with fail
                      refine (hR.bytes0_no z HNO.out).mono ?_
                      rintro e w5 ⟨rfl, rfl⟩
                      go_wp2_with fail
                      refine hR.at0.mono ?_
                      rintro e wz ⟨rfl, rfl⟩
                      go_wp2_with fail
                      refine hR.left0.mono ?_
                      rintro e wz ⟨rfl, nqz, rfl⟩
                      go_wp2_with fail
                      refine (peek_no pr K _ (.inr hK)).mono ?_
                      rintro e wz ⟨rfl, rfl⟩
                      go_wp2_with fail
                      go_roundw
                      case rel => exact ⟨i + 1, by omega, by go_num, rfl, hR.drewN nqz⟩
                      case measure => simp [intOf]; omega
              · obtain ⟨z, hz⟩ : ∃ z, (f i).what = z := ⟨_, rfl⟩
                rw [hz] at c0 hw0 hw1 hw2 hw3
                clear hz
                as_aux_lemma =>
                  go_wp2_with fail
                  refine hR.at0.mono ?_
                  rintro e wz ⟨rfl, rfl⟩
                  go_wp2_with fail
                  refine hR.left0.mono ?_
                  rintro e wz ⟨rfl, nqz, rfl⟩
                  go_wp2_with fail
                  refine (peek_no pr K _ (.inr hK)).mono ?_
                  rintro e wz ⟨rfl, rfl⟩
                  go_wp2_with fail
                  go_roundw
                  case rel => exact ⟨i + 1, by omega, by go_num, rfl, hR.drewN nqz⟩
                  case measure => simp [intOf]; omega
      · have htt := hR.touch
        go_wp2
        go_ret
        exact ⟨rfl, htt⟩

end Go.Proofs.Ytjbjjnfhklpffaa
