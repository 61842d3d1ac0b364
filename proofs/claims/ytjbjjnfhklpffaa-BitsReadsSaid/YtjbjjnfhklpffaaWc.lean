/-
  The walk of BitsReads: bytes that are not empty, a look of fewer than 0 bits.
-/
import Derived.Test.YtjbjjnfhklpffaaWa
namespace Go.Proofs.Ytjbjjnfhklpffaa
open Go.RowKit
set_option linter.unusedVariables false
set_option linter.unusedSimpArgs false

set_option maxRecDepth 100000 in
set_option maxHeartbeats 4000000 in
theorem reads_neg (b0 o0 cb bc oc capc len : Nat) (K : Int) (bs : List Nat) (f : Nat → CD) (w : World) (hK : K < 0) (hb : Bs bs) (hpos : 0 < bs.length) (hcb : bs.length ≤ cb) (hbl : bs.length ≤ maxLen) (hll : len ≤ maxLen)
    (hc : ∀ j, j < bs.length → w.cell? ⟨b0, o0 + j, none⟩ = some (.int .u8 (byt bs j))) (hcalls : CallsV w (some ⟨bc, oc, none⟩) len f) (hbc : len = 0 ∨ bc < w.heap.size) (hr : ∀ i, i < len → (f i).b.length ≤ 140737488351232) :
    Calls Try.prog 3 #[.slice (some ⟨b0, o0, none⟩) bs.length cb, .slice (some ⟨bc, oc, none⟩) len capc, .int .i64 K] w fun e w' => e = .returned (.bool true) ∧ Touch (U w.heap.size) w w' := by
  have hA := Lib.hid (alive_any w)
  have HSB : Hid (BySl w (.slice (some ⟨b0, o0, none⟩) bs.length cb) bs) := arg_bysl hcb hc
  have hkB : ∀ k, (Value.slice (some ⟨b0, o0, none⟩) bs.length cb).ownBlock = some k → k < w.heap.size := fun k hk => by
    simp [Value.ownBlock] at hk; subst hk; exact World.block_lt_of_cell? w _ (hc 0 hpos)
  have HG := Lib.hid fun W (h : CallsV W (some ⟨bc, oc, none⟩) len f) => great_any (some ⟨b0, o0, none⟩) (some ⟨bc, oc, none⟩) bs.length cb len capc f W h hbl hll hr
  have HKB := Lib.hid hkB
  have HBS := Lib.hid hb
  have HC := Lib.hid hc
  have HCALLS := Lib.hid hcalls
  have HBC := Lib.hid hbc
  clear hb hc hcalls hbc hr hkB hbl hll
  go_enter Try.func3, Try.ntmps3
  go_wp2_with (go_at_call 7; refine hA.out.mono ?_; rintro e w1 ⟨rfl, ht1⟩)
  have hc1 := CallsV.touch HCALLS.out HBC.out ht1
  refine (HG.out w1 hc1).mono ?_
  rintro e w1' ⟨rfl, r, rfl, hr⟩
  cases r with
  | true =>
    go_wp2
    go_ret
    exact ⟨rfl, ht1⟩
  | false =>
    obtain ⟨hl, hlen, _⟩ := hr rfl
    clear hr hc1
    go_wp2_with fail
    refine (copy_any (HSB.out.touch ht1 fun k hk hu => by have := HKB.out k hk; unfold U at hu; omega) (by omega)).mono ?_
    rintro e w2 ⟨a2, c2, rfl, hown2, hlow2, ht2⟩
    go_wp2_with fail
    refine (newReader_any (BySl.own hown2) HBS.out (by omega)).mono ?_
    rintro e w3 ⟨pr, g3, rfl, ho3, ht3⟩
    have hOL := OwnLoop.start (Nat.le_trans ht1.size ht2.size) (ht1.trans (ht2.mono fun _ h => h.elim)) HBS.out (own_base hown2 ht1.size) ho3 ht3
    clear hown2 hlow2 ht2 ho3 ht3 ht1
    obtain ⟨g0, rfl⟩ := hOL.form hpos
    go_wp2_with fail
    go_loopw [9] (fun i wr => ∃ k : Nat, k ≤ bs.length ∧ i = .int .i64 k ∧ OwnLoop w.heap.size w wr pr bs (.slice (some ⟨g0, 0, none⟩) bs.length c2)) (fun i _ => bs.length - (intOf i).toNat)
    case atStart => exact ⟨0, Nat.zero_le _, rfl, hOL⟩
    case round =>
      clear hOL
      obtain ⟨k, hk, rfl, hOL⟩ := hrel
      by_cases hlt : k < bs.length
      · obtain ⟨y, hy, hcy, hfy⟩ := hOL.cell k hlt
        have HST := Lib.hid (hOL.store k ((y + 1) % 256) (Nat.mod_lt _ (by omega)) (u := ((y : Int) + 1) % 256) (by omega))
        clear hOL
        go_wp2
        go_roundw
        case rel => exact ⟨k + 1, by omega, by go_num, HST.out⟩
        case measure => simp [intOf]; omega
      · have hR := hOL.rd
        clear hOL
        go_wp2_with fail
        go_loopw [10, 11, 12, 13, 14, 15, 16, 17, 18, 19, 20, 21] (fun at_v i _ _ _ _ _ _ _ _ _ _ wr => ∃ i0 at0 : Nat, i0 ≤ len ∧ i = .int .i64 i0 ∧ at_v = .int .i64 at0 ∧ at0 ≤ 8 * bs.length ∧ RdB w.heap.size w wr pr bs at0) (fun _ i _ _ _ _ _ _ _ _ _ _ _ => len - (intOf i).toNat)
        case atStart => exact ⟨0, 0, Nat.zero_le _, rfl, rfl, by omega, hR⟩
        case round =>
          clear hR
          obtain ⟨i, at_, hi, rfl, rfl, ha, hR⟩ := hrel
          have hkB := HKB.out
          by_cases hlt2 : i < len
          · obtain ⟨hcc, hbcl⟩ := CallsV.get HCALLS.out HBC.out i hlt2
            have c0 := hR.cell (A := ⟨bc, oc + i * 4, none⟩) (by simpa [Addr.add_lit] using hcc.c0) hbcl
            have c1 := hR.cell (A := ⟨bc, oc + i * 4 + 1, none⟩) (by simpa [Addr.add_lit] using hcc.c1) hbcl
            clear hcc hbcl
            by_cases hw0 : (f i).what = 0
            · rw [hw0] at c0
              clear hw0
              by_cases hy : 0 ≤ (f i).n ∧ (f i).n ≤ 32 ∧ (f i).n ≤ 8 * (bs.length : Int) - (at_ : Int)
              · as_aux_lemma =>
                  obtain ⟨N, hN⟩ := Int.eq_ofNat_of_zero_le hy.1
                  rw [hN] at c1 hy
                  obtain ⟨at2, hat2⟩ : ∃ a, at_ + N = a := ⟨_, rfl⟩
                  have e2 : ((at_ : Int) + (N : Int)) = (at2 : Int) := by omega
                  have hat3 : at2 ≤ 8 * bs.length := by omega
                  have hN32 : N ≤ 32 := by omega
                  have hNl : (N : Int) ≤ 8 * (bs.length : Int) - (at_ : Int) := by omega
                  obtain ⟨V, hV⟩ : ∃ V, pk bs at_ N = V := ⟨_, rfl⟩
                  have HV := Lib.hid hV
                  have HE := Lib.hid hat2
                  clear hN hy hat2 hV
                  go_wp2_with fail
                  refine (hR.bits (by omega) N V hN32 (by have := HE.out; omega) HV.out).mono ?_
                  rintro e w5 ⟨rfl, hR5⟩
                  rw [HE.out] at hR5
                  go_wp2_with fail
                  refine (get_any (hR5.arg HSB.out hkB) HBS.out hl at_ N hN32 (by omega) V HV.out).mono ?_
                  rintro e w6 ⟨rfl, rfl⟩
                  go_wp2_with fail
                  refine hR5.at.mono ?_
                  rintro e wz ⟨rfl, rfl⟩
                  go_wp2_with fail
                  refine (hR5.left (by omega) (by omega)).mono ?_
                  rintro e wz ⟨rfl, nqz, rfl⟩
                  go_wp2_with fail
                  refine (peek_no pr K _ (.inl hK)).mono ?_
                  rintro e wz ⟨rfl, rfl⟩
                  go_wp2_with fail
                  go_roundw
                  case rel => exact ⟨i + 1, at2, by omega, by go_num, rfl, by omega, hR5.drewN nqz⟩
                  case measure => simp [intOf]; omega
              · have HNO := Lib.hid (show (f i).n < 0 ∨ 32 < (f i).n ∨ 8 * (bs.length : Int) - (at_ : Int) < (f i).n by omega)
                obtain ⟨z, hz⟩ : ∃ z, (f i).n = z := ⟨_, rfl⟩
                rw [hz] at c1 HNO hy
                clear hz
                by_cases q1 : z < 0
                · clear hy
                  as_aux_lemma =>
                    go_wp2_with fail
                    refine (hR.bits_no (by omega) ha z HNO.out).mono ?_
                    rintro e w5 ⟨rfl, nq5, rfl⟩
                    have hR5 := hR.drewN nq5
                    generalize wr.drewN nq5 = w5 at hR5 ⊢
                    go_wp2_with fail
                    refine hR5.at.mono ?_
                    rintro e wz ⟨rfl, rfl⟩
                    go_wp2_with fail
                    refine (hR5.left (by omega) (by omega)).mono ?_
                    rintro e wz ⟨rfl, nqz, rfl⟩
                    go_wp2_with fail
                    refine (peek_no pr K _ (.inl hK)).mono ?_
                    rintro e wz ⟨rfl, rfl⟩
                    go_wp2_with fail
                    go_roundw
                    case rel => exact ⟨i + 1, at_, by omega, by go_num, rfl, by omega, hR5.drewN nqz⟩
                    case measure => simp [intOf]; omega
                · have q1' : 0 ≤ z := by omega
                  by_cases q2 : 32 < z
                  · clear hy q1
                    as_aux_lemma =>
                      go_wp2_with fail
                      refine (hR.bits_no (by omega) ha z HNO.out).mono ?_
                      rintro e w5 ⟨rfl, nq5, rfl⟩
                      have hR5 := hR.drewN nq5
                      generalize wr.drewN nq5 = w5 at hR5 ⊢
                      go_wp2_with fail
                      refine hR5.at.mono ?_
                      rintro e wz ⟨rfl, rfl⟩
                      go_wp2_with fail
                      refine (hR5.left (by omega) (by omega)).mono ?_
                      rintro e wz ⟨rfl, nqz, rfl⟩
                      go_wp2_with fail
                      refine (peek_no pr K _ (.inl hK)).mono ?_
                      rintro e wz ⟨rfl, rfl⟩
                      go_wp2_with fail
                      go_roundw
                      case rel => exact ⟨i + 1, at_, by omega, by go_num, rfl, by omega, hR5.drewN nqz⟩
                      case measure => simp [intOf]; omega
                  · have q2' : z ≤ 32 := by omega
                    have q3 : 8 * (bs.length : Int) - (at_ : Int) < z := by omega
                    clear hy q1 q2
                    as_aux_lemma =>
                      go_wp2_with fail
                      refine (hR.bits_no (by omega) ha z HNO.out).mono ?_
                      rintro e w5 ⟨rfl, nq5, rfl⟩
                      have hR5 := hR.drewN nq5
                      generalize wr.drewN nq5 = w5 at hR5 ⊢
                      go_wp2_with fail
                      refine hR5.at.mono ?_
                      rintro e wz ⟨rfl, rfl⟩
                      go_wp2_with fail
                      refine (hR5.left (by omega) (by omega)).mono ?_
                      rintro e wz ⟨rfl, nqz, rfl⟩
                      go_wp2_with fail
                      refine (peek_no pr K _ (.inl hK)).mono ?_
                      rintro e wz ⟨rfl, rfl⟩
                      go_wp2_with fail
                      go_roundw
                      case rel => exact ⟨i + 1, at_, by omega, by go_num, rfl, by omega, hR5.drewN nqz⟩
                      case measure => simp [intOf]; omega
            · by_cases hw1 : (f i).what = 1
              · rw [hw1] at c0
                clear hw1 hw0
                by_cases hy : 0 ≤ (f i).n ∧ (f i).n ≤ 8 * (bs.length : Int) - (at_ : Int)
                · as_aux_lemma =>
                    obtain ⟨N, hN⟩ := Int.eq_ofNat_of_zero_le hy.1
                    rw [hN] at c1 hy
                    obtain ⟨at2, hat2⟩ : ∃ a, at_ + N = a := ⟨_, rfl⟩
                    have e2 : ((at_ : Int) + (N : Int)) = (at2 : Int) := by omega
                    have hat3 : at2 ≤ 8 * bs.length := by omega
                    have hNl : (N : Int) ≤ 8 * (bs.length : Int) - (at_ : Int) := by omega
                    have HE := Lib.hid hat2
                    clear hN hy hat2
                    go_wp2_with fail
                    refine (hR.skip (by omega) N (by have := HE.out; omega)).mono ?_
                    rintro e w5 ⟨rfl, hR5⟩
                    rw [HE.out] at hR5
                    go_wp2_with fail
                    refine hR5.at.mono ?_
                    rintro e wz ⟨rfl, rfl⟩
                    go_wp2_with fail
                    refine (hR5.left (by omega) (by omega)).mono ?_
                    rintro e wz ⟨rfl, nqz, rfl⟩
                    go_wp2_with fail
                    refine (peek_no pr K _ (.inl hK)).mono ?_
                    rintro e wz ⟨rfl, rfl⟩
                    go_wp2_with fail
                    go_roundw
                    case rel => exact ⟨i + 1, at2, by omega, by go_num, rfl, by omega, hR5.drewN nqz⟩
                    case measure => simp [intOf]; omega
                · have HNO := Lib.hid (show (f i).n < 0 ∨ 8 * (bs.length : Int) - (at_ : Int) < (f i).n by omega)
                  obtain ⟨z, hz⟩ : ∃ z, (f i).n = z := ⟨_, rfl⟩
                  rw [hz] at c1 HNO hy
                  clear hz
                  by_cases q1 : z < 0
                  · clear hy
                    as_aux_lemma =>
                      go_wp2_with fail
                      refine (hR.skip_no (by omega) ha z HNO.out).mono ?_
                      rintro e w5 ⟨rfl, nq5, rfl⟩
                      have hR5 := hR.drewN nq5
                      generalize wr.drewN nq5 = w5 at hR5 ⊢
                      go_wp2_with fail
                      refine hR5.at.mono ?_
                      rintro e wz ⟨rfl, rfl⟩
                      go_wp2_with fail
                      refine (hR5.left (by omega) (by omega)).mono ?_
                      rintro e wz ⟨rfl, nqz, rfl⟩
                      go_wp2_with fail
                      refine (peek_no pr K _ (.inl hK)).mono ?_
                      rintro e wz ⟨rfl, rfl⟩
                      go_wp2_with fail
                      go_roundw
                      case rel => exact ⟨i + 1, at_, by omega, by go_num, rfl, by omega, hR5.drewN nqz⟩
                      case measure => simp [intOf]; omega
                  · have q1' : 0 ≤ z := by omega
                    have q3 : 8 * (bs.length : Int) - (at_ : Int) < z := by omega
                    clear hy q1
                    as_aux_lemma =>
                      go_wp2_with fail
                      refine (hR.skip_no (by omega) ha z HNO.out).mono ?_
                      rintro e w5 ⟨rfl, nq5, rfl⟩
                      have hR5 := hR.drewN nq5
                      generalize wr.drewN nq5 = w5 at hR5 ⊢
                      go_wp2_with fail
                      refine hR5.at.mono ?_
                      rintro e wz ⟨rfl, rfl⟩
                      go_wp2_with fail
                      refine (hR5.left (by omega) (by omega)).mono ?_
                      rintro e wz ⟨rfl, nqz, rfl⟩
                      go_wp2_with fail
                      refine (peek_no pr K _ (.inl hK)).mono ?_
                      rintro e wz ⟨rfl, rfl⟩
                      go_wp2_with fail
                      go_roundw
                      case rel => exact ⟨i + 1, at_, by omega, by go_num, rfl, by omega, hR5.drewN nqz⟩
                      case measure => simp [intOf]; omega
              · by_cases hw2 : (f i).what = 2
                · rw [hw2] at c0
                  clear hw2 hw1 hw0
                  as_aux_lemma =>
                    obtain ⟨at2, hat2⟩ : ∃ a, up8 at_ = a := ⟨_, rfl⟩
                    have e2 : (((at_ : Int) + 7) / 8 * 8) = (at2 : Int) := by rw [← hat2]; unfold up8; omega
                    have hat3 : at2 ≤ 8 * bs.length := by rw [← hat2]; unfold up8; omega
                    have HE := Lib.hid hat2
                    clear hat2
                    go_wp2_with fail
                    refine (hR.align (by omega)).mono ?_
                    rintro e w5 ⟨rfl, hR5⟩
                    rw [HE.out] at hR5
                    go_wp2_with fail
                    refine hR5.at.mono ?_
                    rintro e wz ⟨rfl, rfl⟩
                    go_wp2_with fail
                    refine (hR5.left (by omega) (by omega)).mono ?_
                    rintro e wz ⟨rfl, nqz, rfl⟩
                    go_wp2_with fail
                    refine (peek_no pr K _ (.inl hK)).mono ?_
                    rintro e wz ⟨rfl, rfl⟩
                    go_wp2_with fail
                    go_roundw
                    case rel => exact ⟨i + 1, at2, by omega, by go_num, rfl, by omega, hR5.drewN nqz⟩
                    case measure => simp [intOf]; omega
                · by_cases hw3 : (f i).what = 3
                  · rw [hw3] at c0
                    clear hw3 hw2 hw1 hw0
                    by_cases hy : 0 ≤ (f i).n ∧ (f i).n ≤ (bs.length : Int) - ((at_ : Int) + 7) / 8
                    · as_aux_lemma =>
                        obtain ⟨N, hN⟩ := Int.eq_ofNat_of_zero_le hy.1
                        rw [hN] at c1 hy
                        obtain ⟨fr, hfr⟩ : ∃ a, (at_ + 7) / 8 = a := ⟨_, rfl⟩
                        have e1 : (((at_ : Int) + 7) / 8) = (fr : Int) := by omega
                        obtain ⟨at2, hat2⟩ : ∃ a, (fr + N) * 8 = a := ⟨_, rfl⟩
                        have e2 : (8 * ((fr : Int) + (N : Int))) = (at2 : Int) := by omega
                        have hat3 : at2 ≤ 8 * bs.length := by omega
                        have hNl : (N : Int) ≤ (bs.length : Int) - (fr : Int) := by omega
                        have hfl : fr + N ≤ bs.length := by omega
                        obtain ⟨xs, hxs⟩ : ∃ xs, (bs.drop fr).take N = xs := ⟨_, rfl⟩
                        have hxl : xs.length = N := by rw [← hxs, List.length_take, List.length_drop]; omega
                        have HXL := Lib.hid hxl
                        have HF := Lib.hid hfr
                        have HE := Lib.hid hat2
                        have HX := Lib.hid hxs
                        clear hN hy hat2 hfr hxs hxl
                        go_wp2_with fail
                        refine (hR.bytes (by omega) ha N at2 xs (by rw [HF.out]; exact hfl) (by rw [HF.out]; exact HE.out) (by rw [HF.out]; exact HX.out)).mono ?_
                        rintro e w5 ⟨a5, c5, rfl, hown5, hR5⟩
                        have hx5 := BySl.own hown5
                        clear hown5
                        by_cases hcap : cb = fr
                        · have hN0 : N = 0 := by omega
                          subst hcap
                          have HSU : Hid (BySl w5 (.slice (some ⟨b0, o0, none⟩) N 0) xs) := cut_zero hN0 HXL.out
                          clear hN0
                          go_wp2_with fail
                          refine (same_any hx5 HSU.out (by rw [HXL.out]; omega)).mono ?_
                          rintro e w6 ⟨rfl, nq6, rfl⟩
                          have hR6 := hR5.drewN nq6
                          generalize w5.drewN nq6 = w6 at hR6 ⊢
                          go_wp2_with fail
                          refine hR6.at.mono ?_
                          rintro e wz ⟨rfl, rfl⟩
                          go_wp2_with fail
                          refine (hR6.left (by omega) (by omega)).mono ?_
                          rintro e wz ⟨rfl, nqz, rfl⟩
                          go_wp2_with fail
                          refine (peek_no pr K _ (.inl hK)).mono ?_
                          rintro e wz ⟨rfl, rfl⟩
                          go_wp2_with fail
                          go_roundw
                          case rel => exact ⟨i + 1, at2, by omega, by go_num, rfl, by omega, hR6.drewN nqz⟩
                          case measure => simp [intOf]; omega
                        · have hcap' : fr < cb := by omega
                          have HSU : Hid (BySl w5 (.slice (some ⟨b0, o0 + fr, none⟩) N (cb - fr)) xs) := (cut_arg HC.out hfl (by omega) HX.out).touch hR5.touch (fun k hk hu => by
                            simp [Value.ownBlock] at hk; subst hk; have := HKB.out b0 (by simp [Value.ownBlock]); unfold U at hu; omega)
                          go_wp2_with fail
                          refine (same_any hx5 HSU.out (by rw [HXL.out]; omega)).mono ?_
                          rintro e w6 ⟨rfl, nq6, rfl⟩
                          have hR6 := hR5.drewN nq6
                          generalize w5.drewN nq6 = w6 at hR6 ⊢
                          go_wp2_with fail
                          refine hR6.at.mono ?_
                          rintro e wz ⟨rfl, rfl⟩
                          go_wp2_with fail
                          refine (hR6.left (by omega) (by omega)).mono ?_
                          rintro e wz ⟨rfl, nqz, rfl⟩
                          go_wp2_with fail
                          refine (peek_no pr K _ (.inl hK)).mono ?_
                          rintro e wz ⟨rfl, rfl⟩
                          go_wp2_with fail
                          go_roundw
                          case rel => exact ⟨i + 1, at2, by omega, by go_num, rfl, by omega, hR6.drewN nqz⟩
                          case measure => simp [intOf]; omega
                    · have HNO := Lib.hid (show (f i).n < 0 ∨ (bs.length : Int) - ((at_ : Int) + 7) / 8 < (f i).n by omega)
                      obtain ⟨z, hz⟩ : ∃ z, (f i).n = z := ⟨_, rfl⟩
                      rw [hz] at c1 HNO hy
                      clear hz
                      by_cases q1 : z < 0
                      · clear hy
                        as_aux_lemma =>
                          obtain ⟨fr, hfr⟩ : ∃ a, (at_ + 7) / 8 = a := ⟨_, rfl⟩
                          have e1 : (((at_ : Int) + 7) / 8) = (fr : Int) := by omega
                          skip
                          have HF := Lib.hid hfr
                          clear hfr
                          go_wp2_with fail
                          refine (hR.bytes_no (by omega) ha z HNO.out).mono ?_
                          rintro e w5 ⟨rfl, rfl⟩
                          go_wp2_with fail
                          refine hR.at.mono ?_
                          rintro e wz ⟨rfl, rfl⟩
                          go_wp2_with fail
                          refine (hR.left (by omega) (by omega)).mono ?_
                          rintro e wz ⟨rfl, nqz, rfl⟩
                          go_wp2_with fail
                          refine (peek_no pr K _ (.inl hK)).mono ?_
                          rintro e wz ⟨rfl, rfl⟩
                          go_wp2_with fail
                          go_roundw
                          case rel => exact ⟨i + 1, at_, by omega, by go_num, rfl, by omega, hR.drewN nqz⟩
                          case measure => simp [intOf]; omega
                      · have q1' : 0 ≤ z := by omega
                        have q3 : (bs.length : Int) - ((at_ : Int) + 7) / 8 < z := by omega
                        clear hy q1
                        as_aux_lemma =>
                          obtain ⟨fr, hfr⟩ : ∃ a, (at_ + 7) / 8 = a := ⟨_, rfl⟩
                          have e1 : (((at_ : Int) + 7) / 8) = (fr : Int) := by omega
                          have q4 : (bs.length : Int) - (fr : Int) < z := by omega
                          have HF := Lib.hid hfr
                          clear hfr
                          go_wp2_with fail
                          refine (hR.bytes_no (by omega) ha z HNO.out).mono ?_
                          rintro e w5 ⟨rfl, rfl⟩
                          go_wp2_with fail
                          refine hR.at.mono ?_
                          rintro e wz ⟨rfl, rfl⟩
                          go_wp2_with fail
                          refine (hR.left (by omega) (by omega)).mono ?_
                          rintro e wz ⟨rfl, nqz, rfl⟩
                          go_wp2_with fail
                          refine (peek_no pr K _ (.inl hK)).mono ?_
                          rintro e wz ⟨rfl, rfl⟩
                          go_wp2_with fail
                          go_roundw
                          case rel => exact ⟨i + 1, at_, by omega, by go_num, rfl, by omega, hR.drewN nqz⟩
                          case measure => simp [intOf]; omega
                  · obtain ⟨z, hz⟩ : ∃ z, (f i).what = z := ⟨_, rfl⟩
                    rw [hz] at c0 hw0 hw1 hw2 hw3
                    clear hz
                    as_aux_lemma =>
                      go_wp2_with fail
                      refine hR.at.mono ?_
                      rintro e wz ⟨rfl, rfl⟩
                      go_wp2_with fail
                      refine (hR.left (by omega) (by omega)).mono ?_
                      rintro e wz ⟨rfl, nqz, rfl⟩
                      go_wp2_with fail
                      refine (peek_no pr K _ (.inl hK)).mono ?_
                      rintro e wz ⟨rfl, rfl⟩
                      go_wp2_with fail
                      go_roundw
                      case rel => exact ⟨i + 1, at_, by omega, by go_num, rfl, by omega, hR.drewN nqz⟩
                      case measure => simp [intOf]; omega
          · have htt := hR.touch
            go_wp2
            go_ret
            exact ⟨rfl, htt⟩

end Go.Proofs.Ytjbjjnfhklpffaa
