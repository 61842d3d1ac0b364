/-
  The walk of BitsWrites, where calls are told.
-/
import Derived.Test.YtjbjjnfhklpffaaYd
namespace Go.Proofs.Ytjbjjnfhklpffaa
open Go.RowKit
set_option linter.unusedVariables false
set_option linter.unusedSimpArgs false

set_option maxRecDepth 100000 in
set_option maxHeartbeats 40000000 in
theorem writes_some (bc oc capc len : Nat) (v : Nat) (k : Int) (f : Nat → CD) (w : World) (hv : v < 4294967296) (hll : len ≤ maxLen)
    (hcalls : CallsV w (some ⟨bc, oc, none⟩) len f) (hbc : len = 0 ∨ bc < w.heap.size) (hr : ∀ i, i < len → (f i).b.length ≤ 140737488351232) :
    Calls Try.prog 4 #[.slice (some ⟨bc, oc, none⟩) len capc, .int .u32 v, .int .i64 k] w fun e w' => e = .returned (.bool true) ∧ Touch (U w.heap.size) w w' := by
  have hA := Lib.hid (alive_any w)
  have HG := Lib.hid fun W (h : CallsV W (some ⟨bc, oc, none⟩) len f) => great_any none (some ⟨bc, oc, none⟩) 0 0 len capc f W h (Nat.zero_le _) hll hr
  have HCALLS := Lib.hid hcalls
  have HBC := Lib.hid hbc
  have HV := Lib.hid hv
  clear hcalls hbc hr hll hv
  go_enter Try.func4, Try.ntmps4
  go_wp2_with (go_at_call 7; refine hA.out.mono ?_; rintro e w1 ⟨rfl, ht1⟩)
  have hc1 := CallsV.touch HCALLS.out HBC.out ht1
  refine (HG.out w1 hc1).mono ?_
  rintro e w1' ⟨rfl, r, rfl, hr⟩
  cases r with
  | true =>
    go_wp2
    go_ret
    exact ⟨rfl, ht1⟩
  | false =>
    obtain ⟨_, hlen, hbl⟩ := hr rfl
    have HBL := Lib.hid hbl
    clear hr hc1 hbl
    go_wp2_with fail
    refine (newWriter_T ht1.size ht1).mono ?_
    rintro e w2 ⟨p, rfl, hW⟩
    have hD := Duo.start hW (by obtain ⟨_, _, h⟩ := hW; exact h.size)
    clear hW ht1
    go_wp2_with fail
    go_loopw [9, 10] (fun i _ wr => ∃ i0 n N : Nat, i0 ≤ len ∧ i = .int .i64 i0 ∧ n ≤ 20000 * i0 ∧ Duo w wr w.heap.size p N n w2.heap.size N n) (fun i _ _ => len - (intOf i).toNat)
    case atStart => exact ⟨0, 0, 0, Nat.zero_le _, rfl, by omega, hD⟩
    case round =>
      clear hD
      obtain ⟨i, n, N, hi, rfl, hnb, hD⟩ := hrel
      by_cases hlt : i < len
      · obtain ⟨hcc, hbcl⟩ := CallsV.get HCALLS.out HBC.out i hlt
        have hbb := HBL.out i hlt
        have htt := hD.touchU
        have hcw : CallAt wr ⟨bc, oc + i * 4, none⟩ (f i) := hcc.touch htt (Nat.le_refl _)
        obtain ⟨q0, q1, q2, q3, qv, qs, qb⟩ := hcw
        rw [Addr.add_lit] at q0 q1 q2 q3
        rw [Nat.add_zero] at q0
        have hkB : 0 < (f i).b.length → ∀ k, (f i).sv.ownBlock = some k → k < w.heap.size := fun hp => hcc.hs.lt hp
        obtain ⟨av, cv, hsv⟩ := qs.shape
        rw [hsv] at q3
        by_cases hw0 : (f i).what = 0
        · rw [hw0] at q0
          clear hw0
          by_cases hy : 0 ≤ (f i).n ∧ (f i).n ≤ 32
          · as_aux_lemma =>
              obtain ⟨K, hK⟩ := Int.eq_ofNat_of_zero_le hy.1
              rw [hK] at q1 hy
              have hK32 : K ≤ 32 := by omega
              clear hK hy
              have hbx := hD.box (.cells #[.int .i64 0, .int .i64 K, .int .u32 (f i).v, .slice av (f i).b.length cv] 31)
              clear hD
              obtain ⟨N2, hN2⟩ : ∃ N2, N + (f i).v % 2 ^ K * 2 ^ n = N2 := ⟨_, rfl⟩
              obtain ⟨n2, hn2⟩ : ∃ n2, n + K = n2 := ⟨_, rfl⟩
              have hnb2 : n2 ≤ n + 32 := by omega
              have HN2 := Lib.hid hN2
              have Hn2 := Lib.hid hn2
              clear hN2 hn2
              go_wp2_with fail
              refine (hbx.wput (by omega) (f i).v K N2 n2 qv hK32 HN2.out Hn2.out).mono ?_
              rintro e w5 ⟨rfl, hC5⟩
              obtain ⟨e0, e1, e2, e3⟩ := four_cell hC5.blk
              clear hbx
              go_wp2_with fail
              refine (hC5.forget.rput (by omega) (f i).v K N2 n2 qv hK32 HN2.out Hn2.out).mono ?_
              rintro e w6 ⟨rfl, hDD⟩
              clear hC5 e0 e1 e2 e3
              have HDK := Lib.hid fun W (ht : Touch (fun _ => False) _ W) => hDD.still ht
              have hrc := hDD.rcell
              obtain ⟨arc, crc, hrc⟩ := hrc
              go_wp2_with fail
              go_region_with (first
                | (go_at_call 27; refine ((HDK.out _ (Touch.refl _ _).drew).wlen).mono ?_; rintro e w6 ⟨rfl, rfl⟩)
                | (go_at_call 28; refine ((HDK.out _ (Touch.refl _ _).drew).wout (by omega)).mono ?_; rintro e w7 ⟨xs, ax, cx, rfl, bx, wx, nx, sx, hD7, ht7⟩; have HBX := Lib.hid bx; have HWX := Lib.hid wx; have HNX := Lib.hid nx; clear bx wx nx)
                | (go_at_call 29; refine (hD7.rout (by omega)).mono ?_; rintro e w8 ⟨ys, ay, cy, rfl, by8, ly, ny, sy, hD8, ht8⟩; have hxy := Duo.same HWX.out HBX.out HNX.out by8 ly ny; have hxl := HWX.out.small (by omega); subst hxy; clear by8 ly ny)
                | (go_at_call 16; refine (same_any (sx.touch ht8 (fun _ _ h => h)) sy (by omega)).mono ?_; rintro e w9 ⟨rfl, nq9, rfl⟩))
              all_goals
                go_wp2
                go_roundw
                case rel => exact ⟨i + 1, n2, N2, by omega, by go_num, by omega, hD8.still ((Touch.refl _ _).drewN _)⟩
                case measure => simp [intOf]; omega
          · as_aux_lemma =>
              obtain ⟨z, hz⟩ : ∃ z, (f i).n = z := ⟨_, rfl⟩
              rw [hz] at q1 hy
              clear hz
              by_cases q4 : z < 0
              · as_aux_lemma =>
                  clear hy
                  have hbx := hD.box (.cells #[.int .i64 0, .int .i64 z, .int .u32 (f i).v, .slice av (f i).b.length cv] 31)
                  clear hD
                  have hDD := hbx.forget
                  clear hbx
                  go_wp2_with fail
                  refine (put_no p _ z _ (.inl q4)).mono ?_
                  rintro e w5 ⟨rfl, rfl⟩
                  have HDK := Lib.hid fun W (ht : Touch (fun _ => False) _ W) => hDD.still ht
                  have hrc := hDD.rcell
                  obtain ⟨arc, crc, hrc⟩ := hrc
                  go_wp2_with fail
                  go_region_with (first
                    | (go_at_call 27; refine ((HDK.out _ (Touch.refl _ _).drew).wlen).mono ?_; rintro e w6 ⟨rfl, rfl⟩)
                    | (go_at_call 28; refine ((HDK.out _ (Touch.refl _ _).drew).wout (by omega)).mono ?_; rintro e w7 ⟨xs, ax, cx, rfl, bx, wx, nx, sx, hD7, ht7⟩; have HBX := Lib.hid bx; have HWX := Lib.hid wx; have HNX := Lib.hid nx; clear bx wx nx)
                    | (go_at_call 29; refine (hD7.rout (by omega)).mono ?_; rintro e w8 ⟨ys, ay, cy, rfl, by8, ly, ny, sy, hD8, ht8⟩; have hxy := Duo.same HWX.out HBX.out HNX.out by8 ly ny; have hxl := HWX.out.small (by omega); subst hxy; clear by8 ly ny)
                    | (go_at_call 16; refine (same_any (sx.touch ht8 (fun _ _ h => h)) sy (by omega)).mono ?_; rintro e w9 ⟨rfl, nq9, rfl⟩))
                  all_goals
                    go_wp2
                    go_roundw
                    case rel => exact ⟨i + 1, n, N, by omega, by go_num, by omega, hD8.still ((Touch.refl _ _).drewN _)⟩
                    case measure => simp [intOf]; omega
              · as_aux_lemma =>
                  have q5 : 0 ≤ z := by omega
                  have q6 : 32 < z := by omega
                  clear hy q4
                  have hbx := hD.box (.cells #[.int .i64 0, .int .i64 z, .int .u32 (f i).v, .slice av (f i).b.length cv] 31)
                  clear hD
                  have hDD := hbx.forget
                  clear hbx
                  go_wp2_with fail
                  refine (put_no p _ z _ (.inr q6)).mono ?_
                  rintro e w5 ⟨rfl, rfl⟩
                  have HDK := Lib.hid fun W (ht : Touch (fun _ => False) _ W) => hDD.still ht
                  have hrc := hDD.rcell
                  obtain ⟨arc, crc, hrc⟩ := hrc
                  go_wp2_with fail
                  go_region_with (first
                    | (go_at_call 27; refine ((HDK.out _ (Touch.refl _ _).drew).wlen).mono ?_; rintro e w6 ⟨rfl, rfl⟩)
                    | (go_at_call 28; refine ((HDK.out _ (Touch.refl _ _).drew).wout (by omega)).mono ?_; rintro e w7 ⟨xs, ax, cx, rfl, bx, wx, nx, sx, hD7, ht7⟩; have HBX := Lib.hid bx; have HWX := Lib.hid wx; have HNX := Lib.hid nx; clear bx wx nx)
                    | (go_at_call 29; refine (hD7.rout (by omega)).mono ?_; rintro e w8 ⟨ys, ay, cy, rfl, by8, ly, ny, sy, hD8, ht8⟩; have hxy := Duo.same HWX.out HBX.out HNX.out by8 ly ny; have hxl := HWX.out.small (by omega); subst hxy; clear by8 ly ny)
                    | (go_at_call 16; refine (same_any (sx.touch ht8 (fun _ _ h => h)) sy (by omega)).mono ?_; rintro e w9 ⟨rfl, nq9, rfl⟩))
                  all_goals
                    go_wp2
                    go_roundw
                    case rel => exact ⟨i + 1, n, N, by omega, by go_num, by omega, hD8.still ((Touch.refl _ _).drewN _)⟩
                    case measure => simp [intOf]; omega
        · by_cases hw2 : (f i).what = 2
          · rw [hw2] at q0
            clear hw2 hw0
            as_aux_lemma =>
              have hbx := hD.box (.cells #[.int .i64 2, .int .i64 (f i).n, .int .u32 (f i).v, .slice av (f i).b.length cv] 31)
              clear hD
              have hD4 := hbx.forget
              clear hbx
              obtain ⟨n2, hn2⟩ : ∃ n2, up8 n = n2 := ⟨_, rfl⟩
              have hnb2 : n2 ≤ n + 32 := by rw [← hn2]; unfold up8; omega
              have Hn2 := Lib.hid hn2
              clear hn2
              go_wp2_with fail
              refine (hD4.walign (by omega)).mono ?_
              rintro e w5 ⟨rfl, hD5⟩
              clear hD4
              go_wp2_with fail
              refine (hD5.ralign (by omega)).mono ?_
              rintro e w6 ⟨rfl, hDD⟩
              rw [Hn2.out] at hDD
              clear hD5
              have HDK := Lib.hid fun W (ht : Touch (fun _ => False) _ W) => hDD.still ht
              have hrc := hDD.rcell
              obtain ⟨arc, crc, hrc⟩ := hrc
              go_wp2_with fail
              go_region_with (first
                | (go_at_call 27; refine ((HDK.out _ (Touch.refl _ _).drew).wlen).mono ?_; rintro e w6 ⟨rfl, rfl⟩)
                | (go_at_call 28; refine ((HDK.out _ (Touch.refl _ _).drew).wout (by omega)).mono ?_; rintro e w7 ⟨xs, ax, cx, rfl, bx, wx, nx, sx, hD7, ht7⟩; have HBX := Lib.hid bx; have HWX := Lib.hid wx; have HNX := Lib.hid nx; clear bx wx nx)
                | (go_at_call 29; refine (hD7.rout (by omega)).mono ?_; rintro e w8 ⟨ys, ay, cy, rfl, by8, ly, ny, sy, hD8, ht8⟩; have hxy := Duo.same HWX.out HBX.out HNX.out by8 ly ny; have hxl := HWX.out.small (by omega); subst hxy; clear by8 ly ny)
                | (go_at_call 16; refine (same_any (sx.touch ht8 (fun _ _ h => h)) sy (by omega)).mono ?_; rintro e w9 ⟨rfl, nq9, rfl⟩))
              all_goals
                go_wp2
                go_roundw
                case rel => exact ⟨i + 1, n2, N, by omega, by go_num, by omega, hD8.still ((Touch.refl _ _).drewN _)⟩
                case measure => simp [intOf]; omega
          · by_cases hw3 : (f i).what = 3
            · rw [hw3] at q0
              clear hw3 hw2 hw0
              as_aux_lemma =>
                have hbx := hD.box (.cells #[.int .i64 3, .int .i64 (f i).n, .int .u32 (f i).v, .slice av (f i).b.length cv] 31)
                clear hD
                have hsb0 : BySl w (.slice av (f i).b.length cv) (f i).b := by rw [← hsv]; exact hcc.hs
                have hkb0 : 0 < (f i).b.length → ∀ k, (Value.slice av (f i).b.length cv).ownBlock = some k → k < w.heap.size := by rw [← hsv]; exact hkB
                have HS0 := Lib.hid hsb0
                have HKB := Lib.hid hkb0
                have HQB := Lib.hid qb
                clear hsb0 hkb0 qb qs hsv hkB hcc
                obtain ⟨N2, hN2⟩ : ∃ N2, N + num (f i).b * 2 ^ up8 n = N2 := ⟨_, rfl⟩
                obtain ⟨n2, hn2⟩ : ∃ n2, up8 n + 8 * (f i).b.length = n2 := ⟨_, rfl⟩
                have hnb2 : n2 ≤ n + 16007 := by rw [← hn2]; unfold up8; omega
                have HN2 := Lib.hid hN2
                have Hn2 := Lib.hid hn2
                clear hN2 hn2
                go_wp2_with fail
                refine (hbx.wraw (hbx.bysl HS0.out HKB.out) HQB.out (by omega) (by omega) N2 n2 HN2.out Hn2.out).mono ?_
                rintro e w5 ⟨rfl, hC5⟩
                obtain ⟨e0, e1, e2, e3⟩ := four_cell hC5.blk
                clear hbx
                go_wp2_with fail
                refine (hC5.forget.rraw' (hC5.bysl HS0.out HKB.out) HQB.out HKB.out (by omega) (by omega) N2 n2 HN2.out Hn2.out).mono ?_
                rintro e w6 ⟨rfl, hDD⟩
                clear hC5 e0 e1 e2 e3
                have HDK := Lib.hid fun W (ht : Touch (fun _ => False) _ W) => hDD.still ht
                have hrc := hDD.rcell
                obtain ⟨arc, crc, hrc⟩ := hrc
                go_wp2_with fail
                go_region_with (first
                  | (go_at_call 27; refine ((HDK.out _ (Touch.refl _ _).drew).wlen).mono ?_; rintro e w6 ⟨rfl, rfl⟩)
                  | (go_at_call 28; refine ((HDK.out _ (Touch.refl _ _).drew).wout (by omega)).mono ?_; rintro e w7 ⟨xs, ax, cx, rfl, bx, wx, nx, sx, hD7, ht7⟩; have HBX := Lib.hid bx; have HWX := Lib.hid wx; have HNX := Lib.hid nx; clear bx wx nx)
                  | (go_at_call 29; refine (hD7.rout (by omega)).mono ?_; rintro e w8 ⟨ys, ay, cy, rfl, by8, ly, ny, sy, hD8, ht8⟩; have hxy := Duo.same HWX.out HBX.out HNX.out by8 ly ny; have hxl := HWX.out.small (by omega); subst hxy; clear by8 ly ny)
                  | (go_at_call 16; refine (same_any (sx.touch ht8 (fun _ _ h => h)) sy (by omega)).mono ?_; rintro e w9 ⟨rfl, nq9, rfl⟩))
                all_goals
                  go_wp2
                  go_roundw
                  case rel => exact ⟨i + 1, n2, N2, by omega, by go_num, by omega, hD8.still ((Touch.refl _ _).drewN _)⟩
                  case measure => simp [intOf]; omega
            · as_aux_lemma =>
                obtain ⟨z, hz⟩ : ∃ z, (f i).what = z := ⟨_, rfl⟩
                rw [hz] at q0 hw0 hw2 hw3
                have hDD := (hD.box (.cells #[.int .i64 z, .int .i64 (f i).n, .int .u32 (f i).v, .slice av (f i).b.length cv] 31)).forget
                clear hz hD
                have HDK := Lib.hid fun W (ht : Touch (fun _ => False) _ W) => hDD.still ht
                have hrc := hDD.rcell
                obtain ⟨arc, crc, hrc⟩ := hrc
                go_wp2_with fail
                go_region_with (first
                  | (go_at_call 27; refine ((HDK.out _ (Touch.refl _ _).drew).wlen).mono ?_; rintro e w6 ⟨rfl, rfl⟩)
                  | (go_at_call 28; refine ((HDK.out _ (Touch.refl _ _).drew).wout (by omega)).mono ?_; rintro e w7 ⟨xs, ax, cx, rfl, bx, wx, nx, sx, hD7, ht7⟩; have HBX := Lib.hid bx; have HWX := Lib.hid wx; have HNX := Lib.hid nx; clear bx wx nx)
                  | (go_at_call 29; refine (hD7.rout (by omega)).mono ?_; rintro e w8 ⟨ys, ay, cy, rfl, by8, ly, ny, sy, hD8, ht8⟩; have hxy := Duo.same HWX.out HBX.out HNX.out by8 ly ny; have hxl := HWX.out.small (by omega); subst hxy; clear by8 ly ny)
                  | (go_at_call 16; refine (same_any (sx.touch ht8 (fun _ _ h => h)) sy (by omega)).mono ?_; rintro e w9 ⟨rfl, nq9, rfl⟩))
                all_goals
                  go_wp2
                  go_roundw
                  case rel => exact ⟨i + 1, n, N, by omega, by go_num, by omega, hD8.still ((Touch.refl _ _).drewN _)⟩
                  case measure => simp [intOf]; omega
      · have htt := hD.touchU
        clear hD
        by_cases hk : 0 ≤ k ∧ k ≤ 32
        · obtain ⟨K, hK⟩ := Int.eq_ofNat_of_zero_le hk.1
          subst hK
          have hK32 : K ≤ 32 := by omega
          obtain ⟨R, hR⟩ : ∃ R, rv K v = R := ⟨_, rfl⟩
          have HR := Lib.hid hR
          clear hR hk
          go_wp2_with fail
          refine (reverse_yes v K _ HV.out hK32).mono ?_
          rintro e w5 ⟨rfl, rfl⟩
          rw [HR.out]
          go_wp2_with fail
          refine (rrev_yes v K _ HV.out hK32).mono ?_
          rintro e w5 ⟨rfl, rfl⟩
          rw [HR.out]
          go_wp2_with fail
          go_ret
          exact ⟨by simp, htt⟩
        · have hk2 : k < 0 ∨ 32 < k := by omega
          have HK := Lib.hid hk2
          clear hk hk2
          go_wp2_with fail
          refine (reverse_no v k _ HK.out).mono ?_
          rintro e w5 ⟨rfl, rfl⟩
          go_wp2_with fail
          refine (rrev_no v k _ HK.out).mono ?_
          rintro e w5 ⟨rfl, rfl⟩
          go_wp2_with fail
          go_ret
          exact ⟨by simp, htt⟩
end Go.Proofs.Ytjbjjnfhklpffaa
