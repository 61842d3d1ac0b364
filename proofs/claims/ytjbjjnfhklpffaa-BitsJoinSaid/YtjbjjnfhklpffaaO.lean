/-
  The walk of BitsJoin.
-/
import Derived.Test.YtjbjjnfhklpffaaN
namespace Go.Proofs.Ytjbjjnfhklpffaa
open Go.RowKit

theorem join_bad (v n cut : Int) (w : World) (h : n < 0 ∨ 32 < n ∨ cut < 0 ∨ n < cut) : Calls Try.prog 6 #[.int .u32 v, .int .i64 n, .int .i64 cut] w fun e w' => e = .returned (.bool true) ∧ Touch (U w.heap.size) w w' := by
  have hA := Lib.hid (alive_any w)
  by_cases h1 : n < 0
  · go_enter Try.func6, Try.ntmps6
    go_wp2_with (go_at_call 7; refine hA.out.mono ?_; rintro e w1 ⟨rfl, ht⟩)
    go_ret
    exact ⟨rfl, ht⟩
  · by_cases h2 : 32 < n
    · go_enter Try.func6, Try.ntmps6
      go_wp2_with (go_at_call 7; refine hA.out.mono ?_; rintro e w1 ⟨rfl, ht⟩)
      go_ret
      exact ⟨rfl, ht⟩
    · by_cases h3 : cut < 0
      · go_enter Try.func6, Try.ntmps6
        go_wp2_with (go_at_call 7; refine hA.out.mono ?_; rintro e w1 ⟨rfl, ht⟩)
        go_ret
        exact ⟨rfl, ht⟩
      · have h4 : n < cut := by omega
        clear h
        go_enter Try.func6, Try.ntmps6
        go_wp2_with (go_at_call 7; refine hA.out.mono ?_; rintro e w1 ⟨rfl, ht⟩)
        go_ret
        exact ⟨rfl, ht⟩

set_option maxHeartbeats 1600000 in
set_option maxRecDepth 100000 in
theorem join_good (v n cut : Nat) (w : World) (hv : v < 4294967296) (hn : n ≤ 32) (hc : cut ≤ n) : Calls Try.prog 6 #[.int .u32 v, .int .i64 n, .int .i64 cut] w fun e w' => e = .returned (.bool true) ∧ Touch (U w.heap.size) w w' := by
  have hA := Lib.hid (alive_any w)
  have d1 : decide ((n : Int) < 0) = false := by simp
  have d2 : decide (32 < (n : Int)) = false := by simp; omega
  have d3 : decide ((cut : Int) < 0) = false := by simp
  have d4 : decide (n < cut) = false := by simp; omega
  go_enter Try.func6, Try.ntmps6
  go_wp2_with (go_at_call 7; refine hA.out.mono ?_; rintro e w1 ⟨rfl, ht⟩)
  go_loopw [7, 8, 9, 10, 11, 12, 13, 14, 15] (fun i _ _ _ _ _ _ _ _ wr => ∃ f : Nat, f ≤ 9 ∧ i = .int .i64 f ∧ Touch (U w.heap.size) w wr) (fun i _ _ _ _ _ _ _ _ _ => 9 - (intOf i).toNat)
  case atStart => exact ⟨0, by omega, rfl, ht⟩
  case round =>
    clear ht
    obtain ⟨f, hf, rfl, ht⟩ := hrel
    by_cases hlt : f < 9
    · have hsz := ht.size
      obtain ⟨A, hA2⟩ : ∃ A, A = 341 % 2 ^ f := ⟨_, rfl⟩
      obtain ⟨N, hN⟩ : ∃ N, A + v % 2 ^ n * 2 ^ f = N := ⟨_, rfl⟩
      obtain ⟨M, hM⟩ : ∃ M, A + v % 2 ^ cut * 2 ^ f = M := ⟨_, rfl⟩
      obtain ⟨V, hV⟩ : ∃ V, v / 2 ^ cut = V := ⟨_, rfl⟩
      obtain ⟨X3, hX3⟩ : ∃ X3, V % 2 ^ (n - cut) = X3 := ⟨_, rfl⟩
      have hVL : V < 4294967296 := by rw [← hV]; exact Nat.lt_of_le_of_lt (Nat.div_le_self _ _) hv
      have hVI : ((v : Int) / 2 ^ cut % 4294967296) = (V : Int) := by
        rw [← hV] at hVL ⊢
        rw [show ((v : Int) / 2 ^ cut) = ((v / 2 ^ cut : Nat) : Int) from by simp]
        omega
      have hN2 : M + X3 * 2 ^ (f + cut) = N := by rw [← hM, ← hX3, ← hV, ← hN, hA2]; exact join_num v n cut f hc
      obtain ⟨X2, hX2⟩ : ∃ X2, v % 2 ^ cut = X2 := ⟨_, rfl⟩
      have HX2 := Lib.hid hX2
      clear hX2
      have HA := Lib.hid hA2
      have HN := Lib.hid hN
      have HM := Lib.hid hM
      have HV := Lib.hid hVI
      have HVV := Lib.hid hV
      have HX3 := Lib.hid hX3
      have HN2 := Lib.hid hN2
      have HVL := Lib.hid hVL
      have HK := Lib.hid (show ((n : Int) - (cut : Int)) = ((n - cut : Nat) : Int) by omega)
      clear hA2 hN hM hVI hV hX3 hN2 hVL
      go_wp2_with fail
      refine (newWriter_T hsz ht).mono ?_
      rintro e w2 ⟨pa, rfl, hW2⟩
      go_wp2_with fail
      refine (Two.made hW2 (by obtain ⟨_, _, h⟩ := hW2; exact h.size)).mono ?_
      rintro e w3 ⟨pb, rfl, hT3⟩
      go_wp2_with fail
      refine (hT3.put (by omega) 341 f (341 % 2 ^ f) A f (by omega) (by omega) rfl (by rw [HA.out]; simp) (by omega)).mono ?_
      rintro e w4 ⟨rfl, hT4⟩
      clear hT3 hW2
      go_wp2_with fail
      refine (hT4.symm.put (by omega) 341 f (341 % 2 ^ f) A f (by omega) (by omega) rfl (by rw [HA.out]; simp) (by omega)).mono ?_
      rintro e w5 ⟨rfl, hT5⟩
      clear hT4
      go_wp2_with fail
      refine (hT5.symm.put (by omega) v n (v % 2 ^ n) N (f + n) hv hn rfl HN.out rfl).mono ?_
      rintro e w6 ⟨rfl, hT6⟩
      clear hT5
      go_wp2_with fail
      refine (hT6.symm.put (by omega) v cut (v % 2 ^ cut) M (f + cut) hv (by omega) rfl HM.out rfl).mono ?_
      rintro e w7 ⟨rfl, hT7⟩
      clear hT6
      go_wp2_with fail
      rw [HV.out, HK.out]
      refine (hT7.put (by omega) V (n - cut) X3 N (f + n) HVL.out (by omega) HX3.out HN2.out (by omega)).mono ?_
      rintro e w8 ⟨rfl, hT8⟩
      clear hT7
      go_wp2_with fail
      refine (hT8.symm.out (by omega)).mono ?_
      rintro e w9 ⟨xs, a9, c9, rfl, bx, wx, nx, sx, hT9, _⟩
      clear hT8
      go_wp2_with fail
      refine (hT9.symm.out (by omega)).mono ?_
      rintro e w10 ⟨ys, a10, c10, rfl, by10, wy, ny, sy, hT10, ht10⟩
      have hxy := Two.same wx wy bx by10 nx ny hT10
      subst hxy
      have sx2 := sx.touch ht10 (fun _ _ h => h)
      have hlx := wx.small (by omega)
      clear hT9 sx ht10 wy ny by10
      go_wp2_with fail
      refine (same_any sx2 sy (by omega)).mono ?_
      rintro e w11 ⟨rfl, nq, rfl⟩
      have hT11 := hT10.drewN nq
      generalize w10.drewN nq = w11 at hT11 ⊢
      clear hT10 sx2 sy wx bx nx hlx
      go_wp2_with fail
      refine hT11.symm.a.len.mono ?_
      rintro e w12 ⟨rfl, rfl⟩
      go_wp2_with fail
      refine hT11.a.len.mono ?_
      rintro e w12 ⟨rfl, rfl⟩
      go_wp2_with fail
      refine hT11.symm.a.len.mono ?_
      rintro e w12 ⟨rfl, rfl⟩
      go_wp2_with fail
      refine (hT11.symm.out (by omega)).mono ?_
      rintro e w12 ⟨zs, a12, c12, rfl, bz, wz, nz, sz, hT12, _⟩
      clear hT11
      have hlz := wz.small (by omega)
      have hlo := wz.lo
      have HN3 := Lib.hid (show num zs = 341 % 2 ^ f + v % 2 ^ n * 2 ^ f by rw [nz, ← HN.out, HA.out])
      clear nz
      go_wp2_with fail
      refine (newReader_T sz bz (by omega)).mono ?_
      rintro e w13 ⟨pr, rfl, hR⟩
      clear sz bz
      go_wp2_with fail
      refine (hR.skip (by omega) f (by omega)).mono ?_
      rintro e w14 ⟨rfl, hR14⟩
      clear hR
      go_wp2_with fail
      refine (hR14.bits (by omega) cut X2 (by omega) (by omega) (by rw [Nat.zero_add, ← HX2.out]; exact join_pk1 hc HN3.out)).mono ?_
      rintro e w15 ⟨rfl, hR15⟩
      clear hR14
      go_wp2_with fail
      rw [HK.out]
      refine (hR15.bits (by omega) (n - cut) X3 (by omega) (by omega) (by rw [Nat.zero_add, ← HX3.out, ← HVV.out]; exact join_pk2 hc HN3.out)).mono ?_
      rintro e w16 ⟨rfl, hR16⟩
      clear hR15
      obtain ⟨W, hW⟩ : ∃ W, v % 2 ^ n = W := ⟨_, rfl⟩
      have hWL : W < 4294967296 := by rw [← hW]; exact Nat.lt_of_le_of_lt (Nat.mod_le _ _) hv
      have hm : bits BinOp.and IntKind.u64 (v : Int) (IntKind.u64.wrap (IntKind.u64.wrap (2 ^ n) - 1)) = (W : Int) := by rw [← hW]; exact low_mask v n hn (by omega)
      have ho : bits BinOp.or IntKind.u64 (IntKind.u64.wrap (X2 : Int)) (IntKind.u64.wrap (IntKind.u64.wrap (X3 : Int) * 2 ^ cut)) = (W : Int) := by
        rw [← hW]
        exact join_or v n cut X2 X3 hv hc HX2.out (by rw [HVV.out]; exact HX3.out)
      have hw2 : (W : Int) % 4294967296 = (W : Int) := by omega
      have HT : Touch (U w.heap.size) w w16 := by
        obtain ⟨g, _, h1⟩ := hR16
        obtain ⟨_, _, _, _, _, h2⟩ := hT12
        exact h2.trans (h1.mono fun k hk => Nat.le_trans h2.size hk)
      clear hW hWL hR16 hT12
      go_wp2
      go_roundw
      case rel => exact ⟨f + 1, by omega, by go_num, HT⟩
      case measure => simp [intOf]; omega
    · go_wp2
      go_ret
      exact ⟨rfl, ht⟩
end Go.Proofs.Ytjbjjnfhklpffaa
