/-
  Contract of the reference's used.
-/
import Derived.Test.YtccfbkbfmkdapaaRb
namespace Go.Proofs.Ytccfbkbfmkdapaa
open Go.RowKit

theorem Uo.zero {w wr : World} {zs : List Int} {k : Nat} {P : List Nat} {v : Value} (h : Uo w zs k P v wr) (hk : k < zs.length) (h0 : zs.getD k 0 = 0) : Uo w zs (k + 1) P v wr := by
  refine ⟨fun j hj => ?_, h.dn, ?_, h.rn⟩
  · rcases (show j < k ∨ j = k by omega) with e | rfl
    · exact h.ok j e
    · rw [h0]; unfold maxC; omega
  · rw [nz_take hk, h0]
    simpa using h.perm
theorem Uo.more {w wr w' : World} {zs : List Int} {k : Nat} {P Q : List Nat} {v v' : Value} {x : Nat} (h : Uo w zs k P v wr) (hk : k < zs.length) (hx : zs.getD k 0 = x) (hx0 : 0 < x) (hm : (x : Int) ≤ maxC) (hd : Dn Q) (hq : Q.Perm (x :: P)) (hR : Rn w (ints Q) v' w') : Uo w zs (k + 1) Q v' w' := by
  refine ⟨fun j hj => ?_, hd, ?_, hR⟩
  · rcases (show j < k ∨ j = k by omega) with e | rfl
    · exact h.ok j e
    · rw [hx]; omega
  · rw [nz_take hk, hx, Int.toNat_natCast, if_pos hx0]
    exact hq.trans ((h.perm.cons x).trans (List.perm_append_singleton x _).symm)

set_option maxHeartbeats 8000000 in
set_option maxRecDepth 100000 in
theorem rused_any (ao : Option Addr) (c : Nat) (zs : List Int) (w : World) (h : IS w ao zs) (hl : zs.length ≤ 1000) {n : Nat} (hn : n = zs.length) :
    Calls Try.prog 27 #[.slice ao n c] w (Usd zs w) := by
  have HI := Lib.hid h
  have HN := Lib.hid hn
  rw [← hn] at hl
  clear h hn
  have H0 : Hid (Uo w zs 0 [] (.slice (some ⟨w.heap.size, 0, none⟩) (0 : Nat) 0) (w.alloc (.cells #[] 3))) := Lib.hid ⟨fun j hj => absurd hj (Nat.not_lt_zero j), List.Pairwise.nil, List.Perm.refl _, ⟨own_none w 3 1, (Below.refl _ _).alloc (Nat.le_refl _) _⟩⟩
  go_enter Try.func27, Try.ntmps27
  go_wp2
  generalize w.alloc (.cells #[] 3) = w1 at H0 ⊢
  generalize (⟨w.heap.size, 0, none⟩ : Addr) = ad at H0 ⊢
  go_loopw [4, 5] (fun v4 kv wr => ∃ (k : Nat) (P : List Nat) (eo : Option Addr) (cu : Nat), v4 = .slice eo P.length cu ∧ kv = .int .i64 k ∧ k ≤ n ∧ Uo w zs k P (.slice eo P.length cu) wr) (fun _ kv _ => n - (intOf kv).toNat)
  case atStart => exact ⟨0, [], some ad, 0, rfl, rfl, Nat.zero_le _, H0.out⟩
  case round =>
    obtain ⟨k, P, eo, cu, rfl, rfl, hk, hU⟩ := hrel
    have HU := Lib.hid hU
    have hpl : P.length ≤ k := hU.len
    clear hU H0
    by_cases hlt : k < n
    · have hkk : (k : Int) < n := by omega
      obtain ⟨b1, o1, e1, q1⟩ := (HI.out.below HU.out.rn.below).at (k := k) (by rw [← HN.out]; exact hlt)
      subst e1
      obtain ⟨z, hz⟩ : ∃ z, z = zs.getD k 0 := ⟨_, rfl⟩
      have HZ := Lib.hid hz
      rw [← hz] at q1
      clear hz
      by_cases hz0 : z < 0
      · have z1 : decide (z < 0) = true := decide_eq_true hz0
        have HB : Hid (anyBad 0 maxC zs = true) := Lib.hid (bad_at (k := k) (by rw [← HN.out]; exact hlt) (by rw [← HZ.out]; omega))
        clear hz0
        go_wp2
        go_ret2
        exact .inl ⟨HB.out, rfl, HU.out.rn.below⟩
      · by_cases hz1 : 1099511627776 < z
        · have z1 : decide (z < 0) = false := decide_eq_false hz0
          have z2 : decide ((1099511627776 : Int) < z) = true := decide_eq_true hz1
          have HB : Hid (anyBad 0 maxC zs = true) := Lib.hid (bad_at (k := k) (by rw [← HN.out]; exact hlt) (by rw [← HZ.out]; unfold maxC; omega))
          clear hz0 hz1
          go_wp2
          go_ret2
          exact .inl ⟨HB.out, rfl, HU.out.rn.below⟩
        · have z1 : decide (z < 0) = false := decide_eq_false hz0
          have z2 : decide ((1099511627776 : Int) < z) = false := decide_eq_false hz1
          by_cases hze : z = 0
          · have z3 : (z == 0) = true := by simp [hze]
            have HZE := Lib.hid hze
            clear hz0 hz1 hze
            go_wp2
            go_roundw
            case rel => exact ⟨k + 1, P, eo, cu, rfl, by go_num, by omega, HU.out.zero (by rw [← HN.out]; exact hlt) (by rw [← HZ.out]; exact HZE.out)⟩
            case measure => simp [intOf]; omega
          · have z3 : (z == 0) = false := by simpa using hze
            obtain ⟨x, rfl⟩ : ∃ x : Nat, z = x := ⟨z.toNat, by omega⟩
            have HXB : Hid (0 < x ∧ (x : Int) ≤ maxC) := Lib.hid (by unfold maxC; omega)
            clear hz0 hz1 hze
            obtain ⟨L, hL⟩ : ∃ L, L = P.length := ⟨_, rfl⟩
            have HL := Lib.hid hL
            rw [← hL] at HU hpl ⊢
            clear hL
            go_wp2_with (refine wpList_append_g at22 rfl (.tmp 28) (.tmp 30) rfl w.heap.size (.slice eo L cu) (.slice (some ⟨wr.heap.size, 0, none⟩) 1 1) L 1 (iv (ints P)) [.int .i64 (x : Nat)] rfl rfl (World.ownsRow.alloc (w := wr) (by have h := HU.out.rn.own; rwa [ints_len, ← HL.out] at h) _) (cells_1 wr 3 _) rfl (by simp [Value.oneCell']) (by have := HU.out.rn.below.size; simp; omega) (by omega) (by omega) ?_; intro ao2 cc2 w4 hA; have HA := Lib.hid hA; clear hA)
            have HI0 : Hid (Rn w (ints (insAt P x L)) (.slice ao2 (L + 1) cc2) w4) := Lib.hid (by
              have h1 := HU.out.rn.put (R := [(x : Int)]) (n := L + 1) HA.out (by rw [ints_len, ← HL.out]; rfl)
              rw [HL.out, insAt_end]
              rw [HL.out] at h1
              rw [show ints (P ++ [x]) = ints P ++ [(x : Int)] by simp [ints]]
              exact h1)
            obtain ⟨g, cap, hg⟩ : ∃ g cap, (Value.slice ao2 (L + 1) cc2) = .slice (some ⟨g, 0, none⟩) (L + 1) cap := by
              obtain ⟨g, cap, e, _⟩ := HI0.out.form (by rw [ints_len, insAt_len _ _ (by rw [HL.out]; exact Nat.le_refl _)]; omega)
              rw [ints_len, insAt_len _ _ (by rw [HL.out]; exact Nat.le_refl _), ← HL.out] at e
              exact ⟨g, cap, e⟩
            simp only [Value.slice.injEq, true_and] at hg
            obtain ⟨rfl, rfl⟩ := hg
            have HLE : Hid (∀ j, j ≤ L → (ints (insAt P x j)).length = L + 1) := Lib.hid fun j hj => by
              rw [ints_len, insAt_len _ _ (by rw [← HL.out]; exact hj), ← HL.out]
            go_loopw [7] (fun jv wr2 => ∃ j : Nat, jv = .int .i64 j ∧ j ≤ L ∧ (∀ p ∈ P.drop j, p < x) ∧ Rn w (ints (insAt P x j)) (.slice (some ⟨g, 0, none⟩) (L + 1) cc2) wr2) (fun jv _ => (intOf jv).toNat)
            case atStart => exact ⟨L, by go_num, Nat.le_refl _, by rw [HL.out]; simp, HI0.out⟩
            case round =>
              obtain ⟨j, rfl, hj, hd, hR⟩ := hrel
              have HD := Lib.hid hd
              have HR := Lib.hid hR
              clear hd hR HI0 HA
              by_cases hj0 : 0 < j
              · obtain ⟨jp, rfl⟩ : ∃ jp, j = jp + 1 := ⟨j - 1, by omega⟩
                have hj0' : (0 : Int) < ((jp + 1 : Nat) : Int) := by omega
                have hjpL : jp < L := by omega
                have f1 : IntKind.i64.wrap ((((jp + 1 : Nat) : Int)) - 1) = jp := by rw [IntKind.wrap_i64]; omega
                have qa := HR.out.at (j := jp + 1) (by rw [HLE.out _ hj]; omega)
                have qb := HR.out.at (j := jp) (by rw [HLE.out _ hj]; omega)
                rw [ints_at, insAt_at P x (by rw [← HL.out]; exact hj)] at qa
                rw [ints_at, insAt_lo P x (by rw [← HL.out]; exact hj) (Nat.lt_succ_self jp)] at qb
                obtain ⟨y, hy⟩ : ∃ y, y = P.getD jp 0 := ⟨_, rfl⟩
                rw [← hy] at qb
                have HY := Lib.hid hy
                clear hy
                by_cases hyx : y < x
                · have hyx' : (y : Int) < x := by omega
                  have HYX := Lib.hid hyx
                  go_wp2
                  go_quiet (fail)
                  have HR2 := Lib.hid (HR.out.drewN nq)
                  clear HR qa qb
                  generalize wr.drewN nq = w5 at HR2 ⊢
                  have qa := HR2.out.at (j := jp + 1) (by rw [HLE.out _ hj]; omega)
                  have qb := HR2.out.at (j := jp) (by rw [HLE.out _ hj]; omega)
                  rw [ints_at, insAt_at P x (by rw [← HL.out]; exact hj)] at qa
                  rw [ints_at, insAt_lo P x (by rw [← HL.out]; exact hj) (Nat.lt_succ_self jp), ← HY.out] at qb
                  have fa := HR2.out.free (by rw [HLE.out _ hj]; omega) (jp + 1)
                  have fb := HR2.out.free (by rw [HLE.out _ hj]; omega) jp
                  obtain ⟨u, cc⟩ := HR2.out.two (i := jp + 1) (j := jp) (by rw [HLE.out _ hj]; omega) (by rw [HLE.out _ hj]; omega) (y : Nat)
                  have HR3 : Hid (Rn w (ints (insAt P x jp)) (.slice (some ⟨g, 0, none⟩) (L + 1) cc2) ((w5.setCell ⟨g, jp + 1, none⟩ (.int .i64 (y : Nat))).setCell ⟨g, jp, none⟩ (.int .i64 (x : Nat)))) := Lib.hid (by
                    have h1 := (HR2.out.set (j := jp + 1) (by rw [HLE.out _ hj]; omega) (y : Nat)).set (j := jp) (by rw [List.length_set, HLE.out _ hj]; omega) (x : Nat)
                    rw [ints_set, ints_set, HY.out, insAt_step P x (by rw [← HL.out]; exact hj), ← HY.out] at h1
                    exact h1)
                  clear HR2
                  go_wp2
                  go_roundw
                  case rel =>
                    refine ⟨jp, by go_num, by omega, fun p hp => ?_, HR3.out⟩
                    rw [drop_at P (by rw [← HL.out]; exact hjpL)] at hp
                    rcases List.mem_cons.1 hp with rfl | hp
                    · rw [← HY.out]; exact HYX.out
                    · exact HD.out p hp
                  case measure => simp [intOf]
                · have hyx' : (x : Int) ≤ y := by omega
                  have HYX : Hid (x ≤ y) := Lib.hid (by omega)
                  have hyd : decide ((y : Int) < x) = false := decide_eq_false (by omega)
                  go_wp2
                  go_quiet (fail)
                  have HR2 := Lib.hid (HR.out.drewN nq)
                  clear HR qa qb
                  generalize wr.drewN nq = w5 at HR2 ⊢
                  go_wp2
                  go_roundw
                  case rel =>
                    refine ⟨k + 1, insAt P x (jp + 1), some ⟨g, 0, none⟩, cc2, by rw [insAt_len _ _ (by rw [← HL.out]; exact hj), ← HL.out], by go_num, by omega, ?_⟩
                    rw [insAt_len _ _ (by rw [← HL.out]; exact hj), ← HL.out]
                    exact HU.out.more (by rw [← HN.out]; exact hlt) HZ.out.symm HXB.out.1 HXB.out.2 (insAt_dn HU.out.dn (by rw [← HL.out]; exact hj) (fun p hp => Nat.le_of_lt (HD.out p hp)) (.inr (by rw [Nat.add_sub_cancel, ← HY.out]; exact HYX.out))) (insAt_perm P x _) HR2.out
                  case measure => simp [intOf]; omega
              · have hj0' : j = 0 := by omega
                subst hj0'
                go_wp2
                go_quiet (fail)
                have HR2 := Lib.hid (HR.out.drewN nq)
                clear HR
                generalize wr.drewN nq = w5 at HR2 ⊢
                go_wp2
                go_roundw
                case rel =>
                  refine ⟨k + 1, insAt P x 0, some ⟨g, 0, none⟩, cc2, by rw [insAt_len _ _ (Nat.zero_le _), ← HL.out], by go_num, by omega, ?_⟩
                  rw [insAt_len _ _ (Nat.zero_le _), ← HL.out]
                  exact HU.out.more (by rw [← HN.out]; exact hlt) HZ.out.symm HXB.out.1 HXB.out.2 (insAt_dn HU.out.dn (Nat.zero_le _) (fun p hp => Nat.le_of_lt (HD.out p hp)) (.inl rfl)) (insAt_perm P x _) HR2.out
                case measure => simp [intOf]; omega
    · have hk' : (n : Int) ≤ k := by omega
      go_wp2
      go_ret2
      have hkn : k = zs.length := by rw [← HN.out]; omega
      refine .inr ⟨good_all fun j hj => HU.out.ok j (by omega), P, eo, cu, rfl, HU.out.dn, ?_, own_is (n := P.length) (by have h := HU.out.rn.own; rwa [ints_len] at h) (by rw [ints_len]), HU.out.rn.below⟩
      have h := HU.out.perm
      rwa [hkn, List.take_length] at h
end Go.Proofs.Ytccfbkbfmkdapaa
