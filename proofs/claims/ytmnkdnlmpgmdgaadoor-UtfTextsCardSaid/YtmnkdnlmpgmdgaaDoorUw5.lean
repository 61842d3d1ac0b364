/-
  The document's own Lines; bytes copied.
-/
import Derived.Test.YtmnkdnlmpgmdgaaDoorUw4
namespace Go.Proofs.YtmnkdnlmpgmdgaaDoor
open Go.RowKit U
set_option maxRecDepth 100000

theorem copy_any (ao : Option Addr) (c : Nat) (xs : List Nat) (w : World) (h : Sl w ao c xs) (hm : xs.length ≤ 1000000) :
    Calls Tryd.prog 9 #[.slice ao xs.length c] w (OwnB xs w) := by
  have HCA := Lib.hid (h.below (lit_below w (.cells #[] 5))).cells
  clear h
  go_enter Tryd.func9, Tryd.ntmps9
  go_wp2_with (at_builtin; refine wpList_append_x at22 rfl (.tmp 5) (.tmp 6) rfl w.heap.size (.slice (some ⟨w.heap.size, 0, none⟩) 0 0) (.slice ao xs.length c) 0 xs.length [] (u8s xs) rfl rfl (own_empty w 5 1) HCA.out (by rw [u8s_len, Nat.mul_one]) (u8s_one xs) (by simp) (by omega) (by omega) ?_; intro a2 c2 w2 hA; have HA := Lib.hid hA; clear hA)
  go_ret
  have hA := HA.out
  rw [Nat.zero_add, List.nil_append] at hA
  exact ⟨a2, c2, rfl, hA.own, (lit_below w _).trans (hA.below (own_empty w 5 1) (by simp))⟩
theorem lin_drop {b : List Nat} {k : Nat} (h : k < b.length) (p : Bool) : lin p (b.drop k) = if b.getD k 0 = 10 ∧ p = true then lin false (b.drop (k + 1)) else (if b.getD k 0 = 13 then 10 else b.getD k 0) :: lin (decide (b.getD k 0 = 13)) (b.drop (k + 1)) := by
  rw [List.drop_eq_getElem_cons h, lin]
  simp [List.getD, h]
theorem lin_le : ∀ (b : List Nat) (p : Bool), (lin p b).length ≤ b.length
  | [], p => by cases p <;> simp [lin]
  | x :: t, p => by
    unfold lin
    split
    · have := lin_le t false; simp only [List.length_cons]; omega
    · have := lin_le t (decide (x = 13)); simp only [List.length_cons]; omega

set_option maxHeartbeats 6400000 in
theorem rLines_any (ao : Option Addr) (c : Nat) (xs : List Nat) (w : World) (h : Sl w ao c xs) (hm : xs.length ≤ 1000000) :
    Calls Tryd.prog 29 #[.slice ao xs.length c] w (SlTo (lin false xs) w) := by
  have HS := Lib.hid h
  have hlb := lin_bs h.bs
  have hll := lin_len xs
  obtain ⟨R, hR⟩ : ∃ R, R = lin false xs := ⟨_, rfl⟩
  have HR := Lib.hid hR
  rw [← hR] at hlb hll ⊢
  have HLB := Lib.hid hlb
  obtain ⟨n, hn⟩ : ∃ n, n = xs.length := ⟨_, rfl⟩
  have HN := Lib.hid hn
  rw [← hn] at hm hll ⊢
  clear h hR hlb hn
  have HO0 := Lib.hid (own_empty w 5 1)
  have HB0 := Lib.hid (lit_below w (.cells #[] 5))
  go_enter Tryd.func29, Tryd.ntmps29
  go_wp2
  go_loopw [3, 4] (fun v3 v4 wr => ∃ (k : Nat) (a : Option Addr) (c' : Nat) (out : List Nat), k ≤ n ∧ v4 = .int .i64 k ∧ v3 = .slice a out.length c' ∧ out.length ≤ k ∧ Hid (out ++ lin (prv xs k) (xs.drop k) = R) ∧ wr.ownsRow w.heap.size 5 1 (.slice a out.length c') out.length (u8s out) ∧ Below w.heap.size w wr) (fun _ v4 _ => n - (intOf v4).toNat)
  case atStart => exact ⟨0, _, 0, [], Nat.zero_le _, rfl, rfl, Nat.zero_le _, Lib.hid (by rw [HR.out]; rfl), HO0.out, HB0.out⟩
  case round =>
    clear HO0 HB0
    obtain ⟨k, a, c', out, hk, rfl, rfl, hok, hrel, hown, hbw⟩ := hrel
    have HO := Lib.hid hown
    have HB := Lib.hid hbw
    clear hown hbw
    by_cases hlt : k < n
    · have hkk : (k : Int) < n := by omega
      have hkx : k < xs.length := by rw [← HN.out]; exact hlt
      rcases (HS.out.below HB.out).src with h0 | ⟨b, off, rfl, hc⟩
      · rw [h0] at hkx; simp at hkx
      have hcell := hc k hkx
      have HC := Lib.hid hc
      have hbx := HS.out.bs.at k
      have hst := hrel.out
      rw [lin_drop hkx, ← prv_succ] at hst
      obtain ⟨x, hx⟩ : ∃ x, x = xs.getD k 0 := ⟨_, rfl⟩
      rw [← hx] at hcell hst hbx
      obtain ⟨m, hmo⟩ : ∃ m, m = out.length := ⟨_, rfl⟩
      rw [← hmo] at hok HO ⊢
      have HMO := Lib.hid hmo
      have hz := HB.out.size
      have HST := Lib.hid hst
      have HPX : Hid (prv xs (k + 1) = decide (x = 13)) := Lib.hid (by rw [prv_succ, hx])
      clear hc hrel hst hx hmo
      have APP : Hid (∀ (y : Nat) (a2 : Option Addr) (c2 : Nat) (w2 : World), Apd (wr.alloc (.cells #[.int .u8 (y : Nat)] 5)) w.heap.size 5 1 (.slice a m c') (m + 1) (u8s out ++ [.int .u8 (y : Nat)]) (.slice a2 (m + 1) c2) w2 →
          w2.ownsRow w.heap.size 5 1 (.slice a2 (out ++ [y]).length c2) (out ++ [y]).length (u8s (out ++ [y])) ∧ Below w.heap.size w w2) := Lib.hid fun y a2 c2 w2 hA => by
        have hA2 := hA.alloc
        refine ⟨?_, HB.out.trans (hA2.below HO.out hz)⟩
        rw [List.length_append, ← HMO.out, ← u8s_app]
        exact hA2.own
      by_cases c13 : x = 13
      · subst c13
        have HR2 : Hid ((out ++ [10]) ++ lin (prv xs (k + 1)) (xs.drop (k + 1)) = R) := Lib.hid (by rw [← HST.out, if_neg (by simp), if_pos rfl]; simp)
        go_wp2_with (at_builtin; refine wpList_append_x at22 rfl (.tmp 34) (.tmp 35) rfl w.heap.size (.slice a m c') _ m 1 (u8s out) [.int .u8 10] rfl rfl (ownsRow_below HO.out ((Below.refl _ _).alloc (Nat.le_refl _) _)) (cells_one _ _ _) rfl (by intro u hu; rw [List.mem_singleton] at hu; subst hu; rfl) (by rw [alloc_size]; omega) (by omega) (by omega) ?_; intro a2 c2 w2 hA; have HA := Lib.hid (APP.out 10 a2 c2 w2 hA); clear hA)
        refine ⟨⟨k + 1, a2, c2, out ++ [10], by omega, by go_num, by rw [List.length_append, ← HMO.out]; rfl, by rw [List.length_append, ← HMO.out]; simp; omega, HR2, HA.out.1, HA.out.2⟩, ?_⟩
        simp [intOf]; omega
      · have c13' : ¬ (x : Int) = 13 := by omega
        by_cases c10 : x = 10
        · subst c10
          by_cases ck : k = 0
          · subst ck
            rw [Nat.add_zero] at hcell
            have HR2 : Hid ((out ++ [10]) ++ lin (prv xs (0 + 1)) (xs.drop (0 + 1)) = R) := Lib.hid (by rw [← HST.out, if_neg (by simp [prv]), if_neg (by decide)]; simp)
            go_wp2_with (at_builtin; refine wpList_append_x at22 rfl (.tmp 37) (.tmp 42) rfl w.heap.size (.slice a m c') _ m 1 (u8s out) [.int .u8 10] rfl rfl (ownsRow_below HO.out ((Below.refl _ _).alloc (Nat.le_refl _) _)) (cells_one _ _ _) rfl (by intro u hu; rw [List.mem_singleton] at hu; subst hu; rfl) (by rw [alloc_size]; omega) (by omega) (by omega) ?_; intro a2 c2 w2 hA; have HA := Lib.hid (APP.out 10 a2 c2 w2 hA); clear hA)
            refine ⟨⟨0 + 1, a2, c2, out ++ [10], by omega, by go_num, by rw [List.length_append, ← HMO.out]; rfl, by rw [List.length_append, ← HMO.out]; simp; omega, HR2, HA.out.1, HA.out.2⟩, ?_⟩
            simp [intOf]; omega
          · have ck' : ¬ (k : Int) = 0 := by omega
            have ck2 : (0 : Int) < k := by omega
            obtain ⟨j, hj⟩ : ∃ j, k = j + 1 := ⟨k - 1, by omega⟩
            have hcj := HC.out j (by omega)
            have hpr : prv xs k = decide (xs.getD j 0 = 13) := by rw [hj, prv_succ]
            have hsub : IntKind.i64.wrap ((k : Int) - 1) = (j : Int) := by rw [IntKind.wrap_i64]; omega
            obtain ⟨y, hy⟩ : ∃ y, y = xs.getD j 0 := ⟨_, rfl⟩
            rw [← hy] at hcj hpr
            have HPR := Lib.hid hpr
            have hjn : j < n := by omega
            clear hj hy hpr ck
            by_cases cy : y = 13
            · subst cy
              have HR2 : Hid (out ++ lin (prv xs (k + 1)) (xs.drop (k + 1)) = R) := Lib.hid (by rw [← HST.out, HPR.out, if_pos (by simp), HPX.out]; rfl)
              go_wp2
              refine ⟨⟨k + 1, a, c', out, by omega, by go_num, by rw [← HMO.out], by rw [← HMO.out]; omega, HR2, by rw [← HMO.out]; exact HO.out, HB.out⟩, ?_⟩
              simp [intOf]; omega
            · have cy' : ¬ (y : Int) = 13 := by omega
              have HR2 : Hid ((out ++ [10]) ++ lin (prv xs (k + 1)) (xs.drop (k + 1)) = R) := Lib.hid (by rw [← HST.out, HPR.out, if_neg (by simp [cy]), if_neg (by decide)]; simp)
              go_wp2_with (at_builtin; refine wpList_append_x at22 rfl (.tmp 37) (.tmp 42) rfl w.heap.size (.slice a m c') _ m 1 (u8s out) [.int .u8 10] rfl rfl (ownsRow_below HO.out ((Below.refl _ _).alloc (Nat.le_refl _) _)) (cells_one _ _ _) rfl (by intro u hu; rw [List.mem_singleton] at hu; subst hu; rfl) (by rw [alloc_size]; omega) (by omega) (by omega) ?_; intro a2 c2 w2 hA; have HA := Lib.hid (APP.out 10 a2 c2 w2 hA); clear hA)
              refine ⟨⟨k + 1, a2, c2, out ++ [10], by omega, by go_num, by rw [List.length_append, ← HMO.out]; rfl, by rw [List.length_append, ← HMO.out]; simp; omega, HR2, HA.out.1, HA.out.2⟩, ?_⟩
              simp [intOf]; omega
        · have c10' : ¬ (x : Int) = 10 := by omega
          have HR2 : Hid ((out ++ [x]) ++ lin (prv xs (k + 1)) (xs.drop (k + 1)) = R) := Lib.hid (by rw [← HST.out, if_neg (by simp [c10]), if_neg c13]; simp)
          go_wp2_with (at_builtin; refine wpList_append_x at22 rfl (.tmp 37) (.tmp 42) rfl w.heap.size (.slice a m c') _ m 1 (u8s out) [.int .u8 (x : Nat)] rfl rfl (ownsRow_below HO.out ((Below.refl _ _).alloc (Nat.le_refl _) _)) (cells_one _ _ _) rfl (by intro u hu; rw [List.mem_singleton] at hu; subst hu; rfl) (by rw [alloc_size]; omega) (by omega) (by omega) ?_; intro a2 c2 w2 hA; have HA := Lib.hid (APP.out x a2 c2 w2 hA); clear hA)
          refine ⟨⟨k + 1, a2, c2, out ++ [x], by omega, by go_num, by rw [List.length_append, ← HMO.out]; rfl, by rw [List.length_append, ← HMO.out]; simp; omega, HR2, HA.out.1, HA.out.2⟩, ?_⟩
          simp [intOf]; omega
    · obtain rfl : k = n := by omega
      have hfin : out = R := by
        have := hrel.out
        rw [HN.out, List.drop_length] at this
        rw [← this]
        cases prv xs xs.length <;> simp [lin]
      have HF := Lib.hid hfin
      clear hrel hfin
      obtain ⟨m, hmo⟩ : ∃ m, m = out.length := ⟨_, rfl⟩
      rw [← hmo] at HO ⊢
      have HMO := Lib.hid hmo
      clear hmo
      go_wp2
      go_ret
      refine ⟨a, c', by rw [← HF.out, ← HMO.out]; rfl, ?_, HB.out⟩
      have h1 := HO.out
      rw [HMO.out, HF.out] at h1
      exact own_sl h1 HLB.out
end Go.Proofs.YtmnkdnlmpgmdgaaDoor
