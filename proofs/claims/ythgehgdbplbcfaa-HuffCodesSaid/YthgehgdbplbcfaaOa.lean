/-
  HuffOrder: the walk.
-/
import Derived.Test.YthgehgdbplbcfaaT
namespace Go.Proofs.Ythgehgdbplbcfaa
open Go.RowKit

/-- Bits of a symbol that there is, whether it has a code or not. -/
theorem Bits_any (p s : Nat) (ls : List Nat) (w : World) (h : CodeAt w p ls) (hs : s < ls.length) (V n : Nat) (b : Bool) (hV : rv (ln ls s) (cd ls s) = V) (hn : ln ls s = n) (hb : decide (n ≠ 0) = b) :
    Calls Try.prog 15 #[.pointer (some ⟨p, 0, none⟩), .int .i64 s] w fun e w' => e = .returned (.tuple #[.int .u32 V, .int .i64 n, .bool b]) ∧ ∃ nq, w' = w.drewN nq := by
  by_cases h0 : n = 0
  · subst h0
    have hV0 : V = 0 := by rw [← hV, hn]; rfl
    subst hV0
    have hb0 : b = false := by rw [← hb]; rfl
    subst hb0
    refine (Bits_no p s ls w h (.inr (.inr ⟨s, rfl, hs, hn⟩))).mono ?_
    rintro e w' ⟨rfl, rfl⟩
    exact ⟨rfl, 0, rfl⟩
  · have hb1 : b = true := by rw [← hb]; simpa using h0
    subst hb1
    exact Bits_yes p s ls w h (by omega) V n hV hn

theorem lo_of {ls : List Nat} (H : Ok ls) {s : Nat} (hs : ln ls s ≠ 0) : rv (ln ls s) (rv (ln ls s) (cd ls s)) = cd ls s := by
  rw [rv_rv, Nat.mod_eq_of_lt (cd_lt H hs)]
theorem lo_lt {ls : List Nat} (H : Ok ls) {s : Nat} (hs : ln ls s ≠ 0) : cd ls s * 2 ^ (15 - ln ls s) < 32768 := by
  have h1 := hi_room H hs
  have h2 := lo_hi ls s
  have h3 := H.few
  unfold lo at h2
  omega

theorem shl_eq (x k z : Nat) (h : z = x * 2 ^ k) (hz : z < 32768) : (x : Int) * 2 ^ k % 4294967296 = (z : Nat) := by
  have e : ((x * 2 ^ k : Nat) : Int) = (x : Int) * 2 ^ k := by simp
  rw [← e, ← h]
  omega

set_option maxRecDepth 100000 in
set_option maxHeartbeats 3200000 in
theorem order_ok (ao : Option Addr) (c : Nat) (zs : List Int) (w : World) (h : IS w ao zs) (hv : Vd zs) (hm : room (nat zs) ≤ 32768) :
    Calls Try.prog 7 #[.slice ao zs.length c] w fun e w' => e = .returned (.bool true) ∧ Below w.heap.size w w' := by
  have HI := Lib.hid h
  have HV := Lib.hid hv
  have HM := Lib.hid hm
  have hl : (zs.length : Int) ≤ 320 := by have := hv.len; omega
  clear h hv hm
  go_enter Try.func7, Try.ntmps7
  go_wp2_with fail
  refine (alive_any w).mono ?_
  rintro e w1 ⟨rfl, hb1⟩
  go_wp2_with fail
  refine (New_ok ao c zs _ (HI.out.below hb1) HV.out HM.out).mono ?_
  rintro e w2 ⟨p, rfl, hc, hb2⟩
  have HC := Lib.hid hc
  have HB : Hid (Below w.heap.size w w2) := Lib.hid (hb1.trans (hb2.mono hb1.size))
  have HL := Lib.hid (nat_len zs)
  obtain ⟨ls, hls⟩ : ∃ ls, ls = nat zs := ⟨_, rfl⟩
  rw [← hls] at HC HL
  clear hc hb1 hb2 hls HM
  go_wp2
  go_loopw [5] (fun i wr => ∃ a q : Nat, a ≤ zs.length ∧ i = .int .i64 a ∧ wr = w2.drewN q) (fun i _ => zs.length - (intOf i).toNat)
  case atStart => exact ⟨0, 0, Nat.zero_le _, rfl, rfl⟩
  case round =>
    obtain ⟨a, q, ha, rfl, rfl⟩ := hrel
    by_cases hlt : a < zs.length
    · have hal : a < ls.length := by rw [HL.out]; exact hlt
      have haa : (a : Int) < zs.length := by omega
      obtain ⟨n, hn⟩ : ∃ n, n = ln ls a := ⟨_, rfl⟩
      obtain ⟨V, hV⟩ : ∃ V, V = rv (ln ls a) (cd ls a) := ⟨_, rfl⟩
      have hn15 : n ≤ 15 := by rw [hn]; exact ln_le HC.out.ok a
      have HN := Lib.hid hn.symm
      have HVV := Lib.hid hV.symm
      clear hn hV
      by_cases h0 : n = 0
      · have hbf : Hid (decide (n ≠ 0) = false) := Lib.hid (by simp [h0])
        clear h0
        go_wp2_with fail
        refine (Bits_any p a ls _ (HC.out.drewN q) hal V n false HVV.out HN.out hbf.out).mono ?_
        rintro e w3 ⟨rfl, nq, rfl⟩
        go_wp2
        have hz0 : (0 : Int) < zs.length := by omega
        have hz0' : 0 < zs.length := by omega
        refine wp_loop_rounds 1 ?_
        rw [rounds_succ]
        go_wp2
        go_roundw
        case rel => exact ⟨a + 1, _, by omega, by go_num, rfl⟩
        case measure => simp [intOf]; omega
      · have hbt : Hid (decide (n ≠ 0) = true) := Lib.hid (by simp [h0])
        have HN0 : Hid (ln ls a ≠ 0) := Lib.hid (by rw [HN.out]; exact h0)
        have hn1 : 1 ≤ n := by omega
        clear h0
        go_wp2_with fail
        refine (Bits_any p a ls _ (HC.out.drewN q) hal V n true HVV.out HN.out hbt.out).mono ?_
        rintro e w3 ⟨rfl, nq, rfl⟩
        go_wp2
        go_loopw [9] (fun i wr => ∃ b q : Nat, b ≤ zs.length ∧ i = .int .i64 b ∧ wr = w2.drewN q) (fun i _ => zs.length - (intOf i).toNat)
        case atStart => exact ⟨0, _, Nat.zero_le _, rfl, rfl⟩
        case round =>
          obtain ⟨b, q2, hb, rfl, rfl⟩ := hrel
          by_cases hlt2 : b < zs.length
          · have hbl : b < ls.length := by rw [HL.out]; exact hlt2
            have hbb : (b : Int) < zs.length := by omega
            obtain ⟨m, hm⟩ : ∃ m, m = ln ls b := ⟨_, rfl⟩
            obtain ⟨X, hX⟩ : ∃ X, X = rv (ln ls b) (cd ls b) := ⟨_, rfl⟩
            have hm15 : m ≤ 15 := by rw [hm]; exact ln_le HC.out.ok b
            have HM := Lib.hid hm.symm
            have HX := Lib.hid hX.symm
            clear hm hX
            by_cases h0 : m = 0
            · have hbf : Hid (decide (m ≠ 0) = false) := Lib.hid (by simp [h0])
              clear h0
              go_wp2_with fail
              refine (Bits_any p b ls _ (HC.out.drewN q2) hbl X m false HX.out HM.out hbf.out).mono ?_
              rintro e w4 ⟨rfl, nq4, rfl⟩
              go_wp2
              go_roundw
              case rel => exact ⟨b + 1, _, by omega, by go_num, rfl⟩
              case measure => simp [intOf]; omega
            · have hbt2 : Hid (decide (m ≠ 0) = true) := Lib.hid (by simp [h0])
              have HM0 : Hid (ln ls b ≠ 0) := Lib.hid (by rw [HM.out]; exact h0)
              have hm1 : 1 ≤ m := by omega
              clear h0
              by_cases hord : n < m ∨ n = m ∧ a < b
              · -- the values
                have hv1 := rv_cd HC.out.ok HN0.out
                have hv2 := rv_cd HC.out.ok HM0.out
                rw [HVV.out] at hv1
                rw [HX.out] at hv2
                have hV32 := hv1.1
                have hX32 := hv2.1
                have hlo := hi_lo HC.out.ok HN0.out HM0.out (by rw [HN.out, HM.out]; exact hord)
                have hlh := lo_hi ls a
                have hl1 := lo_lt HC.out.ok HN0.out
                have hl2 := lo_lt HC.out.ok HM0.out
                have hr1 := lo_of HC.out.ok HN0.out
                have hr2 := lo_of HC.out.ok HM0.out
                unfold lo at hlo hlh
                have hlt3 : cd ls a * 2 ^ (15 - ln ls a) < cd ls b * 2 ^ (15 - ln ls b) := by omega
                rw [HN.out, HM.out] at hlt3
                rw [HN.out] at hl1 hr1
                rw [HM.out] at hl2 hr2
                rw [show rv n (cd ls a) = V by rw [← HN.out]; exact HVV.out] at hr1
                rw [show rv m (cd ls b) = X by rw [← HM.out]; exact HX.out] at hr2
                obtain ⟨x, hx⟩ : ∃ x, x = cd ls a := ⟨_, rfl⟩
                obtain ⟨y, hy⟩ : ∃ y, y = cd ls b := ⟨_, rfl⟩
                rw [← hx] at hlt3 hl1 hr1
                rw [← hy] at hlt3 hl2 hr2
                have HR1 := Lib.hid hr1
                have HR2 := Lib.hid hr2
                clear hv1 hv2 hlo hlh hr1 hr2 hx hy
                obtain ⟨x2, hx2⟩ : ∃ x2, x2 = x * 2 ^ (15 - n) := ⟨_, rfl⟩
                obtain ⟨y2, hy2⟩ : ∃ y2, y2 = y * 2 ^ (15 - m) := ⟨_, rfl⟩
                rw [← hx2] at hlt3 hl1
                rw [← hy2] at hlt3 hl2
                have HX2 := Lib.hid hx2
                have HY2 := Lib.hid hy2
                clear hx2 hy2
                have hlt4 : (x2 : Int) < y2 := by omega
                have e1 := shl_eq x (15 - n) x2 HX2.out hl1
                have e2 := shl_eq y (15 - m) y2 HY2.out hl2
                rcases hord with hord | ⟨hnm, hab⟩
                · have hnm' : (n : Int) < m := by omega
                  go_wp2_with fail
                  refine (Bits_any p b ls _ (HC.out.drewN q2) hbl X m true HX.out HM.out hbt2.out).mono ?_
                  rintro e w4 ⟨rfl, nq4, rfl⟩
                  go_wp2_with fail
                  refine (reverse_yes V n _ hV32 (by omega)).mono ?_
                  rw [HR1.out]
                  rintro e w5 ⟨rfl, rfl⟩
                  go_wp2_with fail
                  refine (reverse_yes X m _ hX32 (by omega)).mono ?_
                  rw [HR2.out]
                  rintro e w5 ⟨rfl, rfl⟩
                  go_wp2_with fail
                  go_roundw
                  case rel => exact ⟨b + 1, _, by omega, by go_num, rfl⟩
                  case measure => simp [intOf]; omega
                · subst hnm
                  have hab' : (a : Int) < b := by omega
                  have d1 : decide ((n : Int) < n) = false := by simp
                  have d2 : ((n : Int) == n) = true := by simp
                  go_wp2_with fail
                  refine (Bits_any p b ls _ (HC.out.drewN q2) hbl X n true HX.out HM.out hbt2.out).mono ?_
                  rintro e w4 ⟨rfl, nq4, rfl⟩
                  go_wp2_with fail
                  refine (reverse_yes V n _ hV32 (by omega)).mono ?_
                  rw [HR1.out]
                  rintro e w5 ⟨rfl, rfl⟩
                  go_wp2_with fail
                  refine (reverse_yes X n _ hX32 (by omega)).mono ?_
                  rw [HR2.out]
                  rintro e w5 ⟨rfl, rfl⟩
                  go_wp2_with fail
                  go_roundw
                  case rel => exact ⟨b + 1, _, by omega, by go_num, rfl⟩
                  case measure => simp [intOf]; omega
              · have d1 : decide ((n : Int) < m) = false := by simp; omega
                have d1' : decide (n < m) = false := by simp; omega
                by_cases hnm : n = m
                · subst hnm
                  have d2 : ((n : Int) == n) = true := by simp
                  have d3 : decide ((a : Int) < b) = false := by simp; omega
                  have d4 : decide (a < b) = false := by simp; omega
                  clear hord
                  go_wp2_with fail
                  refine (Bits_any p b ls _ (HC.out.drewN q2) hbl X n true HX.out HM.out hbt2.out).mono ?_
                  rintro e w4 ⟨rfl, nq4, rfl⟩
                  go_wp2_with fail
                  go_roundw
                  case rel => exact ⟨b + 1, _, by omega, by go_num, rfl⟩
                  case measure => simp [intOf]; omega
                · have d2 : ((n : Int) == m) = false := by simp; omega
                  clear hord
                  go_wp2_with fail
                  refine (Bits_any p b ls _ (HC.out.drewN q2) hbl X m true HX.out HM.out hbt2.out).mono ?_
                  rintro e w4 ⟨rfl, nq4, rfl⟩
                  go_wp2_with fail
                  go_roundw
                  case rel => exact ⟨b + 1, _, by omega, by go_num, rfl⟩
                  case measure => simp [intOf]; omega
          · have : b = zs.length := by omega
            subst this
            go_wp2
            go_roundw
            case rel => exact ⟨a + 1, _, by omega, by go_num, rfl⟩
            case measure => simp [intOf]; omega
    · have : a = zs.length := by omega
      subst this
      go_wp2
      go_ret
      exact ⟨rfl, below_drewN HB.out _⟩
end Go.Proofs.Ythgehgdbplbcfaa
