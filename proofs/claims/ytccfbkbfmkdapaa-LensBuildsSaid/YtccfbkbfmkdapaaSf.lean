/-
  Contract: symMergeCmpFunc at a row of symbols, where the second row is a single symbol.
-/
import Derived.Test.YtccfbkbfmkdapaaSe
namespace Go.Proofs.Ytccfbkbfmkdapaa
open Go.RowKit Go.Sort

set_option maxHeartbeats 8000000 in
set_option maxRecDepth 100000 in
theorem merge_last (key : Nat → Int) (cx b N c lo m hi : Nat) (d : Array Nat) (w0 w : World) (HC0 : Cmp key N cx b w0) (S : Srt w0 b N d w) (h1 : lo + 1 < m) (h2 : hi = m + 1) (h3 : hi ≤ d.size) (hsz : d.size ≤ 1000) (hA : Asc key d lo m) :
    Calls Try.prog 49 #[.slice (some ⟨b, 0, none⟩) d.size c, .int .i64 lo, .int .i64 m, .int .i64 hi, .func (.func 38) #[] #[.pointer (some ⟨cx, 0, none⟩)]] w fun e w' =>
      e = .returned (.tuple #[]) ∧ ∃ d', Mg key w0 b N d lo hi d' w' := by
  have S0 := Lib.hid S
  have HC := Lib.hid HC0
  have HB := Lib.hid hA
  have hm1 := Lib.hid h2
  obtain ⟨dl, hdl⟩ : ∃ dl, dl = m - lo := ⟨_, rfl⟩
  have e0 : IntKind.i64.wrap ((m : Int) - lo) = dl := by rw [IntKind.wrap_i64]; omega
  have e0' : ((dl : Int) == 1) = false := by simp; omega
  have e0'' : IntKind.i64.wrap ((hi : Int) - m) = 1 := by rw [IntKind.wrap_i64]; omega
  have hm3 : m < d.size := by omega
  clear S HC0 hA h2 hdl
  have b0 : (m : Int) < d.size := by omega
  go_enter Try.func49, Try.ntmps49
  go_wp2
  clear e0 e0' e0''
  go_loopw [14, 15] (fun iv jv wr => ∃ i j : Nat, iv = .int .i64 i ∧ jv = .int .i64 j ∧ lo ≤ i ∧ i ≤ j ∧ j ≤ m ∧ Srt w0 b N d wr ∧ (∀ x, lo ≤ x → x < i → key d[x]! ≤ key d[m]!) ∧ (∀ x, j ≤ x → x < m → key d[m]! < key d[x]!)) (fun iv jv _ => (intOf jv).toNat - (intOf iv).toNat)
  case atStart => exact ⟨lo, m, rfl, rfl, Nat.le_refl _, by omega, Nat.le_refl _, S0.out, fun x _ _ => by omega, fun x _ _ => by omega⟩
  case round =>
    obtain ⟨i, j, rfl, rfl, hmi, hij, hjh, hs, hg, hb⟩ := hrel
    have SR := Lib.hid hs
    have HG := Lib.hid hg
    have HBd := Lib.hid hb
    clear hs hg hb S0
    by_cases hlt : i < j
    · have hlt' : (i : Int) < j := by omega
      obtain ⟨h, hh⟩ : ∃ h, h = (i + j) / 2 := ⟨_, rfl⟩
      have hhi : i ≤ h ∧ h < j := by omega
      obtain ⟨hhi1, hhi2⟩ := hhi
      have b1 : (h : Int) < d.size := by omega
      have ca := SR.out.cell m (by omega)
      have cb := SR.out.cell h (by omega)
      obtain ⟨x, hx⟩ : ∃ x, x = d[m]! := ⟨_, rfl⟩
      obtain ⟨y, hy⟩ : ∃ y, y = d[h]! := ⟨_, rfl⟩
      have HX := Lib.hid hx
      have HY := Lib.hid hy
      rw [← hx] at ca
      rw [← hy] at cb
      have HL : Hid (x < N ∧ y < N) := Lib.hid ⟨by rw [hx]; exact SR.out.lt m (by omega), by rw [hy]; exact SR.out.lt h (by omega)⟩
      have HCC : Hid (∀ n, Calls Try.prog 38 #[.int .i64 (x : Nat), .int .i64 (y : Nat), .pointer (some ⟨cx, 0, none⟩)] (wr.drewN n) fun e w' => e = .returned (.int .i64 (ci (key x) (key y))) ∧ ∃ q, w' = (wr.drewN n).drewN q) :=
        Lib.hid fun n => HC.out _ (SR.out.touch.drewN n) x y HL.out.1 HL.out.2
      clear hx hy
      have e2 := half_u i j (by omega)
      have e1 : IntKind.i64.wrap ((i : Int) + j) = ((i + j : Nat) : Int) := by rw [IntKind.wrap_i64]; omega
      obtain ⟨sm, hsm⟩ : ∃ sm, sm = i + j := ⟨_, rfl⟩
      rw [← hh] at e2
      rw [← hsm] at e1 e2
      clear hh hsm
      have E2 := Lib.hid e2
      cases hlv : ltk key x y with
      | true =>
        have hv := ltk_ci' key x y hlv
        obtain ⟨cv, hcv⟩ : ∃ cv, cv = ci (key x) (key y) := ⟨_, rfl⟩
        rw [← hcv] at HCC hv
        have HLV : Hid (key x < key y) := Lib.hid (of_decide_eq_true hlv)
        have hd : decide (cv < 0) = true := decide_eq_true hv
        clear hcv hlv
        go_wp2
        go_quiet ((go_at_call 38; exact Calls.quiet_of (HCC.out _)))
        rw [e2]
        clear e1 e2
        have SJ2 := Lib.hid (SR.out.drewN nq)
        clear ca cb SR HCC
        generalize wr.drewN nq = w2 at SJ2 ⊢
        go_wp2
        go_roundw
        case rel =>
          refine ⟨i, h, rfl, rfl, hmi, hhi1, by omega, SJ2.out, HG.out, fun z hz1 hz2 => ?_⟩
          have := HB.out h z (by omega) hz1 hz2
          have h4 := HLV.out
          rw [HX.out, HY.out] at h4
          omega
        case measure => simp [intOf]; omega
      | false =>
        have hv : ¬ ci (key x) (key y) < 0 := of_decide_eq_false (ltk_ci key x y false hlv)
        obtain ⟨cv, hcv⟩ : ∃ cv, cv = ci (key x) (key y) := ⟨_, rfl⟩
        rw [← hcv] at HCC hv
        have HLV : Hid (¬ key x < key y) := Lib.hid (of_decide_eq_false hlv)
        have hv' : 0 ≤ cv := Int.not_lt.mp hv
        have hd : decide (cv < 0) = false := decide_eq_false hv
        clear hcv hlv hv
        go_wp2
        go_quiet ((go_at_call 38; exact Calls.quiet_of (HCC.out _)))
        clear e1 e2
        have SJ2 := Lib.hid (SR.out.drewN nq)
        clear ca cb SR HCC
        generalize wr.drewN nq = w2 at SJ2 ⊢
        go_wp2
        go_roundw
        case rel =>
          refine ⟨h + 1, j, by go_num, rfl, by omega, by omega, hjh, SJ2.out, fun z hz1 hz2 => ?_, HBd.out⟩
          have := HB.out z h hz1 (by omega) (by omega)
          have h4 := HLV.out
          rw [HX.out, HY.out] at h4
          omega
        case measure => simp [intOf]; omega
    · have hij' : i = j := by omega
      subst hij'
      obtain ⟨t, ht⟩ : ∃ t, t = m - i := ⟨_, rfl⟩
      have HT := Lib.hid ht
      have ht2 : i + t = m := by omega
      have HI2 := Lib.hid (And.intro hmi hjh)
      clear ht
      go_wp2
      go_loopw [17] (fun kv w1 => ∃ k : Nat, k ≤ t ∧ kv = .int .i64 ((m - k : Nat) : Int) ∧ Srt w0 b N (shr d m k) w1) (fun kv _ => (intOf kv).toNat)
      case atStart => exact ⟨0, Nat.zero_le _, rfl, SR.out⟩
      case round =>
        obtain ⟨k, hk, rfl, hs⟩ := hrel
        have S1 := Lib.hid hs
        clear hs SR
        by_cases hkt : k < t
        · obtain ⟨iN, hiN⟩ : ∃ q, q = m - k := ⟨_, rfl⟩
          obtain ⟨jN, hjN⟩ : ∃ q, q = m - k - 1 := ⟨_, rfl⟩
          have eN := Lib.hid (And.intro hiN hjN)
          have hcmp : ((i : Int) < (iN : Int)) := by omega
          have hsw := shr_size d m k
          obtain ⟨x, hx⟩ : ∃ x, x = (shr d m k)[iN]! := ⟨_, rfl⟩
          obtain ⟨y, hy⟩ : ∃ y, y = (shr d m k)[jN]! := ⟨_, rfl⟩
          have ca := S1.out.cell iN (by omega)
          have cb := S1.out.cell jN (by omega)
          have fa := S1.out.free iN (by omega)
          have fb := S1.out.free jN (by omega)
          obtain ⟨u, cc⟩ := S1.out.two iN jN (by omega) (by omega) (.int .i64 (y : Nat))
          have S3 := Lib.hid (S1.out.swap iN jN (by omega) (by omega)).drew
          rw [← hx, ← hy] at S3
          rw [← hx] at ca
          rw [← hy] at cb
          have e4 : IntKind.i64.wrap ((iN : Int) - 1) = jN := by rw [IntKind.wrap_i64]; omega
          have b1 : (iN : Int) < d.size := by omega
          have b2 : (jN : Int) < d.size := by omega
          have hle : jN < iN := by omega
          rw [← hiN]
          clear hx hy hiN hjN hsw S1
          go_wp2
          go_region
          generalize ((wr.setCell ⟨b, iN, none⟩ (.int .i64 (y : Nat))).setCell ⟨b, jN, none⟩ (.int .i64 (x : Nat))).drew = w3 at S3 ⊢
          go_wp2
          go_roundw
          case rel => exact ⟨k + 1, by omega, by have := eN.out; first | rfl | go_num | (congr 1; omega), by rw [shr, ← eN.out.2, ← eN.out.1]; exact S3.out⟩
          case measure => have := eN.out; simp [intOf]; omega
        · have hkt' : k = t := by omega
          subst hkt'
          have hcmp : decide ((i : Int) < ((m - k : Nat) : Int)) = false := decide_eq_false (by omega)
          have hcmp' : ((m - k : Nat) : Int) ≤ i := by omega
          go_wp2
          refine bodyPost_ret (results_none rfl _ _ _) rfl ?_
          have := hm1.out
          have h5 := HI2.out
          refine ⟨rfl, _, S1.out, shr_perm d m _ lo hi (by omega) (by omega) h3, ?_⟩
          rw [HT.out, this]
          exact shr_asc key d lo m i hm3 (by omega) (by omega) HB.out HG.out HBd.out
end Go.Proofs.Ytccfbkbfmkdapaa
