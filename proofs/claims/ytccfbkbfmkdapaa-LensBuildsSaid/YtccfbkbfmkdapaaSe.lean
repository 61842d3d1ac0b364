/-
  Contract: symMergeCmpFunc at a row of symbols, where one of the two rows is a single symbol.
-/
import Derived.Test.YtccfbkbfmkdapaaSd
namespace Go.Proofs.Ytccfbkbfmkdapaa
open Go.RowKit Go.Sort

/-- Two rows are merged. -/
structure Mg (key : Nat → Int) (w0 : World) (b N : Nat) (d : Array Nat) (lo hi : Nat) (d' : Array Nat) (W : World) : Prop where
  s : Srt w0 b N d' W
  perm : PermIn lo hi d d'
  asc : Asc key d' lo hi

theorem half_u (i j : Nat) (hi : i + j ≤ 4000) : wrap64 (IntKind.u64.wrap ((i + j : Nat) : Int) / 2) = (((i + j) / 2 : Nat) : Int) := by
  rw [IntKind.wrap_u64]
  unfold wrap64
  omega

set_option maxHeartbeats 8000000 in
set_option maxRecDepth 100000 in
theorem merge_one (key : Nat → Int) (cx b N c lo m hi : Nat) (d : Array Nat) (w0 w : World) (HC0 : Cmp key N cx b w0) (S : Srt w0 b N d w) (h1 : m = lo + 1) (h2 : m < hi) (h3 : hi ≤ d.size) (hsz : d.size ≤ 1000) (hB : Asc key d m hi) :
    Calls Try.prog 49 #[.slice (some ⟨b, 0, none⟩) d.size c, .int .i64 lo, .int .i64 m, .int .i64 hi, .func (.func 38) #[] #[.pointer (some ⟨cx, 0, none⟩)]] w fun e w' =>
      e = .returned (.tuple #[]) ∧ ∃ d', Mg key w0 b N d lo hi d' w' := by
  have S0 := Lib.hid S
  have HC := Lib.hid HC0
  have HB := Lib.hid hB
  have hm1 := Lib.hid h1
  have e0 : IntKind.i64.wrap ((m : Int) - lo) = 1 := by rw [IntKind.wrap_i64]; omega
  clear S HC0 hB
  have hlm : lo < m := by omega
  have b0 : (lo : Int) < d.size := by omega
  clear h1
  go_enter Try.func49, Try.ntmps49
  go_wp2
  go_loopw [10, 11] (fun iv jv wr => ∃ i j : Nat, iv = .int .i64 i ∧ jv = .int .i64 j ∧ m ≤ i ∧ i ≤ j ∧ j ≤ hi ∧ Srt w0 b N d wr ∧ (∀ x, m ≤ x → x < i → key d[x]! < key d[lo]!) ∧ (∀ x, j ≤ x → x < hi → key d[lo]! ≤ key d[x]!)) (fun iv jv _ => (intOf jv).toNat - (intOf iv).toNat)
  case atStart => exact ⟨m, hi, rfl, rfl, Nat.le_refl _, by omega, Nat.le_refl _, S0.out, fun x _ _ => by omega, fun x _ _ => by omega⟩
  case round =>
    obtain ⟨i, j, rfl, rfl, hmi, hij, hjh, hs, hg, hb⟩ := hrel
    have SR := Lib.hid hs
    have HG := Lib.hid hg
    have HBd := Lib.hid hb
    clear hs hg hb S0
    by_cases hlt : i < j
    · have hlt' : (i : Int) < j := by omega
      have e1 : IntKind.i64.wrap ((i : Int) + j) = ((i + j : Nat) : Int) := by rw [IntKind.wrap_i64]; omega
      have e2 := half_u i j (by omega)
      obtain ⟨h, hh⟩ : ∃ h, h = (i + j) / 2 := ⟨_, rfl⟩
      have hhi : i ≤ h ∧ h < j := by omega
      obtain ⟨hhi1, hhi2⟩ := hhi
      obtain ⟨sm, hsm⟩ : ∃ sm, sm = i + j := ⟨_, rfl⟩
      rw [← hh] at e2
      rw [← hsm] at e1 e2
      clear hh hsm
      have b1 : (h : Int) < d.size := by omega
      have ca := SR.out.cell h (by omega)
      have cb := SR.out.cell lo (by omega)
      obtain ⟨x, hx⟩ : ∃ x, x = d[h]! := ⟨_, rfl⟩
      obtain ⟨y, hy⟩ : ∃ y, y = d[lo]! := ⟨_, rfl⟩
      have HX := Lib.hid hx
      have HY := Lib.hid hy
      rw [← hx] at ca
      rw [← hy] at cb
      have HL : Hid (x < N ∧ y < N) := Lib.hid ⟨by rw [hx]; exact SR.out.lt h (by omega), by rw [hy]; exact SR.out.lt lo (by omega)⟩
      have HCC : Hid (∀ n, Calls Try.prog 38 #[.int .i64 (x : Nat), .int .i64 (y : Nat), .pointer (some ⟨cx, 0, none⟩)] (wr.drewN n) fun e w' => e = .returned (.int .i64 (ci (key x) (key y))) ∧ ∃ q, w' = (wr.drewN n).drewN q) :=
        Lib.hid fun n => HC.out _ (SR.out.touch.drewN n) x y HL.out.1 HL.out.2
      clear hx hy
      cases hlv : ltk key x y with
      | true =>
        have hv := ltk_ci' key x y hlv
        obtain ⟨cv, hcv⟩ : ∃ cv, cv = ci (key x) (key y) := ⟨_, rfl⟩
        rw [← hcv] at HCC hv
        have HLV : Hid (key x < key y) := Lib.hid (of_decide_eq_true hlv)
        clear hcv hlv
        go_wp2
        go_quiet ((go_at_call 38; exact Calls.quiet_of (HCC.out _)))
        have SJ2 := Lib.hid (SR.out.drewN nq)
        clear ca cb SR HCC
        generalize wr.drewN nq = w2 at SJ2 ⊢
        go_wp2
        go_roundw
        case rel =>
          refine ⟨h + 1, j, by go_num, rfl, by omega, by omega, hjh, SJ2.out, fun z hz1 hz2 => ?_, HBd.out⟩
          have := HB.out z h hz1 (by omega) (by omega)
          have h4 := HLV.out
          rw [HX.out, HY.out] at h4
          omega
        case measure => simp [intOf]; omega
      | false =>
        have hv : ¬ ci (key x) (key y) < 0 := of_decide_eq_false (ltk_ci key x y false hlv)
        obtain ⟨cv, hcv⟩ : ∃ cv, cv = ci (key x) (key y) := ⟨_, rfl⟩
        rw [← hcv] at HCC hv
        have HLV : Hid (¬ key x < key y) := Lib.hid (of_decide_eq_false hlv)
        have hv' : 0 ≤ cv := by omega
        have hd : decide (cv < 0) = false := decide_eq_false hv
        clear hcv hlv hv
        go_wp2
        go_quiet ((go_at_call 38; exact Calls.quiet_of (HCC.out _)))
        have SJ2 := Lib.hid (SR.out.drewN nq)
        clear ca cb SR HCC
        generalize wr.drewN nq = w2 at SJ2 ⊢
        go_wp2
        go_roundw
        case rel =>
          refine ⟨i, h, rfl, rfl, hmi, hhi1, by omega, SJ2.out, HG.out, fun z hz1 hz2 => ?_⟩
          have := HB.out h z (by omega) hz1 hz2
          have h4 := HLV.out
          rw [HX.out, HY.out] at h4
          omega
        case measure => simp [intOf]; omega
    · have hij' : i = j := by omega
      subst hij'
      have e3 : IntKind.i64.wrap ((i : Int) - 1) = ((i - 1 : Nat) : Int) := by rw [IntKind.wrap_i64]; omega
      obtain ⟨t, ht⟩ : ∃ t, t = i - 1 - lo := ⟨_, rfl⟩
      have HT := Lib.hid ht
      have ht2 : lo + t = i - 1 := by omega
      have ht3 : i ≤ hi := hjh
      have HI2 := Lib.hid (And.intro hmi hjh)
      rw [← ht2] at e3
      clear ht
      go_wp2
      go_loopw [13] (fun kv w1 => ∃ k : Nat, k ≤ t ∧ kv = .int .i64 ((lo + k : Nat) : Int) ∧ Srt w0 b N (shl d lo k) w1) (fun kv _ => lo + t - (intOf kv).toNat)
      case atStart => exact ⟨0, Nat.zero_le _, rfl, SR.out⟩
      case round =>
        obtain ⟨k, hk, rfl, hs⟩ := hrel
        have S1 := Lib.hid hs
        clear hs SR
        by_cases hkt : k < t
        · obtain ⟨iN, hiN⟩ : ∃ q, q = lo + k := ⟨_, rfl⟩
          obtain ⟨jN, hjN⟩ : ∃ q, q = lo + k + 1 := ⟨_, rfl⟩
          have eN := Lib.hid (And.intro hiN hjN)
          have hcmp : ((iN : Int) < ((lo + t : Nat) : Int)) := by omega
          have hsw := shl_size d lo k
          obtain ⟨x, hx⟩ : ∃ x, x = (shl d lo k)[iN]! := ⟨_, rfl⟩
          obtain ⟨y, hy⟩ : ∃ y, y = (shl d lo k)[jN]! := ⟨_, rfl⟩
          have ca := S1.out.cell iN (by omega)
          have cb := S1.out.cell jN (by omega)
          have fa := S1.out.free iN (by omega)
          have fb := S1.out.free jN (by omega)
          obtain ⟨u, cc⟩ := S1.out.two iN jN (by omega) (by omega) (.int .i64 (y : Nat))
          have S3 := Lib.hid (S1.out.swap iN jN (by omega) (by omega)).drew
          rw [← hx, ← hy] at S3
          rw [← hx] at ca
          rw [← hy] at cb
          have e4 : IntKind.i64.wrap ((iN : Int) + 1) = jN := by rw [IntKind.wrap_i64]; omega
          have b1 : (iN : Int) < d.size := by omega
          have b2 : (jN : Int) < d.size := by omega
          rw [← hiN]
          clear hx hy hiN hjN hsw S1
          go_wp2
          go_region
          generalize ((wr.setCell ⟨b, iN, none⟩ (.int .i64 (y : Nat))).setCell ⟨b, jN, none⟩ (.int .i64 (x : Nat))).drew = w3 at S3 ⊢
          go_wp2
          go_roundw
          case rel => exact ⟨k + 1, by omega, by have := eN.out; first | go_num | (congr 1; omega), by rw [shl, ← eN.out.2, ← eN.out.1]; exact S3.out⟩
          case measure => have := eN.out; simp [intOf]; omega
        · have hkt' : k = t := by omega
          subst hkt'
          go_wp2
          refine bodyPost_ret (results_none rfl _ _ _) rfl ?_
          have := hm1.out
          have h5 := HI2.out
          refine ⟨rfl, _, S1.out, shl_perm d lo _ lo hi (Nat.le_refl _) (by omega) h3, ?_⟩
          rw [HT.out]
          exact shl_asc key d lo hi i h3 (by omega) (by omega) (by rw [← this]; exact HB.out) (by rw [← this]; exact HG.out) HBd.out

end Go.Proofs.Ytccfbkbfmkdapaa
