/-
  Contract: symMergeCmpFunc at a row of symbols.
-/
import Derived.Test.YtccfbkbfmkdapaaSf
namespace Go.Proofs.Ytccfbkbfmkdapaa
open Go.RowKit Go.Sort

/-- What merging comes to. -/
def MergeTo (key : Nat → Int) (cx b N c : Nat) (w0 : World) (k : Nat) : Prop :=
  ∀ (lo m hi : Nat) (d : Array Nat) (w : World), hi - lo ≤ k → Srt w0 b N d w → lo < m → m < hi → hi ≤ d.size → d.size ≤ 1000 → Asc key d lo m → Asc key d m hi →
    Calls Try.prog 49 #[.slice (some ⟨b, 0, none⟩) d.size c, .int .i64 lo, .int .i64 m, .int .i64 hi, .func (.func 38) #[] #[.pointer (some ⟨cx, 0, none⟩)]] w fun e w' =>
      e = .returned (.tuple #[]) ∧ ∃ d', Mg key w0 b N d lo hi d' w'

set_option maxHeartbeats 16000000 in
set_option maxRecDepth 100000 in
theorem merge_two (key : Nat → Int) (cx b N c : Nat) (w0 : World) (k : Nat) (HC0 : Cmp key N cx b w0) (IH : MergeTo key cx b N c w0 k) (lo m hi : Nat) (d : Array Nat) (w : World) (hk : hi - lo ≤ k + 1) (S : Srt w0 b N d w) (h1 : lo + 1 < m) (h2 : m + 1 < hi) (h3 : hi ≤ d.size) (hsz : d.size ≤ 1000) (hA : Asc key d lo m) (hB : Asc key d m hi) :
    Calls Try.prog 49 #[.slice (some ⟨b, 0, none⟩) d.size c, .int .i64 lo, .int .i64 m, .int .i64 hi, .func (.func 38) #[] #[.pointer (some ⟨cx, 0, none⟩)]] w fun e w' =>
      e = .returned (.tuple #[]) ∧ ∃ d', Mg key w0 b N d lo hi d' w' := by
  have S0 := Lib.hid S
  have HC := Lib.hid HC0
  have HI := Lib.hid IH
  have HA := Lib.hid hA
  have HB := Lib.hid hB
  have HK := Lib.hid hk
  clear S HC0 hA hB IH hk
  obtain ⟨dl, hdl⟩ : ∃ dl, dl = m - lo := ⟨_, rfl⟩
  obtain ⟨dr, hdr⟩ : ∃ dr, dr = hi - m := ⟨_, rfl⟩
  obtain ⟨sm, hsm⟩ : ∃ sm, sm = lo + hi := ⟨_, rfl⟩
  obtain ⟨mid, hmid⟩ : ∃ mid, mid = (lo + hi) / 2 := ⟨_, rfl⟩
  obtain ⟨nn, hnn⟩ : ∃ nn, nn = mid + m := ⟨_, rfl⟩
  have HM := Lib.hid hmid
  have hmid1 : lo < mid := by omega
  have hmid2 : mid < hi := by omega
  have HN := Lib.hid hnn
  have E2 := Lib.hid (half_u lo hi (by omega))
  rw [← hmid, ← hsm] at E2
  have E1 := Lib.hid (show IntKind.i64.wrap ((lo : Int) + hi) = sm by rw [IntKind.wrap_i64]; omega)
  have E3 := Lib.hid (show IntKind.i64.wrap ((mid : Int) + m) = nn by rw [IntKind.wrap_i64]; omega)
  have F1 := Lib.hid (show IntKind.i64.wrap ((m : Int) - lo) = dl by rw [IntKind.wrap_i64]; omega)
  have F2 := Lib.hid (show IntKind.i64.wrap ((hi : Int) - m) = dr by rw [IntKind.wrap_i64]; omega)
  have g1 : ((dl : Int) == 1) = false := by simp; omega
  have g2 : ((dr : Int) == 1) = false := by simp; omega
  clear hdl hdr hsm hmid hnn
  go_enter Try.func49, Try.ntmps49
  have f1 := F1.out
  go_upto_region 12 with fail
  clear f1
  have f2 := F2.out
  go_upto_region 24 with fail
  clear f2
  have e1 := E1.out
  have e2 := E2.out
  go_upto_region 25 with fail
  rw [e2]
  clear e1 e2
  have e3 := E3.out
  go_upto_if 140 with fail
  clear e3
  go_cut [20, 21] from 25 (fun s20 s21 wx => ∃ s0 r0 : Nat, s20 = .int .i64 s0 ∧ s21 = .int .i64 r0 ∧ wx = w ∧ ((mid < m ∧ s0 + hi = mid + m ∧ r0 = mid) ∨ (m ≤ mid ∧ s0 = lo ∧ r0 = m)))
  case first =>
    by_cases hc : mid < m
    · have hc' : (mid : Int) < m := by omega
      have Es := Lib.hid (show IntKind.i64.wrap ((nn : Int) - hi) = ((mid + m - hi : Nat) : Int) by have := HN.out; have := HM.out; rw [IntKind.wrap_i64]; omega)
      have es := Es.out
      go_wp2
      clear es
      go_meet
      case rel =>
        exact ⟨_, _, rfl, rfl, rfl, .inl ⟨hc, by have := HN.out; have := HM.out; omega, rfl⟩⟩
    · have hc' : (m : Int) ≤ mid := by omega
      go_wp2
      go_meet
      case rel => exact ⟨_, _, rfl, rfl, rfl, .inr ⟨by omega, rfl, rfl⟩⟩
  case rest =>
    obtain ⟨s0, r0, rfl, rfl, rfl, hs0⟩ := hcut
    have HS := Lib.hid hs0
    obtain ⟨pp, hpp⟩ : ∃ pp, pp = nn - 1 := ⟨_, rfl⟩
    have HP : Hid (pp + 1 = mid + m) := Lib.hid (by have := HN.out; omega)
    have ep := (show IntKind.i64.wrap ((nn : Int) - 1) = pp by have := HN.out; rw [IntKind.wrap_i64]; omega)
    have hr0 : s0 ≤ r0 := by have := HM.out; omega
    have hr1 : lo ≤ s0 := by have := HM.out; omega
    have hr2 : r0 ≤ m := by omega
    have hr3 : r0 ≤ mid := by omega
    have hr4 : mid + m ≤ hi + s0 := by have := HM.out; omega
    clear hs0 hpp
    go_wp2
    clear ep
    go_loopw [20, 21] (fun iv jv wr => ∃ i j : Nat, iv = .int .i64 i ∧ jv = .int .i64 j ∧ s0 ≤ i ∧ i ≤ j ∧ j ≤ r0 ∧ Srt w0 b N d wr ∧ (∀ x, s0 ≤ x → x < i → key d[x]! ≤ key d[mid + m - 1 - x]!) ∧ (∀ x, j ≤ x → x < r0 → key d[mid + m - 1 - x]! < key d[x]!)) (fun iv jv _ => (intOf jv).toNat - (intOf iv).toNat)
    case atStart => exact ⟨s0, r0, rfl, rfl, Nat.le_refl _, hr0, Nat.le_refl _, S0.out, fun x _ _ => by omega, fun x _ _ => by omega⟩
    case round =>
      obtain ⟨i, j, rfl, rfl, hmi, hij, hjh, hs, hg, hb⟩ := hrel
      have SR := Lib.hid hs
      have HG := Lib.hid hg
      have HBd := Lib.hid hb
      clear hs hg hb S0
      by_cases hlt : i < j
      · have hlt' : (i : Int) < j := by omega
        obtain ⟨h, hh⟩ : ∃ h, h = (i + j) / 2 := ⟨_, rfl⟩
        have hhi : i ≤ h ∧ h < j := by omega
        obtain ⟨hhi1, hhi2⟩ := hhi
        obtain ⟨g, hgg⟩ : ∃ g, g = pp - h := ⟨_, rfl⟩
        have hg1 : h ≤ pp := by have := HP.out; omega
        have hg2 : m ≤ g := by have := HP.out; omega
        have hg3 : g < hi := by have := HP.out; omega
        have hg4 : Hid (g = mid + m - 1 - h) := Lib.hid (by have := HP.out; omega)
        have EG := Lib.hid (show IntKind.i64.wrap ((pp : Int) - h) = g by rw [IntKind.wrap_i64]; omega)
        have b1 : (h : Int) < d.size := by omega
        have b2 : (g : Int) < d.size := by omega
        have E1' := Lib.hid (show IntKind.i64.wrap ((i : Int) + j) = ((i + j : Nat) : Int) by rw [IntKind.wrap_i64]; omega)
        have E2' := Lib.hid (half_u i j (by omega))
        obtain ⟨sq, hsq⟩ : ∃ sq, sq = i + j := ⟨_, rfl⟩
        rw [← hh] at E2'
        rw [← hsq] at E1' E2'
        clear hh hsq hgg
        have ca := SR.out.cell g (by omega)
        have cb := SR.out.cell h (by omega)
        obtain ⟨x, hx⟩ : ∃ x, x = d[g]! := ⟨_, rfl⟩
        obtain ⟨y, hy⟩ : ∃ y, y = d[h]! := ⟨_, rfl⟩
        have HX := Lib.hid hx
        have HY := Lib.hid hy
        rw [← hx] at ca
        rw [← hy] at cb
        have HL : Hid (x < N ∧ y < N) := Lib.hid ⟨by rw [hx]; exact SR.out.lt g (by omega), by rw [hy]; exact SR.out.lt h (by omega)⟩
        have HCC : Hid (∀ n, Calls Try.prog 38 #[.int .i64 (x : Nat), .int .i64 (y : Nat), .pointer (some ⟨cx, 0, none⟩)] (wr.drewN n) fun e w' => e = .returned (.int .i64 (ci (key x) (key y))) ∧ ∃ q, w' = (wr.drewN n).drewN q) :=
          Lib.hid fun n => HC.out _ (SR.out.touch.drewN n) x y HL.out.1 HL.out.2
        clear hx hy
        have ex1 : ∀ z, z ≤ h → s0 ≤ z → m ≤ mid + m - 1 - z ∧ mid + m - 1 - z < hi ∧ g ≤ mid + m - 1 - z := fun z hz hz2 => by have := hg4.out; omega
        have ex2 : ∀ z, h ≤ z → z < r0 → m ≤ mid + m - 1 - z ∧ mid + m - 1 - z ≤ g := fun z hz hz2 => by have := hg4.out; omega
        have EX := Lib.hid (And.intro ex1 ex2)
        clear ex1 ex2
        cases hlv : ltk key x y with
        | true =>
          have hv := ltk_ci' key x y hlv
          obtain ⟨cv, hcv⟩ : ∃ cv, cv = ci (key x) (key y) := ⟨_, rfl⟩
          rw [← hcv] at HCC hv
          have HLV : Hid (key x < key y) := Lib.hid (of_decide_eq_true hlv)
          have hd : decide (cv < 0) = true := decide_eq_true hv
          clear hcv hlv
          have e1 := E1'.out
          have e2 := E2'.out
          go_wp2
          try rw [e2]
          clear e1 e2
          have eg := EG.out
          go_quiet ((go_at_call 38; exact Calls.quiet_of (HCC.out _)))
          clear eg
          have SJ2 := Lib.hid (SR.out.drewN nq)
          clear ca cb SR HCC
          generalize wr.drewN nq = w2 at SJ2 ⊢
          go_wp2
          go_roundw
          case rel =>
            refine ⟨i, h, rfl, rfl, hmi, hhi1, by omega, SJ2.out, HG.out, fun z hz1 hz2 => ?_⟩
            have q := EX.out.2 z hz1 hz2
            have q1 := HA.out h z (by omega) hz1 (by omega)
            have q2 := HB.out (mid + m - 1 - z) g q.1 q.2 hg3
            have h4 := HLV.out
            rw [HX.out, HY.out] at h4
            omega
          case measure => simp [intOf]; omega
        | false =>
          have hv : ¬ ci (key x) (key y) < 0 := of_decide_eq_false (ltk_ci key x y false hlv)
          obtain ⟨cv, hcv⟩ : ∃ cv, cv = ci (key x) (key y) := ⟨_, rfl⟩
          rw [← hcv] at HCC hv
          have HLV : Hid (¬ key x < key y) := Lib.hid (of_decide_eq_false hlv)
          have hv' : 0 ≤ cv := Int.not_lt.mp hv
          have hd : decide (cv < 0) = false := decide_eq_false hv
          clear hcv hlv hv
          have e1 := E1'.out
          have e2 := E2'.out
          go_wp2
          try rw [e2]
          clear e1 e2
          have eg := EG.out
          go_quiet ((go_at_call 38; exact Calls.quiet_of (HCC.out _)))
          clear eg
          have SJ2 := Lib.hid (SR.out.drewN nq)
          clear ca cb SR HCC
          generalize wr.drewN nq = w2 at SJ2 ⊢
          go_wp2
          go_roundw
          case rel =>
            refine ⟨h + 1, j, by go_num, rfl, by omega, by omega, hjh, SJ2.out, fun z hz1 hz2 => ?_, HBd.out⟩
            have q := EX.out.1 z (by omega) hz1
            have q1 := HA.out z h (by omega) (by omega) (by omega)
            have q2 := HB.out g (mid + m - 1 - z) hg2 q.2.2 q.2.1
            have h4 := HLV.out
            rw [HX.out, HY.out] at h4
            omega
          case measure => simp [intOf]; omega
      · have hij' : i = j := by omega
        subst hij'
        have CA := Lib.hid (cut_at key d lo m hi mid i s0 r0 (by omega) (by omega) HM.out HA.out HB.out (by rcases HS.out with h | h; exact .inl ⟨h.1, by omega, h.2.2⟩; exact .inr h) ⟨hmi, hjh⟩ HG.out HBd.out)
        obtain ⟨en, hen⟩ : ∃ en, en = m + mid - i := ⟨_, rfl⟩
        have hm1 : i ≤ m := CA.out.a.2
        have hm2 : i ≤ mid := CA.out.l
        have hm3 : lo ≤ i := CA.out.a.1
        have hm4 : m ≤ en ∧ en ≤ hi := by have := CA.out.e; omega
        obtain ⟨hm5, hm6⟩ := hm4
        have EN := Lib.hid hen
        have ee := (show IntKind.i64.wrap ((nn : Int) - i) = en by have := HN.out; rw [IntKind.wrap_i64]; omega)
        have hem : mid ≤ en := by omega
        clear hen
        go_upto_region 39 with fail
        clear ee
        go_cut [185] from 178 (fun cv wx => cv = .bool (decide (i < m ∧ m < en)) ∧ wx = wr)
        case first =>
          by_cases q1 : i < m
          · have q1' : (i : Int) < m := by omega
            by_cases q2 : m < en
            · have q2' : (m : Int) < en := by omega
              go_wp2
              go_meet
              case rel => exact ⟨by simp [q1, q2], rfl⟩
            · have q2' : (en : Int) ≤ m := by omega
              go_wp2
              go_meet
              case rel => exact ⟨by simp [q1, q2], rfl⟩
          · have q1' : (m : Int) ≤ i := by omega
            go_wp2
            go_meet
            case rel => exact ⟨by simp [q1], rfl⟩
        case rest =>
        obtain ⟨rfl, rfl⟩ := hcut
        go_upto_if 185 with fail
        go_cut [] from 178 (fun wx => ∃ d1, Srt w0 b N d1 wx ∧ PermIn i en d d1 ∧ ∀ x, rotf d i m en x = d1[x]!)
        case first =>
          by_cases q : i < m ∧ m < en
          · have q' : decide (i < m ∧ m < en) = true := decide_eq_true q
            have HR := Lib.hid (rotate_any cx b N c i m en d w0 wc SR.out q.1 q.2 (by omega) hsz)
            rw [q']
            clear q q'
            go_wp2_with (go_at_call 50; (with_reducible refine HR.out.mono ?_); rintro e w' ⟨rfl, d1, hR1⟩; have HR1 := Lib.hid hR1; clear hR1)
            go_meet
            case rel => exact ⟨d1, HR1.out.s, HR1.out.perm, HR1.out.at_⟩
          · have q' : decide (i < m ∧ m < en) = false := decide_eq_false q
            have q3 := Lib.hid (show i = m ∨ m = en by omega)
            rw [q']
            clear q q'
            go_wp2
            go_meet
            case rel => exact ⟨d, SR.out, permIn_refl _ _ _, fun x => rot_none d i m en x q3.out hm1 hm5⟩
        case rest =>
        obtain ⟨d1, hsd1, hp1, hr1⟩ := hcut
        have S1 := Lib.hid hsd1
        have P1 := Lib.hid hp1
        have HH := Lib.hid (half key d d1 lo m hi mid i (by omega) HM.out HA.out HB.out CA.out (by rw [← EN.out]; exact hr1))
        rw [← EN.out] at HH
        have hz1 : d1.size = d.size := hp1.1
        clear hsd1 hp1 hr1 SR
        go_upto_region 41 with fail
        go_cut [199] from 192 (fun cv wx => cv = .bool (decide (lo < i ∧ i < mid)) ∧ wx = wc)
        case first =>
          by_cases q1 : lo < i
          · have q1' : (lo : Int) < i := by omega
            by_cases q2 : i < mid
            · have q2' : (i : Int) < mid := by omega
              go_wp2
              go_meet
              case rel => exact ⟨by simp [q1, q2], rfl⟩
            · have q2' : (mid : Int) ≤ i := by omega
              go_wp2
              go_meet
              case rel => exact ⟨by simp [q1, q2], rfl⟩
          · have q1' : (i : Int) ≤ lo := by omega
            go_wp2
            go_meet
            case rel => exact ⟨by simp [q1], rfl⟩
        case rest =>
        obtain ⟨rfl, rfl⟩ := hcut
        go_upto_if 199 with fail
        go_cut [] from 192 (fun wx => ∃ d2, Mg key w0 b N d1 lo mid d2 wx)
        case first =>
          by_cases q : lo < i ∧ i < mid
          · have q' : decide (lo < i ∧ i < mid) = true := decide_eq_true q
            have HR := Lib.hid (HI.out lo i mid d1 wc (by have := HK.out; omega) S1.out q.1 q.2 (by omega) (by omega) HH.out.l1 HH.out.l2)
            rw [hz1] at HR
            rw [q']
            clear q q'
            go_wp2_with (go_at_call 49; (with_reducible refine HR.out.mono ?_); rintro e w' ⟨rfl, d2, hR1⟩; have HR1 := Lib.hid hR1; clear hR1)
            go_meet
            case rel => exact ⟨d2, HR1.out⟩
          · have q' : decide (lo < i ∧ i < mid) = false := decide_eq_false q
            have q3 := Lib.hid (show i = lo ∨ i = mid by omega)
            rw [q']
            clear q q'
            go_wp2
            go_meet
            case rel =>
              refine ⟨d1, S1.out, permIn_refl _ _ _, ?_⟩
              rcases q3.out with h | h
              · have := HH.out.l2; rwa [h] at this
              · have := HH.out.l1; rwa [h] at this
        case rest =>
        obtain ⟨d2, hm2'⟩ := hcut
        have M2 := Lib.hid hm2'
        have hz2 : d2.size = d.size := by rw [← hz1]; exact hm2'.perm.1
        clear hm2' S1
        go_upto_region 43 with fail
        go_cut [213] from 206 (fun cv wx => cv = .bool (decide (mid < en ∧ en < hi)) ∧ wx = wc)
        case first =>
          by_cases q1 : mid < en
          · have q1' : (mid : Int) < en := by omega
            by_cases q2 : en < hi
            · have q2' : (en : Int) < hi := by omega
              go_wp2
              go_meet
              case rel => exact ⟨by simp [q1, q2], rfl⟩
            · have q2' : (hi : Int) ≤ en := by omega
              go_wp2
              go_meet
              case rel => exact ⟨by simp [q1, q2], rfl⟩
          · have q1' : (en : Int) ≤ mid := by omega
            go_wp2
            go_meet
            case rel => exact ⟨by simp [q1], rfl⟩
        case rest =>
        obtain ⟨rfl, rfl⟩ := hcut
        have RA : Hid (∀ x, mid ≤ x → d2[x]! = d1[x]!) := Lib.hid fun x hx => permIn_out M2.out.perm (.inr hx)
        have A1 : Hid (Asc key d2 mid en) := Lib.hid (HH.out.r1.congr fun x hx _ => RA.out x hx)
        have A2 : Hid (Asc key d2 en hi) := Lib.hid (HH.out.r2.congr fun x hx _ => RA.out x (by omega))
        have PT : Hid (PermIn lo hi d d2) := Lib.hid (permIn_trans _ _ _ _ _ (permIn_mono _ _ _ _ _ _ hm3 hm6 h3 P1.out) (permIn_mono _ _ _ _ _ _ (Nat.le_refl _) (by omega) (by omega) M2.out.perm))
        have FIN : Hid (∀ d3, PermIn mid hi d2 d3 → Asc key d3 mid hi → PermIn lo hi d d3 ∧ Asc key d3 lo hi) := Lib.hid fun d3 p3 a3 =>
          ⟨permIn_trans _ _ _ _ _ PT.out (permIn_mono _ _ _ _ _ _ (by omega) (Nat.le_refl _) (by omega) p3), whole key d1 d2 d3 lo mid hi i en (by omega) HH.out M2.out.perm M2.out.asc p3 a3⟩
        clear RA PT HH P1
        by_cases q : mid < en ∧ en < hi
        · have q' : decide (mid < en ∧ en < hi) = true := decide_eq_true q
          have HR := Lib.hid (HI.out mid en hi d2 wc (by have := HK.out; omega) M2.out.s q.1 q.2 (by omega) (by omega) A1.out A2.out)
          rw [hz2] at HR
          rw [q']
          clear q q'
          go_wp2_with (go_at_call 49; (with_reducible refine HR.out.mono ?_); rintro e w' ⟨rfl, d3, hR1⟩; have HR1 := Lib.hid hR1; clear hR1)
          go_end0
          have := FIN.out d3 HR1.out.perm HR1.out.asc
          exact ⟨rfl, d3, HR1.out.s, this.1, this.2⟩
        · have q' : decide (mid < en ∧ en < hi) = false := decide_eq_false q
          have q3 := Lib.hid (show mid = en ∨ en = hi by omega)
          rw [q']
          clear q q'
          go_wp2
          go_end0
          have A3 : Asc key d2 mid hi := by
            rcases q3.out with h | h
            · rw [h]; exact A2.out
            · have := A1.out; rwa [h] at this
          have := FIN.out d2 (permIn_refl _ _ _) A3
          exact ⟨rfl, d2, M2.out.s, this.1, this.2⟩

/-- Merging, whatever the two rows. -/
theorem merge_all (key : Nat → Int) (cx b N c : Nat) (w0 : World) (HC : Cmp key N cx b w0) (k : Nat) : MergeTo key cx b N c w0 k := by
  induction k with
  | zero => intro lo m hi d w hk _ h1 h2; omega
  | succ k ih =>
    intro lo m hi d w hk S h1 h2 h3 hsz hA hB
    by_cases c1 : m = lo + 1
    · exact merge_one key cx b N c lo m hi d w0 w HC S c1 h2 h3 hsz hB
    · by_cases c2 : hi = m + 1
      · exact merge_last key cx b N c lo m hi d w0 w HC S (by omega) c2 h3 hsz hA
      · exact merge_two key cx b N c w0 k HC ih lo m hi d w hk S (by omega) (by omega) h3 hsz hA hB
end Go.Proofs.Ytccfbkbfmkdapaa
