/-
  Contracts of Cost and find.
-/
import Derived.Test.YthgehgdbplbcfaaQ
namespace Go.Proofs.Ythgehgdbplbcfaa
open Go.RowKit

theorem cst_int {ls : List Nat} (H : Ok ls) {zs : List Int} {k : Nat} (hk : k ≤ 320) (h0 : 0 < zs.getD k 0) (h1 : zs.getD k 0 ≤ 1099511627776) (x : Int) (n : Nat) (hx : x = zs.getD k 0) (hn : n = ln ls k) :
    wrap64 ((cst ls zs k : Int) + wrap64 (x * n)) = (cst ls zs (k + 1) : Nat) := by
  subst hx hn
  have hb := cst_le H zs k
  have hb2 : k * (1099511627776 * 15) ≤ 320 * (1099511627776 * 15) := Nat.mul_le_mul_right _ hk
  rw [cst, if_pos ⟨h0, h1⟩]
  obtain ⟨y, hy⟩ := Int.eq_ofNat_of_zero_le (Int.le_of_lt h0)
  rw [hy] at h1 ⊢
  have h3 : y * ln ls k ≤ 1099511627776 * 15 := Nat.mul_le_mul (by omega) (ln_le H k)
  rw [Int.toNat_natCast, ← Int.natCast_mul]
  generalize y * ln ls k = q at *
  generalize cst ls zs k = r at *
  unfold wrap64
  omega

set_option maxRecDepth 100000 in
set_option maxHeartbeats 1600000 in
theorem Cost_any (p : Nat) (ls : List Nat) (ao : Option Addr) (c : Nat) (zs : List Int) (w : World) (h : CodeAt w p ls) (hi : IS w ao zs) (hl : zs.length ≤ 1000) :
    Calls Try.prog 18 #[.pointer (some ⟨p, 0, none⟩), .slice ao zs.length c] w fun e w' => e = .returned (.int .i64 (cst ls zs (min zs.length ls.length) : Nat)) ∧ w = w' := by
  have HO := Lib.hid h.ok
  have HI := Lib.hid hi
  have hll := h.ok.len
  obtain ⟨gw, c0, hw⟩ := h.word
  have HW := Lib.hid hw
  clear h hi hw
  by_cases hcmp : ls.length < zs.length
  · rw [show min zs.length ls.length = ls.length by omega]
    have hcmp' : decide (ls.length < zs.length) = true := by simpa using hcmp
    go_enter Try.func18, Try.ntmps18
    go_wp2
    go_loop [5, 16] (fun sv i => ∃ k : Nat, k ≤ ls.length ∧ i = .int .i64 k ∧ sv = .int .i64 (cst ls zs k : Nat)) (fun _ i => ls.length - (intOf i).toNat)
    case atStart => exact ⟨0, Nat.zero_le _, rfl, rfl⟩
    case round =>
      obtain ⟨k, hk, rfl, rfl⟩ := hrel
      by_cases hlt : k < ls.length
      · have hk1 : k < ls.length := by omega
        have hk2 : k < zs.length := by omega
        have hkk1 : (k : Int) < ls.length := by omega
        have hkk2 : (k : Int) < zs.length := by omega
        obtain ⟨b, off, rfl, hcell⟩ := HI.out.at hk2
        obtain ⟨_, _, c2⟩ := HW.out k hk1
        obtain ⟨x, hx⟩ : ∃ x, x = zs.getD k 0 := ⟨_, rfl⟩
        obtain ⟨n, hn⟩ : ∃ n, n = ln ls k := ⟨_, rfl⟩
        rw [← hx] at hcell
        rw [← hn] at c2
        have HX := Lib.hid hx
        have HN := Lib.hid hn
        clear hx hn
        by_cases h0 : 0 < x
        · by_cases h1 : x ≤ 1099511627776
          · have HS := Lib.hid (cst_int HO.out (zs := zs) (k := k) (by omega) (by rw [← HX.out]; exact h0) (by rw [← HX.out]; exact h1) x n HX.out HN.out)
            have d1 : decide (x ≤ 1099511627776) = true := by simpa using h1
            clear h1
            go_wp2
            go_round
            case rel => exact ⟨k + 1, by omega, by go_num, by rw [← HS.out]⟩
            case measure => simp [intOf]; omega
          · have HS : Hid (cst ls zs (k + 1) = cst ls zs k) := Lib.hid (by rw [cst, if_neg (by rw [← HX.out]; exact fun h => h1 h.2)]; rfl)
            have d1 : decide (x ≤ 1099511627776) = false := by simpa using h1
            clear h1
            go_wp2
            go_round
            case rel => exact ⟨k + 1, by omega, by go_num, by rw [HS.out]⟩
            case measure => simp [intOf]; omega
        · have HS : Hid (cst ls zs (k + 1) = cst ls zs k) := Lib.hid (by rw [cst, if_neg (by rw [← HX.out]; exact fun h => h0 h.1)]; rfl)
          go_wp2
          go_round
          case rel => exact ⟨k + 1, by omega, by go_num, by rw [HS.out]⟩
          case measure => simp [intOf]; omega
      · have hk' : k = ls.length := by omega
        subst hk'
        go_wp2
        go_ret
        exact ⟨rfl, rfl⟩
  · rw [show min zs.length ls.length = zs.length by omega]
    have hcmp' : decide (ls.length < zs.length) = false := by simpa using hcmp
    go_enter Try.func18, Try.ntmps18
    go_wp2
    go_loop [5, 16] (fun sv i => ∃ k : Nat, k ≤ zs.length ∧ i = .int .i64 k ∧ sv = .int .i64 (cst ls zs k : Nat)) (fun _ i => zs.length - (intOf i).toNat)
    case atStart => exact ⟨0, Nat.zero_le _, rfl, rfl⟩
    case round =>
      obtain ⟨k, hk, rfl, rfl⟩ := hrel
      by_cases hlt : k < zs.length
      · have hk1 : k < ls.length := by omega
        have hk2 : k < zs.length := by omega
        have hkk1 : (k : Int) < ls.length := by omega
        have hkk2 : (k : Int) < zs.length := by omega
        obtain ⟨b, off, rfl, hcell⟩ := HI.out.at hk2
        obtain ⟨_, _, c2⟩ := HW.out k hk1
        obtain ⟨x, hx⟩ : ∃ x, x = zs.getD k 0 := ⟨_, rfl⟩
        obtain ⟨n, hn⟩ : ∃ n, n = ln ls k := ⟨_, rfl⟩
        rw [← hx] at hcell
        rw [← hn] at c2
        have HX := Lib.hid hx
        have HN := Lib.hid hn
        clear hx hn
        by_cases h0 : 0 < x
        · by_cases h1 : x ≤ 1099511627776
          · have HS := Lib.hid (cst_int HO.out (zs := zs) (k := k) (by omega) (by rw [← HX.out]; exact h0) (by rw [← HX.out]; exact h1) x n HX.out HN.out)
            have d1 : decide (x ≤ 1099511627776) = true := by simpa using h1
            clear h1
            go_wp2
            go_round
            case rel => exact ⟨k + 1, by omega, by go_num, by rw [← HS.out]⟩
            case measure => simp [intOf]; omega
          · have HS : Hid (cst ls zs (k + 1) = cst ls zs k) := Lib.hid (by rw [cst, if_neg (by rw [← HX.out]; exact fun h => h1 h.2)]; rfl)
            have d1 : decide (x ≤ 1099511627776) = false := by simpa using h1
            clear h1
            go_wp2
            go_round
            case rel => exact ⟨k + 1, by omega, by go_num, by rw [HS.out]⟩
            case measure => simp [intOf]; omega
        · have HS : Hid (cst ls zs (k + 1) = cst ls zs k) := Lib.hid (by rw [cst, if_neg (by rw [← HX.out]; exact fun h => h0 h.1)]; rfl)
          go_wp2
          go_round
          case rel => exact ⟨k + 1, by omega, by go_num, by rw [HS.out]⟩
          case measure => simp [intOf]; omega
      · have hk' : k = zs.length := by omega
        subst hk'
        go_wp2
        go_ret
        exact ⟨rfl, rfl⟩


def FindTo (ls : List Nat) (A : Nat) (w : World) (e : Ending) (w' : World) : Prop :=
  ((∃ s : Nat, Beg ls A s ∧ e = .returned (.tuple #[.int .i64 s, .int .i64 (ln ls s : Nat)])) ∨ (room ls ≤ A ∧ e = .returned (.tuple #[.int .i64 0, .int .i64 0]))) ∧ ∃ nq, w' = w.drewN nq

theorem shr15 (A n : Nat) (_hn : n ≤ 15) : (A : Int) / 2 ^ (15 - n) = ((A / 2 ^ (15 - n) : Nat) : Int) := by simp
theorem sp_one (ls : List Nat) : sp ls 1 = 0 := by simp [sp, cn]
theorem fp_one (ls : List Nat) : fp ls 1 = 0 := by simp [fp, cn]

set_option maxHeartbeats 1600000 in
theorem find_any (p A : Nat) (ls : List Nat) (w : World) (h : CodeAt w p ls) (hA : A < 32768) :
    Calls Try.prog 36 #[.pointer (some ⟨p, 0, none⟩), .int .i64 A] w (FindTo ls A w) := by
  have HO := Lib.hid h.ok
  have hll := h.ok.len
  have HC := Lib.hid h
  clear h
  go_enter Try.func36, Try.ntmps36
  go_wp2
  go_loopw [6, 7] (fun sv i wr => ∃ n q : Nat, 1 ≤ n ∧ n ≤ 16 ∧ i = .int .i64 n ∧ sv = .int .i64 (fp ls n : Nat) ∧ sp ls n ≤ A ∧ wr = w.drewN q) (fun _ i _ => 16 - (intOf i).toNat)
  case atStart => exact ⟨1, 0, by omega, by omega, rfl, by rw [fp_one]; rfl, by rw [sp_one]; omega, rfl⟩
  case round =>
    obtain ⟨n, q, hn1, hn, rfl, rfl, hsp, rfl⟩ := hrel
    by_cases hlt : n ≤ 15
    · have hnn : (n : Int) ≤ 15 := by omega
      obtain ⟨_, gw, go, F, h1, h2, h3, h4⟩ := HC.out
      have g0 := (h1.cell 1).trans (cc_1 _ _ _ _)
      have g1 := (h1.cell (2 + n)).trans (cc_f _ _ _ _ n (by omega))
      have g2 := (h1.cell (18 + n)).trans (cc_g _ _ _ _ n (by omega))
      have H3 := Lib.hid h3
      have H4 := Lib.hid h4
      clear h1 h2 h3 h4
      have hge := over_ge hlt hsp
      have hol := over_lt (ls := ls) (A := A) hlt
      have b1 := fc_le HO.out n hlt
      have b2 := cn_le ls n
      have b3 := fp_le ls hll n
      have b4 : A / 2 ^ (15 - n) ≤ A := Nat.div_le_self _ _
      have e1 : IntKind.i64.wrap (15 - (n : Int)) = ((15 - n : Nat) : Int) := by rw [IntKind.wrap_i64]; omega
      have e2 := shr15 A n hlt
      obtain ⟨D, hD⟩ : ∃ D, D = A / 2 ^ (15 - n) := ⟨_, rfl⟩
      obtain ⟨f, hf⟩ : ∃ f, f = fc ls n := ⟨_, rfl⟩
      obtain ⟨g, hg⟩ : ∃ g, g = cn ls n := ⟨_, rfl⟩
      obtain ⟨y, hy⟩ : ∃ y, y = fp ls n := ⟨_, rfl⟩
      rw [← hD] at hge hol b4 e2
      rw [← hf] at hge hol b1 g1
      rw [← hg] at hol b2 g2
      rw [← hy] at b3
      rw [← hy]
      have HD := Lib.hid hD
      have HF := Lib.hid hf
      have HG := Lib.hid hg
      have HY := Lib.hid hy
      have HOL := Lib.hid hol
      clear hD hf hg hy hol
      have e3 : IntKind.i64.wrap ((D : Int) - f) = ((D - f : Nat) : Int) := by rw [IntKind.wrap_i64]; omega
      have e4 : (n : Int) < 16 := by omega
      obtain ⟨o, ho⟩ : ∃ o, o = D - f := ⟨_, rfl⟩
      rw [← ho] at e3
      have HOo := Lib.hid ho
      have bo : o < 32768 := by omega
      clear ho
      by_cases hit : o < g
      · obtain ⟨s, hs, hls, hrs⟩ := rank_all (ls := ls) (n := n) (r := o) (by omega) (by rw [← HG.out]; exact hit)
        have hl0 : ln ls s ≠ 0 := by omega
        have HB : Hid (Beg ls A s) := Lib.hid (over_sym (by omega) (by rw [← HF.out, ← HD.out]; exact hge) hls (by rw [hrs, ← HF.out, ← HD.out, HOo.out]))
        have hym := fp_lt HO.out hl0
        have hcell := (H3.out.cell (y + o)).trans (va_at _ _ (y + o) (by rw [HY.out]; rw [hls, hrs] at hym; exact hym))
        rw [show F (y + o) = .int .i64 (s : Nat) by rw [HY.out, ← hls, ← hrs]; rw [H4.out s hs hl0]] at hcell
        rw [hls, hrs, ← HY.out] at hym
        have HLS := Lib.hid hls
        clear hls hrs hl0 hs
        have hit' : (o : Int) < g := by omega
        have e5 : (y : Int) + o < many ls := by omega
        have e6 : (0 : Int) ≤ (y : Int) + o := by omega
        have e7 : ((y : Int) + o).toNat = y + o := by omega
        go_wp2
        go_quiet (fail)
        go_wp2
        go_ret2
        exact ⟨.inl ⟨s, HB.out, by rw [HLS.out]; rfl⟩, _, rfl⟩
      · have hit' : decide ((o : Int) < g) = false := by simp; omega
        have hit2 : decide (o < g) = false := by simpa using hit
        go_wp2
        go_quiet (fail)
        go_wp2
        go_roundw
        case rel => exact ⟨n + 1, _, by omega, by omega, by go_num, by rw [fp, ← HY.out, ← HG.out]; go_num, by
          have h5 := HOL.out
          have h6 := HOo.out
          omega, rfl⟩
        case measure => simp [intOf]; omega
    · have hn16 : n = 16 := by omega
      subst hn16
      go_wp2
      go_ret2
      exact ⟨.inr ⟨hsp, rfl⟩, _, rfl⟩
end Go.Proofs.Ythgehgdbplbcfaa
