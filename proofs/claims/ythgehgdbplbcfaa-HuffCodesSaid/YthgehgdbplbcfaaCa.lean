/-
  HuffCodes: how many codes there are; the walk.
-/
import Derived.Test.YthgehgdbplbcfaaRF
namespace Go.Proofs.Ythgehgdbplbcfaa
open Go.RowKit

/-- How many of the first k symbols have a code. -/
def mf (ls : List Nat) : Nat → Nat
  | 0 => 0
  | k + 1 => mf ls k + if ln ls k ≠ 0 then 1 else 0
theorem mf_le (ls : List Nat) (k : Nat) : mf ls k ≤ k := by
  induction k with
  | zero => exact Nat.le_refl _
  | succ k ih => rw [mf]; split <;> omega
theorem fp_app (l : List Nat) (x n : Nat) : fp (l ++ [x]) n = fp l n + if x ≠ 0 ∧ x < n then 1 else 0 := by
  induction n with
  | zero => simp [fp]
  | succ n ih =>
    rw [fp, fp, ih, cn_app]
    by_cases h : n = x
    · subst h
      by_cases h0 : n = 0
      · simp [h0]
      · simp [h0]; omega
    · by_cases h0 : x = 0
      · first
          | (simp [h0]; done)
          | (simp [h0]; omega)
      · by_cases h2 : x < n
        · simp [h, h0, h2, show x < n + 1 by omega]; omega
        · simp [h, h0, h2, show ¬ x < n + 1 by omega]
theorem fp_nil (n : Nat) : fp [] n = 0 := by
  induction n with
  | zero => rfl
  | succ n ih => rw [fp, ih]; simp [cn]
theorem many_mf {ls : List Nat} (H : Ok ls) : many ls = mf ls ls.length := by
  have key : ∀ k, k ≤ ls.length → fp (ls.take k) 16 = mf ls k := by
    intro k
    induction k with
    | zero => intro _; rw [List.take_zero, fp_nil]; rfl
    | succ k ih =>
      intro hk
      rw [take_succ_ln (by omega), fp_app, ih (by omega), mf]
      have := ln_le H k
      by_cases h0 : ln ls k = 0
      · simp [h0]
      · simp [h0, show ln ls k < 16 by omega]
  have := key ls.length (Nat.le_refl _)
  rwa [List.take_length] at this
theorem mf_end (ls : List Nat) : mf ls (ls.length + 1) = mf ls ls.length := by
  have : ln ls ls.length = 0 := by unfold ln; simp [List.getD]
  rw [mf, this]
  simp

theorem cst_no {ls : List Nat} {zs : List Int} {k : Nat} (h : ln ls k = 0 ∨ ¬ (0 < zs.getD k 0 ∧ zs.getD k 0 ≤ 1099511627776)) : cst ls zs (k + 1) = cst ls zs k := by
  rw [cst]
  rcases h with h | h
  · rw [h]; simp
  · rw [if_neg h]; rfl

theorem RAt.row {w : World} {p : Nat} {ls : List Nat} (h : RAt w p ls) : ∃ gl, w.cell? ⟨p, 0, none⟩ = some (.slice (some ⟨gl, 0, none⟩) ls.length ls.length) ∧ ∀ s, s < ls.length → ∃ ao c, w.cell? ⟨gl, s, none⟩ = some (.slice ao (ln ls s) c) ∧ BySl w (.slice ao (ln ls s) c) (cb ls s) := by
  obtain ⟨gl, rm, F, h1, _, h3⟩ := h
  refine ⟨gl, h1, fun s hs => ?_⟩
  obtain ⟨f1, f2⟩ := h3 s hs
  obtain ⟨ao, c, e⟩ := f2.len
  rw [cb_len] at e
  rw [e] at f1 f2
  exact ⟨ao, c, f1, f2⟩

theorem and_u32 (x : Nat) (hx : x < 4294967296) : bits BinOp.and IntKind.u32 (x : Int) 1 = ((x % 2 : Nat) : Int) := by
  rw [show (1 : Int) = ((1 : Nat) : Int) from rfl, u32_and_nat x 1 hx (by omega), Nat.and_one_is_mod]

/-- The head of the law's loop. -/
def CodesAt (ls : List Nat) (cs : List Int) (w : World) (mv cv sv : Value) (wr : World) : Prop :=
  ∃ (j : Nat) (z : Int), j ≤ ls.length + 2 ∧ z = (j : Int) - 1 ∧ sv = .int .i64 z ∧ mv = .int .i64 (mf ls (j - 1) : Nat) ∧ cv = .int .i64 (cst ls cs (j - 1) : Nat) ∧ Below w.heap.size w wr

set_option maxRecDepth 100000 in
set_option maxHeartbeats 6400000 in
theorem codes_ok (ao : Option Addr) (c : Nat) (zs : List Int) (ao2 : Option Addr) (c2 : Nat) (cs : List Int) (w : World) (h : IS w ao zs) (hc : zs = [] → ao = none → c = 0) (h2 : IS w ao2 cs) (hv : Vd zs) (hm : room (nat zs) ≤ 32768) (hcl : cs.length ≤ 400) :
    Calls Try.prog 3 #[.slice ao zs.length c, .slice ao2 cs.length c2] w fun e w' => e = .returned (.bool true) ∧ Below w.heap.size w w' := by
  have HI := Lib.hid h
  have HV := Lib.hid hv
  have HM := Lib.hid hm
  have HCC := Lib.hid hc
  have hl : (zs.length : Int) ≤ 400 := by have := hv.len; omega
  have hzl := hv.len
  have hcl' : (cs.length : Int) ≤ 400 := by omega
  have HO : Hid (Ok (nat zs)) := Lib.hid ⟨by rw [nat_len]; exact hv.len, fun x hx => by
    obtain ⟨z, hz, rfl⟩ := List.mem_map.1 hx
    have := hv.all z hz
    omega, hm⟩
  clear h hv hm hc
  go_enter Try.func3, Try.ntmps3
  go_wp2_with fail
  refine (alive_any w).mono ?_
  rintro e w1 ⟨rfl, hb1⟩
  go_wp2_with fail
  refine (copy_any ao c zs _ (HI.out.below hb1) HCC.out (by omega)).mono ?_
  rintro e w2 ⟨oo, oc, rfl, his, hb2⟩
  have hb12 := hb1.trans (hb2.mono hb1.size)
  go_wp2_with fail
  refine (Room_yes oo oc zs _ his HV.out).mono ?_
  rintro e w3 ⟨rfl, hb3⟩
  have hb13 := hb12.trans (hb3.mono hb12.size)
  go_wp2_with fail
  refine (rroom_yes ao c zs _ (HI.out.below hb13) HV.out).mono ?_
  rintro e w4 ⟨rfl, rfl⟩
  go_wp2_with fail
  refine (New_ok oo oc zs _ (his.below hb3) HV.out HM.out).mono ?_
  rintro e w4 ⟨p, rfl, hca, hb4⟩
  have hb14 := hb13.trans (hb4.mono hb13.size)
  go_wp2_with fail
  refine (rnew_ok ao c zs (nat zs) _ (HI.out.below hb14) HV.out HO.out rfl).mono ?_
  rintro e w5 ⟨pr, rfl, hra, hb5⟩
  have hb15 := hb14.trans (hb5.mono hb14.size)
  have HIS := Lib.hid (((his.below hb3).below hb4).below hb5)
  have HI5 := Lib.hid (HI.out.below hb15)
  have HC5 := Lib.hid (hca.below hb5)
  have HA5 := Lib.hid hra
  have HB5 := Lib.hid hb15
  have HS5 := Lib.hid (h2.below hb15)
  have HL := Lib.hid (nat_len zs)
  obtain ⟨ls, hls⟩ : ∃ ls, ls = nat zs := ⟨_, rfl⟩
  rw [← hls] at HC5 HL HA5 HO
  rw [← hls]
  clear hb1 his hb2 hb12 hb3 hb13 hca hb4 hb14 hra hb5 hb15 hls HM h2
  go_wp2_with (go_at_call 14; (refine (same_any oo ao oc c zs _ HIS.out HI5.out (by omega)).mono ?_); rintro e w6 ⟨rfl, q, rfl⟩)
  have HC6 := Lib.hid (HC5.out.drewN q)
  have HA6 := Lib.hid (HA5.out.below (below_drewN (Below.refl _ _) q))
  have HS6 := Lib.hid (HS5.out.drewN q)
  have HB6 := Lib.hid (below_drewN HB5.out q)
  clear HC5 HA5 HS5 HB5 HIS HI5
  obtain ⟨rm, hrm⟩ : ∃ rm, rm = room ls := ⟨_, rfl⟩
  have HRM := Lib.hid hrm
  rw [← hrm]
  clear hrm
  generalize w5.drewN q = W6 at HC6 HA6 HS6 HB6 ⊢
  go_loopw [14, 15, 16] (fun mv cv sv wr => CodesAt ls cs W6 mv cv sv wr) (fun _ _ sv _ => ((zs.length : Int) + 1 - intOf sv).toNat)
  case atStart => exact ⟨0, -1, by omega, by omega, rfl, rfl, rfl, Below.refl _ _⟩
  case round =>
    obtain ⟨j, z, hj, hz, rfl, rfl, rfl, hbel⟩ := hrel
    have HBE := Lib.hid hbel
    have HCr := Lib.hid (HC6.out.below hbel)
    have HAr := Lib.hid (HA6.out.below hbel)
    have HSr := Lib.hid (HS6.out.below hbel)
    clear hbel
    rcases j with _ | k
    · obtain rfl : z = -1 := by omega
      clear hz hj
      have hz0 : decide ((0 : Int) ≤ -1) = false := by decide
      go_wp2_with fail
      refine (Bits_no p (-1) ls _ HCr.out (.inl (by omega))).mono ?_
      rintro e w7 ⟨rfl, rfl⟩
      go_wp2
      refine wp_loop_rounds 1 ?_
      rw [rounds_succ]
      go_wp2
      go_roundw
      case rel => exact ⟨1, 0, by omega, by omega, by go_num, rfl, rfl, HBE.out.alloc HBE.out.size _⟩
      case measure => simp [intOf]; omega
    · obtain rfl : z = (k : Int) := by omega
      clear hz
      simp only [Nat.add_sub_cancel]
      have hmk := mf_le ls k
      by_cases hkN : k < ls.length
      · have hkz : (k : Int) < zs.length := by rw [← HL.out]; omega
        have hkz' : k < zs.length := by rw [← HL.out]; exact hkN
        have hkle : (k : Int) ≤ zs.length := by omega
        have hk320 : k ≤ 320 := by have := HO.out.len; omega
        obtain ⟨n, hn⟩ : ∃ n, n = ln ls k := ⟨_, rfl⟩
        have HN := Lib.hid hn.symm
        clear hn
        by_cases h0 : n = 0
        · subst h0
          have HM0 : Hid (mf ls (k + 1) = mf ls k) := Lib.hid (by rw [mf, HN.out]; simp)
          have HCS : Hid (cst ls cs (k + 1) = cst ls cs k) := Lib.hid (cst_no (.inl HN.out))
          obtain ⟨gl, g1, gf⟩ := RAt.row (HAr.out.below (w' := wr.alloc (.cells #[] 5)) ((Below.refl _ _).alloc (Nat.le_refl _) _))
          obtain ⟨ra, rc, g2, g3⟩ := gf k hkN
          rw [HN.out] at g2 g3
          rw [HL.out] at g1
          clear gf g3
          go_wp2_with fail
          refine (Bits_no p k ls _ HCr.out (.inr (.inr ⟨k, rfl, hkN, HN.out⟩))).mono ?_
          rintro e w7 ⟨rfl, rfl⟩
          go_wp2
          refine wp_loop_rounds 1 ?_
          rw [rounds_succ]
          go_wp2
          go_roundw
          case rel => exact ⟨k + 2, (k : Int) + 1, by omega, by omega, by go_num, by rw [show k + 2 - 1 = k + 1 by omega, HM0.out], by rw [show k + 2 - 1 = k + 1 by omega, HCS.out], HBE.out.alloc HBE.out.size _⟩
          case measure => simp [intOf]; omega
        · have hn1 : 1 ≤ n := by omega
          have hn15 : n ≤ 15 := by rw [← HN.out]; exact ln_le HO.out k
          have HN0 : Hid (ln ls k ≠ 0) := Lib.hid (by rw [HN.out]; exact h0)
          have HM1 : Hid (mf ls (k + 1) = mf ls k + 1) := Lib.hid (by rw [mf, if_pos HN0.out])
          have hV32 := (rv_cd HO.out HN0.out).1
          obtain ⟨V, hV⟩ : ∃ V, V = rv (ln ls k) (cd ls k) := ⟨_, rfl⟩
          rw [← hV] at hV32
          have HVV := Lib.hid hV.symm
          clear hV h0
          go_wp2_with fail
          refine (Bits_yes p k ls _ HCr.out HN0.out V n HVV.out HN.out).mono ?_
          rintro e w7 ⟨rfl, nq, rfl⟩
          have hb8 : Below wr.heap.size wr ((wr.drewN nq).alloc (.cells #[] 5)) := (below_drewN (Below.refl _ _) nq).alloc (by simp [World.drewN]) _
          obtain ⟨gl, g1, gf⟩ := RAt.row (HAr.out.below hb8)
          obtain ⟨ra, rc, g2, g3⟩ := gf k hkN
          rw [HN.out] at g2 g3
          rw [HL.out] at g1
          have G3 := Lib.hid g3
          have HSN := Lib.hid (HSr.out.below hb8)
          have HBN : Hid (Below W6.heap.size W6 ((wr.drewN nq).alloc (.cells #[] 5))) := Lib.hid (HBE.out.trans (hb8.mono HBE.out.size))
          clear gf g3 hb8
          have d1 : decide ((0 : Int) < n) = true := by simp; omega
          have d2 : ((n : Int) != n) = false := by simp
          go_wp2
          go_loop [21] (fun iv => ∃ i : Nat, i ≤ n ∧ iv = .int .i64 i) (fun iv => n - (intOf iv).toNat)
          case atStart => exact ⟨0, Nat.zero_le _, rfl⟩
          case round =>
            obtain ⟨i, hi, rfl⟩ := hrel
            by_cases hin : i < n
            · have hin' : (i : Int) < n := by omega
              have hi15 : i ≤ 15 := by omega
              obtain ⟨b1, o1, rfl, gb⟩ := G3.out.get i (by rw [cb_len, HN.out]; exact hin)
              rw [cb_bit ls k i (by rw [HN.out]; exact hin), HVV.out] at gb
              obtain ⟨D, hD⟩ : ∃ D, D = V / 2 ^ i := ⟨_, rfl⟩
              obtain ⟨B, hB⟩ : ∃ B, B = D % 2 := ⟨_, rfl⟩
              rw [← hD, ← hB] at gb
              have e1 : (V : Int) / 2 ^ i = (D : Nat) := by rw [hD]; simp
              have e2 := and_u32 D (Nat.lt_of_le_of_lt (hD ▸ Nat.div_le_self _ _) hV32)
              rw [← hB] at e2
              have hB2 : B ≤ 1 := by omega
              have e4 : ((B : Int) != B) = false := by simp
              clear hD hB
              go_wp2
              go_round
              case rel => exact ⟨i + 1, by omega, by go_num⟩
              case measure => simp [intOf]; omega
            · obtain rfl : i = n := by omega
              by_cases hkc : k < cs.length
              · have hkc' : (k : Int) < cs.length := by omega
                obtain ⟨b2, o2, rfl, gx⟩ := HSN.out.at hkc
                obtain ⟨x, hx⟩ : ∃ x, x = cs.getD k 0 := ⟨_, rfl⟩
                rw [← hx] at gx
                have HX := Lib.hid hx
                clear hx
                by_cases hx0 : 0 < x
                · by_cases hx1 : x ≤ 1099511627776
                  · have HS := Lib.hid (cst_int HO.out (zs := cs) (k := k) hk320 (by rw [← HX.out]; exact hx0) (by rw [← HX.out]; exact hx1) x i HX.out HN.out.symm)
                    have d3 : decide (x ≤ 1099511627776) = true := by simpa using hx1
                    clear hx1
                    go_wp2
                    go_roundw
                    case rel => exact ⟨k + 2, (k : Int) + 1, by omega, by omega, by go_num, by rw [show k + 2 - 1 = k + 1 by omega, HM1.out]; go_num, by rw [show k + 2 - 1 = k + 1 by omega]; rw [← HS.out], HBN.out⟩
                    case measure => simp [intOf]; omega
                  · have HS : Hid (cst ls cs (k + 1) = cst ls cs k) := Lib.hid (cst_no (.inr (by rw [← HX.out]; exact fun h => hx1 h.2)))
                    have d3 : decide (x ≤ 1099511627776) = false := by simpa using hx1
                    clear hx1
                    go_wp2
                    go_roundw
                    case rel => exact ⟨k + 2, (k : Int) + 1, by omega, by omega, by go_num, by rw [show k + 2 - 1 = k + 1 by omega, HM1.out]; go_num, by rw [show k + 2 - 1 = k + 1 by omega]; rw [HS.out], HBN.out⟩
                    case measure => simp [intOf]; omega
                · have HS : Hid (cst ls cs (k + 1) = cst ls cs k) := Lib.hid (cst_no (.inr (by rw [← HX.out]; exact fun h => hx0 h.1)))
                  have d3 : decide ((0 : Int) < x) = false := by simpa using hx0
                  go_wp2
                  go_roundw
                  case rel => exact ⟨k + 2, (k : Int) + 1, by omega, by omega, by go_num, by rw [show k + 2 - 1 = k + 1 by omega, HM1.out]; go_num, by rw [show k + 2 - 1 = k + 1 by omega]; rw [HS.out], HBN.out⟩
                  case measure => simp [intOf]; omega
              · have hkc' : decide ((k : Int) < cs.length) = false := by simp; omega
                have hkc2 : decide (k < cs.length) = false := by simp; omega
                have HS : Hid (cst ls cs (k + 1) = cst ls cs k) := Lib.hid (cst_no (.inr (by simp [List.getD, show cs.length ≤ k by omega])))
                go_wp2
                go_roundw
                case rel => exact ⟨k + 2, (k : Int) + 1, by omega, by omega, by go_num, by rw [show k + 2 - 1 = k + 1 by omega, HM1.out]; go_num, by rw [show k + 2 - 1 = k + 1 by omega]; rw [HS.out], HBN.out⟩
                case measure => simp [intOf]; omega
      · by_cases hkE : k = ls.length
        · have hkz : decide ((k : Int) < zs.length) = false := by rw [← HL.out]; simp; omega
          have hkz' : decide (k < zs.length) = false := by rw [← HL.out]; simp; omega
          have hkle : (k : Int) ≤ zs.length := by rw [← HL.out]; omega
          have HKE := Lib.hid hkE
          have HM0 : Hid (mf ls (k + 1) = mf ls k) := Lib.hid (by rw [hkE]; exact mf_end ls)
          have HCS : Hid (cst ls cs (k + 1) = cst ls cs k) := Lib.hid (cst_no (.inl (by rw [hkE]; unfold ln; simp [List.getD])))
          clear hkE hkN
          go_wp2_with fail
          refine (Bits_no p k ls _ HCr.out (.inr (.inl (by have := HKE.out; omega)))).mono ?_
          rintro e w7 ⟨rfl, rfl⟩
          go_wp2
          refine wp_loop_rounds 1 ?_
          rw [rounds_succ]
          go_wp2
          go_roundw
          case rel => exact ⟨k + 2, (k : Int) + 1, by have := HKE.out; omega, by omega, by go_num, by rw [show k + 2 - 1 = k + 1 by omega, HM0.out], by rw [show k + 2 - 1 = k + 1 by omega, HCS.out], HBE.out.alloc HBE.out.size _⟩
          case measure => simp [intOf]; omega
        · have hkN1 : k = ls.length + 1 := by omega
          have hkz : decide ((k : Int) ≤ zs.length) = false := by rw [← HL.out]; simp; omega
          have hkz2 : decide (k ≤ zs.length) = false := by rw [← HL.out]; simp; omega
          obtain ⟨M, hM⟩ : ∃ M, M = mf ls k := ⟨_, rfl⟩
          obtain ⟨K, hK⟩ : ∃ K, K = cst ls cs k := ⟨_, rfl⟩
          have HSym : Hid (Calls Try.prog 16 #[.pointer (some ⟨p, 0, none⟩)] wr fun e w' => e = .returned (.int .i64 M) ∧ wr = w') := by
            have h1 := Symbols_any p ls wr HCr.out
            rw [many_mf HO.out, ← mf_end, ← hkN1, ← hM] at h1
            exact Lib.hid h1
          have HCo : Hid (∀ W, Below wr.heap.size wr W → Calls Try.prog 18 #[.pointer (some ⟨p, 0, none⟩), .slice ao2 cs.length c2] W fun e w' => e = .returned (.int .i64 K) ∧ W = w') := Lib.hid fun W hW => by
            have h1 := Cost_any p ls ao2 c2 cs W (HCr.out.below hW) (HSr.out.below hW) (by omega)
            rw [← cst_more ls cs k (by omega), ← hK] at h1
            exact h1
          obtain ⟨fb, hfb⟩ : ∃ fb, fb = decide (room ls = 32768) := ⟨_, rfl⟩
          have hrb : ((rm : Int) == 32768) = fb := by rw [hfb, HRM.out, Bool.eq_iff_iff]; simp; omega
          have HCm : Hid (Calls Try.prog 17 #[.pointer (some ⟨p, 0, none⟩)] wr fun e w' => e = .returned (.bool fb) ∧ Below wr.heap.size wr w') := by
            have h1 := Complete_any p ls wr HCr.out
            rw [← hfb] at h1
            exact Lib.hid h1
          rw [← hM, ← hK]
          have hMM : ((M : Int) == M) = true := by simp
          have hKK : ((K : Int) == K) = true := by simp
          have hff : (fb == fb) = true := by simp
          have HBW := Lib.hid (HB6.out.trans (HBE.out.mono HB6.out.size))
          clear hM hK hfb hkN1 hkE hkN hmk hj
          go_wp2_with (first
            | (go_at_call 16; (refine HSym.out.mono ?_); rintro e w7 ⟨rfl, rfl⟩)
            | (go_at_call 17; (refine HCm.out.mono ?_); rintro e w7 ⟨rfl, hb7⟩; have HB7 := Lib.hid hb7; clear hb7)
            | (go_at_call 18; (refine (HCo.out _ HB7.out).mono ?_); rintro e w8 ⟨rfl, rfl⟩))
          go_ret
          exact ⟨rfl, HBW.out.trans (HB7.out.mono HBW.out.size)⟩
end Go.Proofs.Ythgehgdbplbcfaa
