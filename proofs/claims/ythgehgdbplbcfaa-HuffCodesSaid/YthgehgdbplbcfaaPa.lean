/-
  HuffPrefix: the walk.
-/
import Derived.Test.YthgehgdbplbcfaaOa
namespace Go.Proofs.Ythgehgdbplbcfaa
open Go.RowKit

theorem rv_mod (n X : Nat) : rv n (X % 2 ^ n) = rv n X := by
  apply Nat.eq_of_testBit_eq
  intro i
  rw [rv_bit, rv_bit, Nat.testBit_mod_two_pow]
  by_cases h : i < n
  · simp [h, show n - 1 - i < n by omega]
  · simp [h]

/-- No code is another one's beginning. -/
theorem no_prefix {ls : List Nat} (H : Ok ls) {a b : Nat} (ha : ln ls a ≠ 0) (hb : ln ls b ≠ 0) (hab : a ≠ b) (hnm : ln ls a ≤ ln ls b) : rv (ln ls b) (cd ls b) % 2 ^ ln ls a ≠ rv (ln ls a) (cd ls a) := by
  intro e
  have h1 : rv (ln ls a) (rv (ln ls b) (cd ls b)) = cd ls a := by rw [← rv_mod, e, lo_of H ha]
  have h2 := rv_div (ln ls a) (ln ls b - ln ls a) (rv (ln ls b) (cd ls b))
  rw [show ln ls a + (ln ls b - ln ls a) = ln ls b by omega, lo_of H hb, h1] at h2
  have hle := ln_le H b
  have h3 : lo ls b / 2 ^ (15 - ln ls a) = cd ls a := by
    unfold lo
    rw [show 15 - ln ls a = (15 - ln ls b) + (ln ls b - ln ls a) by omega, Nat.pow_add, ← Nat.div_div_eq_div_mul, Nat.mul_div_cancel _ (Nat.two_pow_pos _), h2]
  have h4 : Beg ls (lo ls b) a := ⟨ha, h3⟩
  have h5 : Beg ls (lo ls b) b := beg_iff.2 ⟨hb, Nat.le_refl _, lo_hi ls b⟩
  exact hab (beg_one H h4 h5)

theorem by_made (W : World) (xs : List Nat) (cs : Array Value) (n : Nat) (hn : n = xs.length) (hcs : cs.toList = u8s xs) : BySl (W.alloc (.cells cs 5)) (.slice (some ⟨W.heap.size, 0, none⟩) n n) xs := by
  subst hn
  refine .inr ⟨_, _, rfl, Nat.le_refl _, fun j u hu => ?_⟩
  rw [Addr.add_lit, Nat.zero_add, World.cell?_alloc_at _ _ _ _ rfl]
  have : cs[j]? = cs.toList[j]? := by simp
  rw [this, hcs, hu]
theorem and_low (X n : Nat) (hX : X < 4294967296) (hn : n ≤ 15) : bits BinOp.and IntKind.u32 (X : Int) ((2 ^ n - 1) % 4294967296) = ((X % 2 ^ n : Nat) : Int) := by
  have hp : 2 ^ n ≤ 2 ^ 15 := Nat.pow_le_pow_right (by omega) hn
  have hq := Nat.two_pow_pos n
  have e : ((2 : Int) ^ n - 1) % 4294967296 = ((2 ^ n - 1 : Nat) : Int) := by
    rw [show (2 : Int) ^ n = ((2 ^ n : Nat) : Int) by simp]
    generalize 2 ^ n = z at *
    omega
  rw [e, u32_and_nat _ _ hX (by omega), Nat.and_two_pow_sub_one_eq_mod]

set_option maxRecDepth 100000 in
set_option maxHeartbeats 3200000 in
theorem prefix_ok (ao : Option Addr) (c : Nat) (zs : List Int) (mo : Nat) (w : World) (h : IS w ao zs) (hv : Vd zs) (hm : room (nat zs) ≤ 32768) :
    Calls Try.prog 6 #[.slice ao zs.length c, .int .u32 mo] w fun e w' => e = .returned (.bool true) ∧ Below w.heap.size w w' := by
  have HI := Lib.hid h
  have HV := Lib.hid hv
  have HM := Lib.hid hm
  have hl : (zs.length : Int) ≤ 320 := by have := hv.len; omega
  clear h hv hm
  go_enter Try.func6, Try.ntmps6
  go_wp2_with fail
  refine (alive_any w).mono ?_
  rintro e w1 ⟨rfl, hb1⟩
  go_wp2_with fail
  refine (New_ok ao c zs _ (HI.out.below hb1) HV.out HM.out).mono ?_
  rintro e w2 ⟨p, rfl, hc, hb2⟩
  have HC := Lib.hid hc
  have HB : Hid (Below w.heap.size w w2) := Lib.hid (hb1.trans (hb2.mono hb1.size))
  have HL := Lib.hid (nat_len zs)
  obtain ⟨ls, hls⟩ : ∃ ls, ls = nat zs := ⟨_, rfl⟩
  rw [← hls] at HC HL
  clear hc hb1 hb2 hls HM
  go_wp2
  go_loopw [7] (fun i wr => ∃ a q : Nat, a ≤ zs.length ∧ i = .int .i64 a ∧ wr = w2.drewN q) (fun i _ => zs.length - (intOf i).toNat)
  case atStart => exact ⟨0, 0, Nat.zero_le _, rfl, rfl⟩
  case round =>
    obtain ⟨a, q, ha, rfl, rfl⟩ := hrel
    by_cases hlt : a < zs.length
    · have hal : a < ls.length := by rw [HL.out]; exact hlt
      have haa : (a : Int) < zs.length := by omega
      obtain ⟨n, hn⟩ : ∃ n, n = ln ls a := ⟨_, rfl⟩
      obtain ⟨V, hV⟩ : ∃ V, V = rv (ln ls a) (cd ls a) := ⟨_, rfl⟩
      have hn15 : n ≤ 15 := by rw [hn]; exact ln_le HC.out.ok a
      have HN := Lib.hid hn.symm
      have HVV := Lib.hid hV.symm
      clear hn hV
      by_cases h0 : n = 0
      · have hbf : Hid (decide (n ≠ 0) = false) := Lib.hid (by simp [h0])
        clear h0
        go_wp2_with fail
        refine (Bits_any p a ls _ (HC.out.drewN q) hal V n false HVV.out HN.out hbf.out).mono ?_
        rintro e w3 ⟨rfl, nq, rfl⟩
        go_wp2
        go_roundw
        case rel => exact ⟨a + 1, _, by omega, by go_num, rfl⟩
        case measure => simp [intOf]; omega
      · have hbt : Hid (decide (n ≠ 0) = true) := Lib.hid (by simp [h0])
        have HN0 : Hid (ln ls a ≠ 0) := Lib.hid (by rw [HN.out]; exact h0)
        have hn1 : 1 ≤ n := by omega
        clear h0
        go_wp2_with fail
        refine (Bits_any p a ls _ (HC.out.drewN q) hal V n true HVV.out HN.out hbt.out).mono ?_
        rintro e w3 ⟨rfl, nq, rfl⟩
        go_wp2
        go_loopw [11] (fun i wr => ∃ b q : Nat, b ≤ zs.length ∧ i = .int .i64 b ∧ wr = w2.drewN q) (fun i _ => zs.length - (intOf i).toNat)
        case atStart => exact ⟨0, _, Nat.zero_le _, rfl, rfl⟩
        case round =>
          obtain ⟨b, q2, hb, rfl, rfl⟩ := hrel
          by_cases hlt2 : b < zs.length
          · have hbl : b < ls.length := by rw [HL.out]; exact hlt2
            have hbb : (b : Int) < zs.length := by omega
            obtain ⟨m, hm⟩ : ∃ m, m = ln ls b := ⟨_, rfl⟩
            obtain ⟨X, hX⟩ : ∃ X, X = rv (ln ls b) (cd ls b) := ⟨_, rfl⟩
            have hm15 : m ≤ 15 := by rw [hm]; exact ln_le HC.out.ok b
            have HM := Lib.hid hm.symm
            have HX := Lib.hid hX.symm
            clear hm hX
            by_cases h0 : m = 0
            · have hbf : Hid (decide (m ≠ 0) = false) := Lib.hid (by simp [h0])
              clear h0
              go_wp2_with fail
              refine (Bits_any p b ls _ (HC.out.drewN q2) hbl X m false HX.out HM.out hbf.out).mono ?_
              rintro e w4 ⟨rfl, nq4, rfl⟩
              go_wp2
              go_roundw
              case rel => exact ⟨b + 1, _, by omega, by go_num, rfl⟩
              case measure => simp [intOf]; omega
            · have hbt2 : Hid (decide (m ≠ 0) = true) := Lib.hid (by simp [h0])
              have HM0 : Hid (ln ls b ≠ 0) := Lib.hid (by rw [HM.out]; exact h0)
              have hm1 : 1 ≤ m := by omega
              clear h0
              by_cases hab : a = b
              · have d1 : ((a : Int) == b) = true := by simp; omega
                have d1' : ((a : Int) != b) = false := by simp; omega
                clear hab
                go_wp2_with fail
                refine (Bits_any p b ls _ (HC.out.drewN q2) hbl X m true HX.out HM.out hbt2.out).mono ?_
                rintro e w4 ⟨rfl, nq4, rfl⟩
                go_wp2
                go_roundw
                case rel => exact ⟨b + 1, _, by omega, by go_num, rfl⟩
                case measure => simp [intOf]; omega
              · have d1 : ((a : Int) == b) = false := by simp; omega
                have d1' : ((a : Int) != b) = true := by simp; omega
                by_cases hnm : n ≤ m
                · have hne := no_prefix HC.out.ok HN0.out HM0.out hab (by rw [HN.out, HM.out]; exact hnm)
                  have hnm' : (n : Int) ≤ m := by omega
                  have hX32 := (rv_cd HC.out.ok HM0.out).1
                  rw [HVV.out, HX.out, HN.out] at hne
                  rw [HX.out] at hX32
                  have d2 : (bits BinOp.and IntKind.u32 (X : Int) ((2 ^ n - 1) % 4294967296) == (V : Int)) = false := by
                    rw [and_low X n hX32 hn15]
                    simp only [beq_eq_false_iff_ne, ne_eq]
                    omega
                  clear hne hab hX32
                  go_wp2_with fail
                  refine (Bits_any p b ls _ (HC.out.drewN q2) hbl X m true HX.out HM.out hbt2.out).mono ?_
                  rintro e w4 ⟨rfl, nq4, rfl⟩
                  go_wp2
                  go_roundw
                  case rel => exact ⟨b + 1, _, by omega, by go_num, rfl⟩
                  case measure => simp [intOf]; omega
                · have hnm' : decide ((n : Int) ≤ m) = false := by simp; omega
                  have hnm'' : decide (n ≤ m) = false := by simp; omega
                  clear hab hnm
                  go_wp2_with fail
                  refine (Bits_any p b ls _ (HC.out.drewN q2) hbl X m true HX.out HM.out hbt2.out).mono ?_
                  rintro e w4 ⟨rfl, nq4, rfl⟩
                  go_wp2
                  go_roundw
                  case rel => exact ⟨b + 1, _, by omega, by go_num, rfl⟩
                  case measure => simp [intOf]; omega
          · have : b = zs.length := by omega
            subst this
            go_wp2
            go_roundw
            case rel => exact ⟨a + 1, _, by omega, by go_num, rfl⟩
            case measure => simp [intOf]; omega
    · have : a = zs.length := by omega
      subst this
      go_wp2_with fail
      have hbs : Bs [mo % 256, mo / 256 % 256, mo / 65536 % 256] := fun x hx => by
        simp at hx
        omega
      have hby := by_made (w2.drewN q) [mo % 256, mo / 256 % 256, mo / 65536 % 256] #[.int .u8 (↑mo % 256), .int .u8 (↑mo / 256 % 256), .int .u8 (↑mo / 65536 % 256)] 3 rfl (by simp [u8s])
      refine (newReader_T hby hbs (by simp)).mono ?_
      rintro e w3 ⟨pr, rfl, hr⟩
      have HR := Lib.hid hr
      have HC2 := Lib.hid ((HC.out.drewN q).below (w' := (w2.drewN q).alloc (.cells #[.int .u8 (↑mo % 256), .int .u8 (↑mo / 256 % 256), .int .u8 (↑mo / 65536 % 256)] 5)) ((Below.refl _ _).alloc (Nat.le_refl _) _))
      have HB2 : Hid (Below w.heap.size w ((w2.drewN q).alloc (.cells #[.int .u8 (↑mo % 256), .int .u8 (↑mo / 256 % 256), .int .u8 (↑mo / 65536 % 256)] 5))) := Lib.hid ((below_drewN HB.out q).alloc HB.out.size _)
      clear hby hr
      generalize (w2.drewN q).alloc (.cells #[.int .u8 (↑mo % 256), .int .u8 (↑mo / 256 % 256), .int .u8 (↑mo / 65536 % 256)] 5) = w4 at HR HC2 HB2
      rcases finds_some (p := p) HC.out.ok (ahead_lt [mo % 256, mo / 256 % 256, mo / 65536 % 256] 0) with ⟨s, hs, hf⟩ | ⟨hro, hf⟩
      · have h24 : 0 + ln ls s ≤ 8 * [mo % 256, mo / 256 % 256, mo / 65536 % 256].length := by
          have := ln_le HC.out.ok s
          simp; omega
        clear hf
        go_wp2_with fail
        refine (Next_ok HC2.out HR.out (by simp) s hs h24).mono ?_
        rintro e w5 ⟨rfl, hr⟩
        have HC5 := Lib.hid (RdT.code HC2.out hr)
        have HB5 : Hid (Below w.heap.size w w5) := Lib.hid (HB2.out.trans ((RdT.below hr).mono HB2.out.size))
        clear hr hs h24
        go_wp2_with fail
        refine (Complete_any p ls _ HC5.out).mono ?_
        rintro e w6 ⟨rfl, hb6⟩
        have HB6 := Lib.hid (HB5.out.trans (hb6.mono HB5.out.size))
        clear hb6
        obtain ⟨cb, hcb⟩ : ∃ cb, cb = decide (room ls = 32768) := ⟨_, rfl⟩
        rw [← hcb]
        clear hcb
        cases cb
        all_goals
          go_wp2
          go_ret
          exact ⟨rfl, HB6.out⟩
      · have hA := ahead_lt [mo % 256, mo / 256 % 256, mo / 65536 % 256] 0
        go_wp2_with fail
        refine (next_no HC2.out HR.out (by simp) (by simp) 0 0 (by omega) hf 10 (.inr ⟨rfl, rfl, by simp⟩)).mono ?_
        rintro e w5 ⟨rfl, hr⟩
        have HC5 := Lib.hid (RdT.code HC2.out hr)
        have HB5 : Hid (Below w.heap.size w w5) := Lib.hid (HB2.out.trans ((RdT.below hr).mono HB2.out.size))
        clear hr
        go_wp2_with fail
        refine (Complete_any p ls _ HC5.out).mono ?_
        rintro e w6 ⟨rfl, hb6⟩
        rw [show decide (room ls = 32768) = false by simp; omega]
        have HB6 := Lib.hid (HB5.out.trans (hb6.mono HB5.out.size))
        clear hb6 hA hro
        go_wp2
        go_ret
        exact ⟨rfl, HB6.out⟩
end Go.Proofs.Ythgehgdbplbcfaa
