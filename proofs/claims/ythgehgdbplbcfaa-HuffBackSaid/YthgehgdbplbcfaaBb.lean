/-
  HuffBack: the walk.
-/
import Derived.Test.YthgehgdbplbcfaaBa
namespace Go.Proofs.Ythgehgdbplbcfaa
open Go.RowKit

theorem count_app (l : List Nat) (s i : Nat) : (l ++ [s]).count i = if i = s then l.count s + 1 else l.count i := by
  rw [List.count_append, List.count_singleton]
  by_cases h : i = s
  · subst h; simp
  · simp [h, Ne.symm h]

set_option maxRecDepth 100000 in
set_option maxHeartbeats 6400000 in
theorem back_ok (ao : Option Addr) (c : Nat) (zs : List Int) (ao2 : Option Addr) (c2 : Nat) (ys : List Int) (w : World) (h : IS w ao zs) (h2 : IS w ao2 ys) (hv : Vd zs) (hm : room (nat zs) ≤ 32768) (hy : ys.length ≤ 200) :
    Calls Try.prog 5 #[.slice ao zs.length c, .slice ao2 ys.length c2] w fun e w' => e = .returned (.bool true) ∧ Below w.heap.size w w' := by
  have HI := Lib.hid h
  have HV := Lib.hid hv
  have HM := Lib.hid hm
  have hl : (zs.length : Int) ≤ 320 := by have := hv.len; omega
  have hy' : (ys.length : Int) ≤ 200 := by omega
  clear h hv hm
  go_enter Try.func5, Try.ntmps5
  go_wp2_with fail
  refine (alive_any w).mono ?_
  rintro e w1 ⟨rfl, hb1⟩
  go_wp2_with fail
  refine (New_ok ao c zs _ (HI.out.below hb1) HV.out HM.out).mono ?_
  rintro e w2 ⟨p, rfl, hc, hb2⟩
  have HC := Lib.hid hc
  have HB : Hid (Below w.heap.size w w2) := Lib.hid (hb1.trans (hb2.mono hb1.size))
  have HY := Lib.hid (h2.below HB.out)
  have HL := Lib.hid (nat_len zs)
  obtain ⟨ls, hls⟩ : ∃ ls, ls = nat zs := ⟨_, rfl⟩
  rw [← hls] at HC HL
  clear hc hb1 hb2 hls HM h2
  go_wp2_with fail
  refine (newWriter_T (w := w2) (w1 := w2) (base := w2.heap.size) (Nat.le_refl _) (Touch.refl _ w2)).mono ?_
  rintro e w3 ⟨pw, rfl, hw⟩
  have HW := Lib.hid hw
  clear hw
  go_upto_region 10 with (refine wpList_make_z rfl 22 (.tmp 42) (.tmp 42) rfl 3 (.int .i64 0) 1 8 zs.length Try.underlying22 (by kernel_rfl) .i64 .i64 _ _ rfl rfl rfl rfl (by omega) (by omega) ?_; intro W hbm htm hsm; have HSM := Lib.hid hsm; clear hsm)
  obtain ⟨gc, hgc⟩ : ∃ gc, gc = w3.heap.size := ⟨_, rfl⟩
  rw [← hgc]
  rw [← hgc, iz', ← HL.out] at hbm
  have HS0 := Lib.hid (sent_start HW.out hgc hbm htm HSM.out)
  clear hbm htm HSM hgc HW
  go_wp2
  go_loopw [9, 10] (fun v i wr => ∃ k : Nat, k ≤ ys.length ∧ i = .int .i64 k ∧ Sent w2 pw gc ls k v wr) (fun _ i _ => ys.length - (intOf i).toNat)
  case atStart => exact ⟨0, Nat.zero_le _, rfl, HS0.out⟩
  case round =>
    obtain ⟨k, hk, rfl, m, sc, so, l, hmk, rfl, hnz, hrel⟩ := hrel
    have HR := Lib.hid hrel
    have HNZ := Lib.hid hnz
    have hm200 : m ≤ 200 := by omega
    have hlm : l.length ≤ 200 := by rw [hrel.hm]; exact hm200
    clear hrel hnz HS0
    by_cases hlt : k < ys.length
    · have hkk : (k : Int) < ys.length := by omega
      obtain ⟨b, off, rfl, hcell⟩ := (HY.out.below (U.below HR.out.touch)).at hlt
      obtain ⟨y, hye⟩ : ∃ y, y = ys.getD k 0 := ⟨_, rfl⟩
      rw [← hye] at hcell
      clear hye
      have HCr := Lib.hid (HC.out.u HR.out.touch)
      have hn := wl_le HC.out.ok l
      have hn7 : (wl ls l).2 ≤ 7000000000 := by omega
      clear hn
      by_cases hok : 0 ≤ y ∧ ln ls y.toNat ≠ 0
      · obtain ⟨s, rfl⟩ := Int.eq_ofNat_of_zero_le hok.1
        have hs0 := hok.2
        rw [Int.toNat_natCast] at hs0
        have hsl := ln_lt hs0
        have hsz : (s : Int) < zs.length := by rw [← HL.out]; omega
        have hsN : s < zs.length := by omega
        have HS := Lib.hid hs0
        have hcs : l.count s ≤ 200 := Nat.le_trans List.count_le_length hlm
        clear hok hs0
        go_wp2_with fail
        refine (Bits_yes p s ls _ HCr.out HS.out _ _ rfl rfl).mono ?_
        rintro e w4 ⟨rfl, nq, rfl⟩
        have HR4 := Lib.hid (HR.out.drewN nq)
        obtain ⟨g, hwg, hfg⟩ := HR4.out.wri
        have HWG := Lib.hid hwg
        have HFG := Lib.hid hfg
        clear hwg hfg
        go_wp2_with fail
        refine (Put_to (HCr.out.drewN nq) HWG.out hn7 s _ _ HS.out rfl rfl).mono ?_
        rintro e w5 ⟨rfl, hp⟩
        have HR5 := Lib.hid (HR4.out.put HFG.out HWG.out hp)
        clear hp HR4 HWG HFG
        obtain ⟨q, hq⟩ : ∃ q, q = l.count s := ⟨_, rfl⟩
        have HQ := Lib.hid hq
        rw [← hq] at hcs
        clear hq
        go_wp2_with (refine wpList_append_g at22 rfl (.tmp 69) (.tmp 71) rfl w2.heap.size _ _ m 1 (iv (nz l)) [.int .i64 (s : Int)] rfl rfl (HR5.out.alloc _).own (cells_one w5 (.int .i64 (s : Int)) 3) rfl (by intro u hu; simp at hu; subst hu; rfl) (HR5.out.alloc (.cells #[.int .i64 (s : Int)] 3)).base (by omega) (by omega) ?_; intro so' sc' w6 hA; have HR6 := Lib.hid ((HR5.out.alloc _).app hA); have hc6 : w6.cell? ⟨gc, s, none⟩ = some (.int .i64 (q : Nat)) := (by rw [HQ.out]; exact ((HR6.out.cnt.cell s).trans (va_at _ _ s (by rw [HL.out]; exact hsN)))); have hf6 := HR6.out.cnt.free s; clear hA)
        go_roundw
        case rel =>
          refine ⟨k + 1, by omega, by go_num, m + 1, sc', so', l ++ [s], by omega, rfl, fun x hx => ?_, ?_⟩
          · rcases List.mem_append.1 hx with hx | hx
            · exact HNZ.out x hx
            · rw [List.mem_singleton.1 hx]; exact HS.out
          · have := HR6.out.set s (.int .i64 ((q + 1 : Nat) : Int))
            rw [ia_set _ _ (fun x => (l ++ [s]).count x) s (q + 1) (fun i _ => by rw [count_app, ← HQ.out])] at this
            rw [wl_app]
            simpa [wstep] using this
        case measure => simp [intOf]; omega
      · have hbad : y < 0 ∨ (ls.length : Int) ≤ y ∨ ∃ j : Nat, y = j ∧ j < ls.length ∧ ln ls j = 0 := by
          by_cases hy0 : y < 0
          · exact .inl hy0
          · obtain ⟨s, rfl⟩ := Int.eq_ofNat_of_zero_le (show 0 ≤ y by omega)
            by_cases hsl : s < ls.length
            · refine .inr (.inr ⟨s, rfl, hsl, ?_⟩)
              by_cases h0 : ln ls s = 0
              · exact h0
              · exact absurd ⟨by omega, by rw [Int.toNat_natCast]; exact h0⟩ hok
            · exact .inr (.inl (by omega))
        have HBD := Lib.hid hbad
        clear hok hbad
        go_wp2_with fail
        refine (Bits_no p y ls _ HCr.out HBD.out).mono ?_
        rintro e w4 ⟨rfl, rfl⟩
        go_wp2_with fail
        refine (Put_none HCr.out y HBD.out).mono ?_
        rintro e w5 ⟨rfl, rfl⟩
        go_wp2
        go_roundw
        case rel => exact ⟨k + 1, by omega, by go_num, m, sc, so, l, by omega, rfl, HNZ.out, HR.out⟩
        case measure => simp [intOf]; omega
    · have hk' : k = ys.length := by omega
      subst hk'
      have hwl := wl_le HC.out.ok l
      obtain ⟨g, hwg, hfg⟩ := HR.out.wri
      have hn7 : (wl ls l).2 ≤ 7000000000 := by omega
      go_wp2_with fail
      refine ((show WrT w2 wr w2.heap.size pw _ _ from ⟨g, hwg, HR.out.touch⟩).out hn7).mono ?_
      rintro e w4 ⟨bs, a, c3, g2, rfl, hbs, hwi, hnum, hown, _, hwr4, hU4, ht4⟩
      have HC4 := Lib.hid (HC.out.u hU4)
      have HB4 : Hid (Below w.heap.size w w4) := Lib.hid (HB.out.trans ((U.below hU4).mono HB.out.size))
      have HIS : Hid (IS w4 so (nz l)) := Lib.hid (own_is (ownsRow_touch HR.out.own ht4 (fun _ _ h => h)) (by rw [nz_len, HR.out.hm]))
      have HCN : Hid (IS w4 (some ⟨gc, 0, none⟩) (cz ls.length l)) := Lib.hid (blk_is (HR.out.cnt.touch ht4 (fun h => h)) _ (cz_len _ _) (fun j hj => cz_at _ _ _ hj))
      have HW4 := Lib.hid hwr4
      have hlm2 : l.length = m := HR.out.hm
      have hb8 : bs.length ≤ 1000 := by have := hwi.hi; omega
      have hlo := hwi.lo
      have HNUM := Lib.hid hnum
      have HBS := Lib.hid hbs
      have HOW := Lib.hid (BySl.own hown)
      have HCO := Lib.hid (cost_len (ls := ls) (l := l) (by omega) HNZ.out)
      clear hwg hfg hbs hwi hnum hown hwr4 hU4 ht4 HR hwl hn7
      go_wp2_with fail
      refine (newReader_T HOW.out HBS.out (by omega)).mono ?_
      rintro e w5 ⟨pr, rfl, hr⟩
      have HRD := Lib.hid hr
      clear hr
      go_wp2
      go_loopw [16] (fun i wr => ∃ k : Nat, k ≤ m ∧ i = .int .i64 k ∧ RdT w4 wr pr bs (wl ls (l.take k)).2) (fun i _ => m - (intOf i).toNat)
      case atStart => exact ⟨0, Nat.zero_le _, rfl, HRD.out⟩
      case round =>
        obtain ⟨k, hk, rfl, hrel⟩ := hrel
        have HR := Lib.hid hrel
        clear hrel HRD
        by_cases hlt : k < m
        · have hkm : (k : Int) < m := by omega
          have hkl : k < l.length := by omega
          obtain ⟨f1, f2, f3⟩ := wl_at ls l k hkl
          obtain ⟨b, off, rfl, hcell⟩ := HIS.out.at (k := k) (by rw [nz_len]; exact hkl)
          rw [nz_at l k hkl] at hcell
          have hmem : l.getD k 0 ∈ l := by
            rw [List.getD_eq_getElem?_getD, List.getElem?_eq_getElem hkl]
            exact List.getElem_mem hkl
          obtain ⟨s, hs⟩ : ∃ s, s = l.getD k 0 := ⟨_, rfl⟩
          rw [← hs] at f1 f2 f3 hcell hmem
          have hs0 := HNZ.out s hmem
          have HBG := Lib.hid (beg_of (bs := bs) HC.out.ok hs0 (by rw [HNUM.out]; exact f1))
          have hle : (wl ls (l.take k)).2 + ln ls s ≤ 8 * bs.length := by omega
          have HE := Lib.hid f3
          clear f1 f2 f3 hmem hs hs0
          go_wp2_with fail
          refine (Next_ok HC4.out HR.out (by omega) s HBG.out hle).mono ?_
          rintro e w6 ⟨rfl, hr⟩
          have hcell6 := ((RdT.below hr).cell (World.block_lt_of_cell? w4 _ hcell)).trans hcell
          have HR6 := Lib.hid hr
          clear hr hle hcell
          go_wp2
          go_roundw
          case rel => exact ⟨k + 1, by omega, by go_num, by rw [HE.out]; exact HR6.out⟩
          case measure => simp [intOf]; omega
        · have hk' : k = m := by omega
          subst hk'
          have htk : l.take k = l := List.take_of_length_le (by omega)
          rw [htk] at HR
          obtain ⟨n, hn⟩ : ∃ n, n = (wl ls l).2 := ⟨_, rfl⟩
          rw [← hn] at HR HCO HW4
          have HLen : Hid (Calls Try.prog 27 #[.pointer (some ⟨pw, 0, none⟩)] wr fun e w' => e = .returned (.int .i64 n) ∧ wr = w') := by
            obtain ⟨g5, _, ht5⟩ := HR.out
            obtain ⟨bs2, ho, _⟩ := HW4.out.touch ht5 (fun k hk hu => by
              have h1 := (HW4.out.foot hk).2
              have h2 : w4.heap.size ≤ k := hu
              omega)
            exact Lib.hid ho.wlen
          have HCost : Hid (Calls Try.prog 18 #[.pointer (some ⟨p, 0, none⟩), .slice (some ⟨gc, 0, none⟩) zs.length zs.length] wr fun e w' => e = .returned (.int .i64 n) ∧ wr = w') := by
            have h1 := Cost_any p ls (some ⟨gc, 0, none⟩) zs.length (cz ls.length l) wr (RdT.code HC4.out HR.out) (HCN.out.below (RdT.below HR.out)) (by rw [cz_len]; have := HC4.out.ok.len; omega)
            rw [cz_len, Nat.min_self, HCO.out, HL.out] at h1
            exact Lib.hid h1
          have hnn : ((n : Int) == n) = true := by simp
          have HBF : Hid (Below w.heap.size w wr) := Lib.hid (HB4.out.trans ((RdT.below HR.out).mono HB4.out.size))
          clear hn
          go_wp2_with (first
            | (go_at_call 23; (refine HR.out.at.mono ?_); rintro e w7 ⟨rfl, rfl⟩)
            | (go_at_call 27; (refine HLen.out.mono ?_); rintro e w7 ⟨rfl, rfl⟩)
            | (go_at_call 18; (refine HCost.out.mono ?_); rintro e w7 ⟨rfl, rfl⟩))
          go_ret
          exact ⟨rfl, HBF.out⟩
end Go.Proofs.Ythgehgdbplbcfaa
