/-
  The law on names, lines and the mark: the walk.
-/
import Derived.Test.YtmnkdnlmpgmdgaaDoorUw5
import Derived.Deep.Cut
namespace Go.Proofs.YtmnkdnlmpgmdgaaDoor
open Go.RowKit U
set_option maxRecDepth 100000

theorem strip_three {xs : List Nat} (h : 3 ≤ xs.length) : xs.take 3 = [xs.getD 0 0, xs.getD 1 0, xs.getD 2 0] := by
  match xs, h with
  | a :: b :: c :: t, _ => rfl

set_option maxHeartbeats 6400000 in
theorem texts_main (s : ByteArray) (w : World) (hT : TU w) (hl : s.size ≤ 2000) :
    Calls Tryd.prog 4 #[.string s] w fun e w' => e = .returned (.bool true) ∧ Below w.heap.size w w' := by
  have KA := Lib.hid (alive_any w hT)
  have HT := Lib.hid hT
  obtain ⟨NEW, CAP, hcvt, hnb, hns⟩ := text_run s (by omega)
  have hbl := bts_len s
  have K26 := Lib.hid fun (W : World) (hW : Below w.heap.size w W) => Name_any s W (by omega) (hT.grow hW)
  have K27 := Lib.hid fun (W : World) => rName_any s W (by omega)
  have hlen : ∀ W, (Builtin.len_ #[9] 3 #[.string s]).run Tryd.prog W = .ok (.int .i64 (s.size : Nat)) W := fun W => run_len_string W 9 3 s Tryd.underlying9
  obtain ⟨xs, hxs⟩ : ∃ xs, xs = bts s := ⟨_, rfl⟩
  obtain ⟨Z, hZ⟩ : ∃ Z, Z = s.size := ⟨_, rfl⟩
  rw [← hZ] at hcvt hbl hl hlen
  rw [← hxs] at hns hbl K26 K27
  have HNB := Lib.hid hnb
  have HNS := Lib.hid hns
  have HBL := Lib.hid hbl
  have hbs := bts_bs s
  rw [← hxs] at hbs
  have HBS := Lib.hid hbs
  have K28 := Lib.hid fun (W : World) (hW : Below w.heap.size w W) (a : Option Addr) (c : Nat) (h : Sl W a c xs) => Lines_any a c xs W h (by omega) (hT.grow hW)
  have K29 := Lib.hid fun (W : World) (a : Option Addr) (c : Nat) (h : Sl W a c xs) => rLines_any a c xs W h (by omega)
  have K30 := Lib.hid fun (W : World) (a : Option Addr) (c : Nat) (h : Sl W a c xs) => Strip_any a c xs W h (by omega)
  generalize nameP xs = NM at K26 K27
  obtain ⟨L, hL⟩ : ∃ L, L = lin false xs := ⟨_, rfl⟩
  rw [← hL] at K28 K29
  obtain ⟨S, hS⟩ : ∃ S, S = stripP xs := ⟨_, rfl⟩
  rw [← hS] at K30
  have HS := Lib.hid hS
  unfold SlTo at K28 K29 K30
  rw [hbl] at K28 K29 K30
  obtain ⟨ZL, hZL⟩ : ∃ ZL, ZL = L.length := ⟨_, rfl⟩
  obtain ⟨ZS, hZS⟩ : ∃ ZS, ZS = S.length := ⟨_, rfl⟩
  rw [← hZL] at K28 K29
  rw [← hZS] at K30
  have KSL := Lib.hid fun (W : World) (a1 a2 : Option Addr) (c1 c2 : Nat) (h1 : Sl W a1 c1 L) (h2 : Sl W a2 c2 L) => same_eq a1 a2 c1 c2 L W h1 h2
  have KSS := Lib.hid fun (W : World) (a1 a2 : Option Addr) (c1 c2 : Nat) (h1 : Sl W a1 c1 S) (h2 : Sl W a2 c2 S) => same_eq a1 a2 c1 c2 S W h1 h2
  rw [← hZL] at KSL
  rw [← hZS] at KSS
  have HZS := Lib.hid hZS
  have e1 : ¬ (2000 : Int) < Z := by omega
  clear hT hns hnb hbl hbs hxs hZ hL hS hZL hZS
  go_enter Tryd.func4, Tryd.ntmps4
  go_upto_region 5 with (go_at_call 8; (with_reducible refine KA.out.mono ?_); rintro e w1 ⟨rfl, hb⟩; have HB1 := Lib.hid hb; clear hb)
  have hc1 := hcvt w1
  have HB2 := Lib.hid (HB1.out.trans ((HNB.out w1).mono HB1.out.size))
  have HS2 := Lib.hid (HNS.out w1)
  obtain ⟨W2, hW2⟩ : ∃ W2, W2 = NEW w1 := ⟨_, rfl⟩
  obtain ⟨C2, hC2⟩ : ∃ C2, C2 = CAP w1 := ⟨_, rfl⟩
  obtain ⟨g, hg⟩ : ∃ g, g = w1.heap.size := ⟨_, rfl⟩
  rw [← hW2, ← hC2, ← hg] at hc1 HS2
  rw [← hW2] at HB2
  clear hcvt HNB HNS hW2 hC2 hg
  by_cases k3 : Z < 3
  · have z3 : ¬ (3 : Int) ≤ Z := by omega
    have hSx : S = xs := by rw [HS.out, stripP, if_neg (fun h => by
          have := congrArg List.length h
          rw [List.length_take, HBL.out] at this
          simp at this; omega)]
    have hzz : ZS = Z := by rw [HZS.out, hSx, HBL.out]
    have HSW : Hid (Sl W2 (some ⟨g, 0, none⟩) C2 S) := Lib.hid (by rw [hSx]; exact HS2.out)
    rw [hzz] at KSS K30
    clear hSx hzz
    clear k3
    go_wp2_with (first
      | (go_at_call 26; (with_reducible refine (K26.out W2 HB2.out).mono ?_); rintro e w3 ⟨rfl, hb⟩; have HB3 := Lib.hid (HB2.out.trans (hb.mono HB2.out.size)); have HX3 := Lib.hid (HS2.out.below hb); have HY3 := Lib.hid (HSW.out.below hb); clear hb)
      | (go_at_call 27; (with_reducible refine (K27.out w3).mono ?_); rintro e w4 ⟨rfl, hb⟩; have HB4 := Lib.hid (HB3.out.trans (hb.mono HB3.out.size)); have HX4 := Lib.hid (HX3.out.below hb); have HY4 := Lib.hid (HY3.out.below hb); clear hb)
      | (go_at_call 28; (with_reducible refine (K28.out w4 HB4.out _ _ HX4.out).mono ?_); rintro e w5 ⟨a5, c5, rfl, hs, hb⟩; have HL5 := Lib.hid hs; have HB5 := Lib.hid (HB4.out.trans (hb.mono HB4.out.size)); have HX5 := Lib.hid (HX4.out.below hb); have HY5 := Lib.hid (HY4.out.below hb); clear hb hs)
      | (go_at_call 29; (with_reducible refine (K29.out w5 _ _ HX5.out).mono ?_); rintro e w6 ⟨a6, c6, rfl, hs, hb⟩; have HL6 := Lib.hid hs; have HM6 := Lib.hid (HL5.out.below hb); have HB6 := Lib.hid (HB5.out.trans (hb.mono HB5.out.size)); have HX6 := Lib.hid (HX5.out.below hb); have HY6 := Lib.hid (HY5.out.below hb); clear hb hs)
      | (go_at_call 14; (with_reducible refine (KSL.out w6 a5 a6 c5 c6 HM6.out HL6.out).mono ?_); rintro e w7 ⟨rfl, q7, rfl⟩; have HB7 := Lib.hid (below_drewN HB6.out q7); have HX7 := Lib.hid (HX6.out.drewN q7); have HY7 := Lib.hid (HY6.out.drewN q7))
      | (go_at_call 30; (with_reducible refine (K30.out _ _ _ HX7.out).mono ?_); rintro e w8 ⟨a8, c8, rfl, hs, hb⟩; have HL8 := Lib.hid hs; have HB8 := Lib.hid (HB7.out.trans (hb.mono HB7.out.size)); have HY8 := Lib.hid (HY7.out.below hb); clear hb hs)
      | (go_at_call 14; (with_reducible refine (KSS.out w8 a8 _ c8 _ HL8.out HY8.out).mono ?_); rintro e w9 ⟨rfl, q9, rfl⟩))
    go_ret
    exact ⟨rfl, below_drewN HB8.out q9⟩
  have z3 : (3 : Int) ≤ Z := by omega
  have hx3 : 3 ≤ xs.length := by rw [HBL.out]; omega
  have ht3 := strip_three hx3
  have c0 := HS2.out.cell 0 (by omega)
  have c1 := HS2.out.cell 1 (by omega)
  have c2 := HS2.out.cell 2 (by omega)
  rw [Nat.zero_add] at c0 c1 c2
  obtain ⟨x0, hx0⟩ : ∃ x0, x0 = xs.getD 0 0 := ⟨_, rfl⟩
  obtain ⟨x1, hx1⟩ : ∃ x1, x1 = xs.getD 1 0 := ⟨_, rfl⟩
  obtain ⟨x2, hx2⟩ : ∃ x2, x2 = xs.getD 2 0 := ⟨_, rfl⟩
  rw [← hx0] at c0 ht3
  rw [← hx1] at c1 ht3
  rw [← hx2] at c2 ht3
  have HT3 := Lib.hid ht3
  have HX3 := Lib.hid hx3
  clear hx0 hx1 hx2 ht3 hx3 k3
  by_cases d0 : x0 = 239
  · subst d0
    by_cases d1 : x1 = 187
    · subst d1
      by_cases d2 : x2 = 191
      · subst d2
        have hSx : S = xs.drop 3 := by rw [HS.out, stripP, if_pos HT3.out]
        have hzz : ZS = Z - 3 := by rw [HZS.out, hSx, List.length_drop, HBL.out]
        have hfr := HS2.out.from_ 3 HX3.out
        rw [← hSx] at hfr
        have hsl := slice_l (some ⟨g, 0, none⟩) Z C2 3 (by omega)
        obtain ⟨WA, hWA⟩ : ∃ WA, WA = cutA (some ⟨g, 0, none⟩) C2 3 := ⟨_, rfl⟩
        obtain ⟨WC, hWC⟩ : ∃ WC, WC = C2 - 3 := ⟨_, rfl⟩
        rw [← hWA, ← hWC] at hfr hsl
        rw [← hzz] at hsl
        have hsl : ∀ W, (Instr.slice 22 (.slice (some ⟨g, 0, none⟩) Z C2) (some (.int .i64 3)) none none).run Tryd.prog W = .ok (.slice WA ZS WC) W := hsl
        have HSW := Lib.hid hfr
        clear hSx hzz hfr hWA hWC
        go_wp2_with (first
          | (go_at_call 26; (with_reducible refine (K26.out W2 HB2.out).mono ?_); rintro e w3 ⟨rfl, hb⟩; have HB3 := Lib.hid (HB2.out.trans (hb.mono HB2.out.size)); have HX3 := Lib.hid (HS2.out.below hb); have HY3 := Lib.hid (HSW.out.below hb); clear hb)
          | (go_at_call 27; (with_reducible refine (K27.out w3).mono ?_); rintro e w4 ⟨rfl, hb⟩; have HB4 := Lib.hid (HB3.out.trans (hb.mono HB3.out.size)); have HX4 := Lib.hid (HX3.out.below hb); have HY4 := Lib.hid (HY3.out.below hb); clear hb)
          | (go_at_call 28; (with_reducible refine (K28.out w4 HB4.out _ _ HX4.out).mono ?_); rintro e w5 ⟨a5, c5, rfl, hs, hb⟩; have HL5 := Lib.hid hs; have HB5 := Lib.hid (HB4.out.trans (hb.mono HB4.out.size)); have HX5 := Lib.hid (HX4.out.below hb); have HY5 := Lib.hid (HY4.out.below hb); clear hb hs)
          | (go_at_call 29; (with_reducible refine (K29.out w5 _ _ HX5.out).mono ?_); rintro e w6 ⟨a6, c6, rfl, hs, hb⟩; have HL6 := Lib.hid hs; have HM6 := Lib.hid (HL5.out.below hb); have HB6 := Lib.hid (HB5.out.trans (hb.mono HB5.out.size)); have HX6 := Lib.hid (HX5.out.below hb); have HY6 := Lib.hid (HY5.out.below hb); clear hb hs)
          | (go_at_call 14; (with_reducible refine (KSL.out w6 a5 a6 c5 c6 HM6.out HL6.out).mono ?_); rintro e w7 ⟨rfl, q7, rfl⟩; have HB7 := Lib.hid (below_drewN HB6.out q7); have HX7 := Lib.hid (HX6.out.drewN q7); have HY7 := Lib.hid (HY6.out.drewN q7))
          | (go_at_call 30; (with_reducible refine (K30.out _ _ _ HX7.out).mono ?_); rintro e w8 ⟨a8, c8, rfl, hs, hb⟩; have HL8 := Lib.hid hs; have HB8 := Lib.hid (HB7.out.trans (hb.mono HB7.out.size)); have HY8 := Lib.hid (HY7.out.below hb); clear hb hs)
          | (go_at_call 14; (with_reducible refine (KSS.out w8 a8 _ c8 _ HL8.out HY8.out).mono ?_); rintro e w9 ⟨rfl, q9, rfl⟩))
        go_ret
        exact ⟨rfl, below_drewN HB8.out q9⟩
      · have d2' : ¬ (x2 : Int) = 191 := by omega
        have hSx : S = xs := by rw [HS.out, stripP, if_neg (fun h => by rw [HT3.out] at h; simp at h; exact d2 h)]
        have hzz : ZS = Z := by rw [HZS.out, hSx, HBL.out]
        have HSW : Hid (Sl W2 (some ⟨g, 0, none⟩) C2 S) := Lib.hid (by rw [hSx]; exact HS2.out)
        rw [hzz] at KSS K30
        clear hSx hzz
        clear d2
        go_wp2_with (first
          | (go_at_call 26; (with_reducible refine (K26.out W2 HB2.out).mono ?_); rintro e w3 ⟨rfl, hb⟩; have HB3 := Lib.hid (HB2.out.trans (hb.mono HB2.out.size)); have HX3 := Lib.hid (HS2.out.below hb); have HY3 := Lib.hid (HSW.out.below hb); clear hb)
          | (go_at_call 27; (with_reducible refine (K27.out w3).mono ?_); rintro e w4 ⟨rfl, hb⟩; have HB4 := Lib.hid (HB3.out.trans (hb.mono HB3.out.size)); have HX4 := Lib.hid (HX3.out.below hb); have HY4 := Lib.hid (HY3.out.below hb); clear hb)
          | (go_at_call 28; (with_reducible refine (K28.out w4 HB4.out _ _ HX4.out).mono ?_); rintro e w5 ⟨a5, c5, rfl, hs, hb⟩; have HL5 := Lib.hid hs; have HB5 := Lib.hid (HB4.out.trans (hb.mono HB4.out.size)); have HX5 := Lib.hid (HX4.out.below hb); have HY5 := Lib.hid (HY4.out.below hb); clear hb hs)
          | (go_at_call 29; (with_reducible refine (K29.out w5 _ _ HX5.out).mono ?_); rintro e w6 ⟨a6, c6, rfl, hs, hb⟩; have HL6 := Lib.hid hs; have HM6 := Lib.hid (HL5.out.below hb); have HB6 := Lib.hid (HB5.out.trans (hb.mono HB5.out.size)); have HX6 := Lib.hid (HX5.out.below hb); have HY6 := Lib.hid (HY5.out.below hb); clear hb hs)
          | (go_at_call 14; (with_reducible refine (KSL.out w6 a5 a6 c5 c6 HM6.out HL6.out).mono ?_); rintro e w7 ⟨rfl, q7, rfl⟩; have HB7 := Lib.hid (below_drewN HB6.out q7); have HX7 := Lib.hid (HX6.out.drewN q7); have HY7 := Lib.hid (HY6.out.drewN q7))
          | (go_at_call 30; (with_reducible refine (K30.out _ _ _ HX7.out).mono ?_); rintro e w8 ⟨a8, c8, rfl, hs, hb⟩; have HL8 := Lib.hid hs; have HB8 := Lib.hid (HB7.out.trans (hb.mono HB7.out.size)); have HY8 := Lib.hid (HY7.out.below hb); clear hb hs)
          | (go_at_call 14; (with_reducible refine (KSS.out w8 a8 _ c8 _ HL8.out HY8.out).mono ?_); rintro e w9 ⟨rfl, q9, rfl⟩))
        go_ret
        exact ⟨rfl, below_drewN HB8.out q9⟩
    · have d1' : ¬ (x1 : Int) = 187 := by omega
      have hSx : S = xs := by rw [HS.out, stripP, if_neg (fun h => by rw [HT3.out] at h; simp at h; exact d1 h.1)]
      have hzz : ZS = Z := by rw [HZS.out, hSx, HBL.out]
      have HSW : Hid (Sl W2 (some ⟨g, 0, none⟩) C2 S) := Lib.hid (by rw [hSx]; exact HS2.out)
      rw [hzz] at KSS K30
      clear hSx hzz
      clear d1
      go_wp2_with (first
        | (go_at_call 26; (with_reducible refine (K26.out W2 HB2.out).mono ?_); rintro e w3 ⟨rfl, hb⟩; have HB3 := Lib.hid (HB2.out.trans (hb.mono HB2.out.size)); have HX3 := Lib.hid (HS2.out.below hb); have HY3 := Lib.hid (HSW.out.below hb); clear hb)
        | (go_at_call 27; (with_reducible refine (K27.out w3).mono ?_); rintro e w4 ⟨rfl, hb⟩; have HB4 := Lib.hid (HB3.out.trans (hb.mono HB3.out.size)); have HX4 := Lib.hid (HX3.out.below hb); have HY4 := Lib.hid (HY3.out.below hb); clear hb)
        | (go_at_call 28; (with_reducible refine (K28.out w4 HB4.out _ _ HX4.out).mono ?_); rintro e w5 ⟨a5, c5, rfl, hs, hb⟩; have HL5 := Lib.hid hs; have HB5 := Lib.hid (HB4.out.trans (hb.mono HB4.out.size)); have HX5 := Lib.hid (HX4.out.below hb); have HY5 := Lib.hid (HY4.out.below hb); clear hb hs)
        | (go_at_call 29; (with_reducible refine (K29.out w5 _ _ HX5.out).mono ?_); rintro e w6 ⟨a6, c6, rfl, hs, hb⟩; have HL6 := Lib.hid hs; have HM6 := Lib.hid (HL5.out.below hb); have HB6 := Lib.hid (HB5.out.trans (hb.mono HB5.out.size)); have HX6 := Lib.hid (HX5.out.below hb); have HY6 := Lib.hid (HY5.out.below hb); clear hb hs)
        | (go_at_call 14; (with_reducible refine (KSL.out w6 a5 a6 c5 c6 HM6.out HL6.out).mono ?_); rintro e w7 ⟨rfl, q7, rfl⟩; have HB7 := Lib.hid (below_drewN HB6.out q7); have HX7 := Lib.hid (HX6.out.drewN q7); have HY7 := Lib.hid (HY6.out.drewN q7))
        | (go_at_call 30; (with_reducible refine (K30.out _ _ _ HX7.out).mono ?_); rintro e w8 ⟨a8, c8, rfl, hs, hb⟩; have HL8 := Lib.hid hs; have HB8 := Lib.hid (HB7.out.trans (hb.mono HB7.out.size)); have HY8 := Lib.hid (HY7.out.below hb); clear hb hs)
        | (go_at_call 14; (with_reducible refine (KSS.out w8 a8 _ c8 _ HL8.out HY8.out).mono ?_); rintro e w9 ⟨rfl, q9, rfl⟩))
      go_ret
      exact ⟨rfl, below_drewN HB8.out q9⟩
  · have d0' : ¬ (x0 : Int) = 239 := by omega
    have hSx : S = xs := by rw [HS.out, stripP, if_neg (fun h => by rw [HT3.out] at h; simp at h; exact d0 h.1)]
    have hzz : ZS = Z := by rw [HZS.out, hSx, HBL.out]
    have HSW : Hid (Sl W2 (some ⟨g, 0, none⟩) C2 S) := Lib.hid (by rw [hSx]; exact HS2.out)
    rw [hzz] at KSS K30
    clear hSx hzz
    clear d0
    go_wp2_with (first
      | (go_at_call 26; (with_reducible refine (K26.out W2 HB2.out).mono ?_); rintro e w3 ⟨rfl, hb⟩; have HB3 := Lib.hid (HB2.out.trans (hb.mono HB2.out.size)); have HX3 := Lib.hid (HS2.out.below hb); have HY3 := Lib.hid (HSW.out.below hb); clear hb)
      | (go_at_call 27; (with_reducible refine (K27.out w3).mono ?_); rintro e w4 ⟨rfl, hb⟩; have HB4 := Lib.hid (HB3.out.trans (hb.mono HB3.out.size)); have HX4 := Lib.hid (HX3.out.below hb); have HY4 := Lib.hid (HY3.out.below hb); clear hb)
      | (go_at_call 28; (with_reducible refine (K28.out w4 HB4.out _ _ HX4.out).mono ?_); rintro e w5 ⟨a5, c5, rfl, hs, hb⟩; have HL5 := Lib.hid hs; have HB5 := Lib.hid (HB4.out.trans (hb.mono HB4.out.size)); have HX5 := Lib.hid (HX4.out.below hb); have HY5 := Lib.hid (HY4.out.below hb); clear hb hs)
      | (go_at_call 29; (with_reducible refine (K29.out w5 _ _ HX5.out).mono ?_); rintro e w6 ⟨a6, c6, rfl, hs, hb⟩; have HL6 := Lib.hid hs; have HM6 := Lib.hid (HL5.out.below hb); have HB6 := Lib.hid (HB5.out.trans (hb.mono HB5.out.size)); have HX6 := Lib.hid (HX5.out.below hb); have HY6 := Lib.hid (HY5.out.below hb); clear hb hs)
      | (go_at_call 14; (with_reducible refine (KSL.out w6 a5 a6 c5 c6 HM6.out HL6.out).mono ?_); rintro e w7 ⟨rfl, q7, rfl⟩; have HB7 := Lib.hid (below_drewN HB6.out q7); have HX7 := Lib.hid (HX6.out.drewN q7); have HY7 := Lib.hid (HY6.out.drewN q7))
      | (go_at_call 30; (with_reducible refine (K30.out _ _ _ HX7.out).mono ?_); rintro e w8 ⟨a8, c8, rfl, hs, hb⟩; have HL8 := Lib.hid hs; have HB8 := Lib.hid (HB7.out.trans (hb.mono HB7.out.size)); have HY8 := Lib.hid (HY7.out.below hb); clear hb hs)
      | (go_at_call 14; (with_reducible refine (KSS.out w8 a8 _ c8 _ HL8.out HY8.out).mono ?_); rintro e w9 ⟨rfl, q9, rfl⟩))
    go_ret
    exact ⟨rfl, below_drewN HB8.out q9⟩
theorem texts_long (s : ByteArray) (w : World) (hT : TU w) (hn : 2000 < s.size) :
    Calls Tryd.prog 4 #[.string s] w fun e w' => e = .returned (.bool true) ∧ Below w.heap.size w w' := by
  have KA := Lib.hid (alive_any w hT)
  have hlen : ∀ W, (Builtin.len_ #[9] 3 #[.string s]).run Tryd.prog W = .ok (.int .i64 (s.size : Nat)) W := fun W => run_len_string W 9 3 s Tryd.underlying9
  obtain ⟨Z, hZ⟩ : ∃ Z, Z = s.size := ⟨_, rfl⟩
  rw [← hZ] at hlen hn
  have e1 : (2000 : Int) < Z := by omega
  clear hT hn hZ
  go_enter Tryd.func4, Tryd.ntmps4
  go_wp2_with (go_at_call 8; (with_reducible refine KA.out.mono ?_); rintro e w1 ⟨rfl, hb⟩)
  go_ret
  exact ⟨rfl, hb⟩
theorem texts_all (s : ByteArray) (w : World) (hT : TU w) (_hm : s.size ≤ maxLen) :
    Calls Tryd.prog 4 #[.string s] w fun e w' => e = .returned (.bool true) ∧ Below w.heap.size w w' := by
  by_cases h : s.size ≤ 2000
  · exact texts_main s w hT h
  · exact texts_long s w hT (by omega)
end Go.Proofs.YtmnkdnlmpgmdgaaDoor
