/-
  The law on every call on a sign: the walk.
-/
import Derived.Test.YtmnkdnlmpgmdgaaDoorUw5
namespace Go.Proofs.YtmnkdnlmpgmdgaaDoor
open Go.RowKit U
set_option maxRecDepth 100000

set_option maxHeartbeats 12800000 in
theorem signs_main (ao : Option Addr) (c : Nat) (xs : List Nat) (at_ r : Int) (w : World) (hT : TU w) (h : Sl w ao c xs) (hm : xs.length ≤ 2000) (hr : -2147483648 ≤ r ∧ r ≤ 2147483647) :
    Calls Tryd.prog 3 #[.slice ao xs.length c, .int .i64 at_, .int .i32 r] w fun e w' => e = .returned (.bool true) ∧ Below w.heap.size w w' := by
  have KA := Lib.hid (alive_any w hT)
  have HT := Lib.hid hT
  have HS := Lib.hid h
  have K9 := Lib.hid fun (W : World) (hW : Below w.heap.size w W) => copy_any ao c xs W (h.below hW) (by omega)
  have K10 := Lib.hid fun (W : World) (hW : Below w.heap.size w W) (a : Option Addr) (c : Nat) (h : Sl W a c xs) => Next_any a c xs at_ W h (hT.grow hW)
  have K11 := Lib.hid fun (W : World) (hW : Below w.heap.size w W) => rNext_any ao c xs at_ W (h.below hW) (by omega)
  have K12 := Lib.hid fun (W : World) (hW : Below w.heap.size w W) (a : Option Addr) (c : Nat) (h : Sl W a c xs) => Check_any a c xs W h (by omega) (hT.grow hW)
  have K13 := Lib.hid fun (W : World) (hW : Below w.heap.size w W) => rCheck_any ao c xs W (h.below hW) (by omega)
  have KS := Lib.hid fun (W : World) (a1 a2 : Option Addr) (c1 c2 : Nat) (h1 : Sl W a1 c1 xs) (h2 : Sl W a2 c2 xs) => same_eq a1 a2 c1 c2 xs W h1 h2
  have K15 := Lib.hid fun (W : World) (a : Option Addr) (c : Nat) (h : Sl W a c xs) => Put_any a c xs r W h (by omega)
  have K16 := Lib.hid fun (W : World) => rSign_any r W
  have hpl : (putL xs r).length ≤ 2004 := by
    unfold putL
    split
    · have := enc_le r.toNat; rw [List.length_append]; omega
    · omega
  have K17 := Lib.hid fun (hv : Lib.validRune r = true) (W : World) => show Calls Tryd.prog 17 #[.int .i64 r] W (SlTo (enc r.toNat) W) from by
    obtain ⟨v, rfl, hs⟩ := sign_of hv
    exact rBytes_any v hs W
  have hpy : Lib.validRune r = true → putL xs r = xs ++ enc r.toNat := fun hv => by unfold putL; rw [if_pos hv]
  have hpn : Lib.validRune r = false → putL xs r = xs := fun hv => by unfold putL; rw [hv]; rfl
  have heb : Lib.validRune r = true → Bs (enc r.toNat) := fun hv => by
    obtain ⟨v, rfl, hs⟩ := sign_of hv
    exact enc_byte hs.1
  have K18 := Lib.hid fun W => Char_any r W
  have K19 := Lib.hid fun W => rChar_any r W
  have K20 := Lib.hid fun W => Blank_any r W
  have K21 := Lib.hid fun W => rBlank_any r W
  have K22 := Lib.hid fun W => Begins_any r W
  have K23 := Lib.hid fun W => rBegins_any r W
  have K24 := Lib.hid fun W => Goes_any r W
  have K25 := Lib.hid fun W => rGoes_any r W
  generalize wth charL r = B1 at K18 K19
  generalize wth blankL r = B2 at K20 K21
  generalize wth beginsL r = B3 at K22 K23
  generalize goesP r = B4 at K24 K25
  obtain ⟨nv, nn, hnx⟩ : ∃ a b, nxF xs at_ = (a, b) := ⟨_, _, rfl⟩
  rw [hnx] at K10 K11
  obtain ⟨ca, cb, hca⟩ : ∃ a b, alA charP xs = (a, b) := ⟨_, _, rfl⟩
  rw [hca] at K12 K13
  simp only at K10 K11 K12 K13
  have hnvb : nv ≤ 1114111 := by
    have : nv = (nxF xs at_).1 := by rw [hnx]
    rw [this]
    unfold nxF
    split
    · exact Nat.zero_le _
    · exact (nx_le4 _ (h.bs.drop _)).2.2
  obtain ⟨P, hP⟩ : ∃ P, P = putL xs r := ⟨_, rfl⟩
  unfold PutTo at K15
  rw [← hP] at K15 hpl hpy hpn
  obtain ⟨n, hn⟩ : ∃ n, n = xs.length := ⟨_, rfl⟩
  obtain ⟨ZP, hZP⟩ : ∃ ZP, ZP = P.length := ⟨_, rfl⟩
  have KSP := Lib.hid fun (W : World) (a1 a2 : Option Addr) (c1 c2 : Nat) (h1 : Sl W a1 c1 P) (h2 : Sl W a2 c2 P) => same_eq a1 a2 c1 c2 P W h1 h2
  unfold OwnB at K9
  rw [← hn] at K9 K10 K11 K12 K13 KS K15 hm ⊢
  rw [← hZP] at K15 KSP hpl
  have HN := Lib.hid hn
  have HZP := Lib.hid hZP
  have HPY := Lib.hid hpy
  have HPN := Lib.hid hpn
  have HEB := Lib.hid heb
  have hbs := h.bs
  have HBS := Lib.hid hbs
  have e1 : ¬ (2000 : Int) < n := by omega
  clear hT h hnx hca hP hn hZP hpy hpn heb hbs
  cases hv : Lib.validRune r with
  | true =>
    have K17 := Lib.hid (K17.out hv)
    have hPX := HPY.out hv
    rw [hv] at K15 K16
    obtain ⟨E, hE⟩ : ∃ E, E = enc r.toNat := ⟨_, rfl⟩
    have hel := enc_le r.toNat
    have heb := HEB.out hv
    unfold SlTo at K17
    rw [← hE] at K17 hPX hel heb
    obtain ⟨ev, hev⟩ : ∃ ev, ev = E.length := ⟨_, rfl⟩
    rw [← hev] at K17 hel
    have HEV := Lib.hid hev
    have HPX := Lib.hid hPX
    have hzz : ZP = n + ev := by rw [HZP.out, hPX, List.length_append, HN.out, hev]
    have HZZ := Lib.hid hzz
    have HEB2 := Lib.hid heb
    clear hv hPX hE hev hzz heb
    go_enter Tryd.func3, Tryd.ntmps3
    go_wp2_with (first
      | (go_at_call 8; (with_reducible refine KA.out.mono ?_); rintro e w1 ⟨rfl, hb⟩; have HB1 := Lib.hid hb; clear hb)
      | (go_at_call 9; (with_reducible refine (K9.out w1 HB1.out).mono ?_); rintro e w2 ⟨a2, c2, rfl, ho, hb⟩; have HO2 := Lib.hid (own_sl (by rw [← HN.out]; exact ho) HBS.out); have HB2 := Lib.hid (HB1.out.trans (hb.mono HB1.out.size)); clear ho hb)
      | (go_at_call 10; (with_reducible refine (K10.out w2 HB2.out a2 c2 HO2.out).mono ?_); rintro e w3 ⟨rfl, hb⟩; have HB3 := Lib.hid (HB2.out.trans (hb.mono HB2.out.size)); have HO3 := Lib.hid (HO2.out.below hb); clear hb)
      | (go_at_call 11; (with_reducible refine (K11.out w3 HB3.out).mono ?_); rintro e w4 ⟨rfl, hb⟩; have HB4 := Lib.hid (HB3.out.trans (hb.mono HB3.out.size)); have HO4 := Lib.hid (HO3.out.below hb); clear hb)
      | (go_at_call 12; (with_reducible refine (K12.out w4 HB4.out a2 c2 HO4.out).mono ?_); rintro e w5 ⟨rfl, hb⟩; have HB5 := Lib.hid (HB4.out.trans (hb.mono HB4.out.size)); have HO5 := Lib.hid (HO4.out.below hb); clear hb)
      | (go_at_call 13; (with_reducible refine (K13.out w5 HB5.out).mono ?_); rintro e w6 ⟨rfl, hb⟩; have HB6 := Lib.hid (HB5.out.trans (hb.mono HB5.out.size)); have HO6 := Lib.hid (HO5.out.below hb); clear hb)
      | (go_at_call 14; (with_reducible refine (KS.out w6 a2 ao c2 c HO6.out (HS.out.below HB6.out)).mono ?_); rintro e w7 ⟨rfl, q7, rfl⟩; have HB7 := Lib.hid (below_drewN HB6.out q7); have HO7 := Lib.hid (HO6.out.drewN q7))
      | (go_at_call 15; (with_reducible refine (K15.out _ a2 c2 HO7.out).mono ?_); rintro e w8 ⟨a8, c8, rfl, hs, hb, _⟩; have HP8 := Lib.hid hs; have HB8 := Lib.hid (HB7.out.trans (hb.mono HB7.out.size)); clear hb hs)
      | (go_at_call 9; (with_reducible refine (K9.out w8 HB8.out).mono ?_); rintro e w9 ⟨a9, c9, rfl, ho, hb⟩; have HO9 := Lib.hid ho; have HW9 := Lib.hid hb; have HB9 := Lib.hid (HB8.out.trans (hb.mono HB8.out.size)); clear ho hb)
      | (go_at_call 16; (with_reducible refine (K16.out _).mono ?_); rintro e wq ⟨rfl, rfl⟩)
      | (go_at_call 17; (with_reducible refine (K17.out w9).mono ?_); rintro e w10 ⟨a10, c10, rfl, hs, hb⟩; have HE10 := Lib.hid hs.cells; have HO10 := Lib.hid (ownsRow_below HO9.out hb); have HW10 := Lib.hid (HW9.out.trans (hb.mono HW9.out.size)); clear hb hs)
      | (at_builtin; refine wpList_append_x at22 rfl (.tmp 86) (.tmp 88) rfl w8.heap.size (.slice a9 n c9) (.slice a10 ev c10) n ev (u8s xs) (u8s E) rfl rfl HO10.out (by rw [HEV.out]; exact HE10.out) (by rw [u8s_len, Nat.mul_one]; exact HEV.out.symm) (u8s_one E) HW10.out.size (by omega) (by omega) ?_; intro a11 c11 w11 hA; have hbA := hA.below HO10.out HW10.out.size; have HW11 := Lib.hid (HW10.out.trans hbA); have HP11 := Lib.hid (HP8.out.below HW11.out); have HQ11 : Hid (Sl w11 a11 c11 P) := Lib.hid (own_sl (by rw [← HZP.out, HZZ.out]; have h1 := hA.own; rw [u8s_app, ← HPX.out] at h1; exact h1) (by rw [HPX.out]; exact HBS.out.app HEB2.out)); have HB11 := Lib.hid (HB8.out.trans (HW11.out.mono HB8.out.size)); rw [← HZZ.out]; clear hA hbA)
      | (go_at_call 14; (with_reducible refine (KSP.out w11 a8 a11 c8 c11 HP11.out HQ11.out).mono ?_); rintro e w12 ⟨rfl, q12, rfl⟩; have HB12 := Lib.hid (below_drewN HB11.out q12))
      | (go_at_call 18; (with_reducible refine (K18.out _).mono ?_); rintro e w13 ⟨rfl, hb⟩; have HB13 := Lib.hid (HB12.out.trans (hb.mono HB12.out.size)); clear hb)
      | (go_at_call 19; (with_reducible refine (K19.out _).mono ?_); rintro e wq ⟨rfl, rfl⟩)
      | (go_at_call 20; (with_reducible refine (K20.out _).mono ?_); rintro e w14 ⟨rfl, hb⟩; have HB14 := Lib.hid (HB13.out.trans (hb.mono HB13.out.size)); clear hb)
      | (go_at_call 21; (with_reducible refine (K21.out _).mono ?_); rintro e wq ⟨rfl, rfl⟩)
      | (go_at_call 22; (with_reducible refine (K22.out _).mono ?_); rintro e w15 ⟨rfl, hb⟩; have HB15 := Lib.hid (HB14.out.trans (hb.mono HB14.out.size)); clear hb)
      | (go_at_call 23; (with_reducible refine (K23.out _).mono ?_); rintro e w16 ⟨rfl, hb⟩; have HB16 := Lib.hid (HB15.out.trans (hb.mono HB15.out.size)); clear hb)
      | (go_at_call 24; (with_reducible refine (K24.out _).mono ?_); rintro e w17 ⟨rfl, hb⟩; have HB17 := Lib.hid (HB16.out.trans (hb.mono HB16.out.size)); clear hb)
      | (go_at_call 25; (with_reducible refine (K25.out _).mono ?_); rintro e w18 ⟨rfl, hb⟩; have HB18 := Lib.hid (HB17.out.trans (hb.mono HB17.out.size)); clear hb))
    go_ret
    exact ⟨by simp, HB18.out⟩
  | false =>
    have hPX := HPN.out hv
    rw [hv] at K15 K16
    have hzz : ZP = n := by rw [HZP.out, hPX, HN.out]
    rw [hzz] at K15 KSP
    have HPX := Lib.hid hPX
    clear hv hPX hzz
    go_enter Tryd.func3, Tryd.ntmps3
    go_wp2_with (first
      | (go_at_call 8; (with_reducible refine KA.out.mono ?_); rintro e w1 ⟨rfl, hb⟩; have HB1 := Lib.hid hb; clear hb)
      | (go_at_call 9; (with_reducible refine (K9.out w1 HB1.out).mono ?_); rintro e w2 ⟨a2, c2, rfl, ho, hb⟩; have HO2 := Lib.hid (own_sl (by rw [← HN.out]; exact ho) HBS.out); have HB2 := Lib.hid (HB1.out.trans (hb.mono HB1.out.size)); clear ho hb)
      | (go_at_call 10; (with_reducible refine (K10.out w2 HB2.out a2 c2 HO2.out).mono ?_); rintro e w3 ⟨rfl, hb⟩; have HB3 := Lib.hid (HB2.out.trans (hb.mono HB2.out.size)); have HO3 := Lib.hid (HO2.out.below hb); clear hb)
      | (go_at_call 11; (with_reducible refine (K11.out w3 HB3.out).mono ?_); rintro e w4 ⟨rfl, hb⟩; have HB4 := Lib.hid (HB3.out.trans (hb.mono HB3.out.size)); have HO4 := Lib.hid (HO3.out.below hb); clear hb)
      | (go_at_call 12; (with_reducible refine (K12.out w4 HB4.out a2 c2 HO4.out).mono ?_); rintro e w5 ⟨rfl, hb⟩; have HB5 := Lib.hid (HB4.out.trans (hb.mono HB4.out.size)); have HO5 := Lib.hid (HO4.out.below hb); clear hb)
      | (go_at_call 13; (with_reducible refine (K13.out w5 HB5.out).mono ?_); rintro e w6 ⟨rfl, hb⟩; have HB6 := Lib.hid (HB5.out.trans (hb.mono HB5.out.size)); have HO6 := Lib.hid (HO5.out.below hb); clear hb)
      | (go_at_call 14; (with_reducible refine (KS.out w6 a2 ao c2 c HO6.out (HS.out.below HB6.out)).mono ?_); rintro e w7 ⟨rfl, q7, rfl⟩; have HB7 := Lib.hid (below_drewN HB6.out q7); have HO7 := Lib.hid (HO6.out.drewN q7))
      | (go_at_call 15; (with_reducible refine (K15.out _ a2 c2 HO7.out).mono ?_); rintro e w8 ⟨a8, c8, rfl, hs, hb, _⟩; have HP8 := Lib.hid hs; have HB8 := Lib.hid (HB7.out.trans (hb.mono HB7.out.size)); clear hb hs)
      | (go_at_call 9; (with_reducible refine (K9.out w8 HB8.out).mono ?_); rintro e w9 ⟨a9, c9, rfl, ho, hb⟩; have HQ9 : Hid (Sl w9 a9 c9 P) := Lib.hid (by rw [HPX.out]; exact own_sl (by rw [← HN.out]; exact ho) HBS.out); have HP9 := Lib.hid (HP8.out.below hb); have HB11 := Lib.hid (HB8.out.trans (hb.mono HB8.out.size)); clear ho hb)
      | (go_at_call 16; (with_reducible refine (K16.out _).mono ?_); rintro e wq ⟨rfl, rfl⟩)
      | (go_at_call 14; (with_reducible refine (KSP.out w9 a8 a9 c8 c9 HP9.out HQ9.out).mono ?_); rintro e w12 ⟨rfl, q12, rfl⟩; have HB12 := Lib.hid (below_drewN HB11.out q12))
      | (go_at_call 18; (with_reducible refine (K18.out _).mono ?_); rintro e w13 ⟨rfl, hb⟩; have HB13 := Lib.hid (HB12.out.trans (hb.mono HB12.out.size)); clear hb)
      | (go_at_call 19; (with_reducible refine (K19.out _).mono ?_); rintro e wq ⟨rfl, rfl⟩)
      | (go_at_call 20; (with_reducible refine (K20.out _).mono ?_); rintro e w14 ⟨rfl, hb⟩; have HB14 := Lib.hid (HB13.out.trans (hb.mono HB13.out.size)); clear hb)
      | (go_at_call 21; (with_reducible refine (K21.out _).mono ?_); rintro e wq ⟨rfl, rfl⟩)
      | (go_at_call 22; (with_reducible refine (K22.out _).mono ?_); rintro e w15 ⟨rfl, hb⟩; have HB15 := Lib.hid (HB14.out.trans (hb.mono HB14.out.size)); clear hb)
      | (go_at_call 23; (with_reducible refine (K23.out _).mono ?_); rintro e w16 ⟨rfl, hb⟩; have HB16 := Lib.hid (HB15.out.trans (hb.mono HB15.out.size)); clear hb)
      | (go_at_call 24; (with_reducible refine (K24.out _).mono ?_); rintro e w17 ⟨rfl, hb⟩; have HB17 := Lib.hid (HB16.out.trans (hb.mono HB16.out.size)); clear hb)
      | (go_at_call 25; (with_reducible refine (K25.out _).mono ?_); rintro e w18 ⟨rfl, hb⟩; have HB18 := Lib.hid (HB17.out.trans (hb.mono HB17.out.size)); clear hb))
    go_ret
    exact ⟨by simp, HB18.out⟩
theorem signs_long (ao : Option Addr) (c n : Nat) (at_ r : Int) (w : World) (hT : TU w) (hn : 2000 < n) (_hm : n ≤ maxLen) :
    Calls Tryd.prog 3 #[.slice ao n c, .int .i64 at_, .int .i32 r] w fun e w' => e = .returned (.bool true) ∧ Below w.heap.size w w' := by
  have KA := Lib.hid (alive_any w hT)
  have e1 : (2000 : Int) < n := by omega
  clear hT hn
  go_enter Tryd.func3, Tryd.ntmps3
  go_wp2_with (go_at_call 8; (with_reducible refine KA.out.mono ?_); rintro e w1 ⟨rfl, hb⟩)
  go_ret
  exact ⟨rfl, hb⟩
theorem signs_all (ao : Option Addr) (c : Nat) (xs : List Nat) (at_ r : Int) (w : World) (hT : TU w) (h : Sl w ao c xs) (hr : (Lit.int .i32 r).wf = true) :
    Calls Tryd.prog 3 #[.slice ao xs.length c, .int .i64 at_, .int .i32 r] w fun e w' => e = .returned (.bool true) ∧ Below w.heap.size w w' := by
  by_cases h3 : xs.length ≤ 2000
  · exact signs_main ao c xs at_ r w hT h h3 (bounds_i32 hr)
  · exact signs_long ao c xs.length at_ r w hT (by omega) (Nat.le_trans h.le h.big)
end Go.Proofs.YtmnkdnlmpgmdgaaDoor
