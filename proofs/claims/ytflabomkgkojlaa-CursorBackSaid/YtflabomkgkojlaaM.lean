/-
  Read.
-/
import Derived.Test.YtflabomkgkojlaaL
namespace Go.Proofs.Ytflabomkgkojlaa
open Go.RowKit

theorem isN_fld {k : Int} (h : isN k = true) (xs : List Nat) (a n : Nat) : fld k xs a n = ⟨k, num (win xs a n), []⟩ := by simp [fld, h]
theorem notN_fld {k : Int} (h : isN k = false) (xs : List Nat) (a n : Nat) : fld k xs a n = ⟨k, 0, win xs a n⟩ := by simp [fld, h]
theorem szf_isN {k left : Int} {l : List Fd} {back : Nat} (h : isN k = true) : (szf k left l back).1 ≤ 4 := by
  rcases isN_yes h with rfl | rfl <;> simp [szf]

set_option maxHeartbeats 3200000 in
set_option maxRecDepth 100000 in
theorem read_any (ao : Option Addr) (c : Nat) (xs : List Nat) (at0 : Nat) (ka : Option Addr) (kc : Nat) (ks : List Int) (w : World) (h : Sl w ao c xs) (hk : KSrc w ka ks) (hat : at0 ≤ xs.length) (hm : xs.length ≤ 100000000) (hkm : ks.length ≤ 1000) (R : Option (List Fd × Nat)) (hR : run xs (cnt ks) ks at0 [] = R) :
    Calls Try.prog 16 #[.slice ao xs.length c, .int .i64 at0, .slice ka ks.length kc] w (ReadPost R w) := by
  have HS := Lib.hid h
  have HK := Lib.hid hk
  have K0 := Lib.hid (count_any ka kc ks w hk (by omega))
  have hcl := cnt_le ks
  obtain ⟨back, hback⟩ : ∃ b, b = cnt ks := ⟨_, rfl⟩
  rw [← hback] at hR K0 hcl
  have HBK := Lib.hid hback
  have HR := Lib.hid hR
  have hatn : ¬ ((xs.length : Int) < at0) := by omega
  clear h hk hR hback
  go_enter Try.func16, Try.ntmps16
  go_wp2_with (go_at_call 26; (with_reducible refine K0.out.mono ?_); rintro e w' ⟨rfl, rfl⟩)
  go_loopw [1, 10, 29] (fun va vl vi wr => ∃ (i at_ : Nat) (l : List Fe) (lo : Option Addr) (lc : Nat), i ≤ ks.length ∧ vi = .int .i64 i ∧ va = .int .i64 at_ ∧ at_ ≤ xs.length ∧ vl = .slice lo i lc ∧ Hid (l.length = i) ∧ FOwn wr w.heap.size 48 (.slice lo i lc) l ∧ Below w.heap.size w wr ∧ Hid (run xs back (ks.drop i) at_ (l.map (·.f)) = R)) (fun _ _ vi _ => ks.length - (intOf vi).toNat)
  case atStart => exact ⟨0, at0, [], none, 0, Nat.zero_le _, rfl, rfl, hat, rfl, rfl, FOwn.nil _ _ _, Below.refl _ _, HR⟩
  case round =>
    obtain ⟨i, at_, l, lo, lc, hi, rfl, rfl, hat_, rfl, hlen, hown, hbel, hrun⟩ := hrel
    have HO := Lib.hid hown
    have HB := Lib.hid hbel
    clear hown hbel
    by_cases hlt : i < ks.length
    · have hii : (i : Int) < ks.length := by omega
      have HKr := Lib.hid (HK.out.below HB.out)
      rcases HKr.out with h0 | ⟨kb, ko, hka, hkc⟩
      · rw [h0] at hlt; simp at hlt
      subst hka
      have hkcell := hkc i hlt
      have HSr := Lib.hid (HS.out.below HB.out)
      have hFs : Fs wr lo l := by
        have := HO.out
        rw [← hlen.out] at this
        exact this.fs
      have HF := Lib.hid hFs
      have HRD := Lib.hid (run_drop (xs := xs) (back := back) (at_ := at_) (l := l.map (·.f)) hlt)
      have hb2 : ks.getD i 0 = 2 → 1 ≤ back := fun h2 => by
        rw [HBK.out]
        have hmem : ks.getD i 0 ∈ ks.filter fun k => k == 2 := by
          rw [List.mem_filter]
          exact ⟨by rw [List.getD, List.getElem?_eq_getElem hlt]; exact List.getElem_mem _, by show (ks.getD i 0 == 2) = true; rw [h2]; rfl⟩
        exact List.length_pos_of_mem hmem
      obtain ⟨k, hk⟩ : ∃ k, k = ks.getD i 0 := ⟨_, rfl⟩
      rw [← hk] at hkcell hb2 HRD
      clear hk hkc hFs
      have hnn := szf_nonneg k ((xs.length : Int) - at_) (l.map (·.f)) back (by omega)
      obtain ⟨z, ok, hz⟩ : ∃ z ok, szf k ((xs.length : Int) - at_) (l.map (·.f)) back = (z, ok) := ⟨_, _, rfl⟩
      rw [hz] at hnn
      obtain ⟨n, hn⟩ := Int.eq_ofNat_of_zero_le hnn
      simp only at hn
      subst hn
      have K1 := Lib.hid (size_any l k ((xs.length : Int) - at_) lo lc back hb2 wr HF.out (by have := hlen.out; omega) (n : Int) ok hz)
      rw [hlen.out] at K1
      have hstp : stp xs back k at_ (l.map (·.f)) = if ok = true ∧ at_ + n ≤ xs.length then some (fld k xs at_ n, at_ + n) else none := by
        unfold stp
        rw [hz]
        simp
      have hisN : isN k = true → n ≤ 4 := fun h => by
        have := szf_isN (left := (xs.length : Int) - at_) (l := l.map (·.f)) (back := back) h
        rw [hz] at this
        simp at this
        omega
      rw [hstp] at HRD
      clear hz hstp hb2 hnn
      have hd : Hid (∀ W, Below wr.heap.size wr W → Below w.heap.size w W) := Lib.hid fun W hW => HB.out.trans (hW.mono HB.out.size)
      by_cases hfit : at_ + n ≤ xs.length
      · have K2 := Lib.hid fun (W : World) => within_ok ao xs.length c at_ n W HS.out.le HS.out.big hfit
        have hwl := win_len hfit
        cases ok with
        | false =>
          have hres : R = none := by rw [← hrun.out, HRD.out]; simp
          subst hres
          clear hrun HRD hisN
          obtain ⟨A, hA⟩ : ∃ A, A = cutA ao c at_ := ⟨_, rfl⟩
          rw [← hA] at K2
          clear hA
          go_wp2_with (first
            | (go_at_call 27; (with_reducible refine K1.out.mono ?_); rintro e w1 ⟨rfl, hb1⟩; have HB1 := Lib.hid (hd.out w1 hb1); clear hb1)
            | (go_at_call 20; (with_reducible refine (K2.out _).mono ?_); rintro e w' ⟨rfl, rfl⟩))
          all_goals
            refine bodyPost_ret (v := .tuple #[.slice none 0 0, .int .i64 0, .bool false]) (by simp [results, Try.results16, go_sem]) rfl ⟨rfl, HB1.out⟩
        | true =>
          have HRN : Hid (run xs back (ks.drop (i + 1)) (at_ + n) (l.map (·.f) ++ [fld k xs at_ n]) = R) := Lib.hid (by
            rw [← hrun.out, HRD.out]; simp [hfit])
          have hcut := hwl
          obtain ⟨ys, hys⟩ : ∃ ys, ys = win xs at_ n := ⟨_, rfl⟩
          have hyl : ys.length = n := by rw [hys]; exact hwl
          have HC : Hid (∀ W, Below wr.heap.size wr W → Sl W (cutA ao c at_) (c - at_) ys) := Lib.hid fun W hW => by
            rw [hys]; exact ((HSr.out.below hW).cut' at_ n hfit)
          obtain ⟨A, hA⟩ : ∃ A, A = cutA ao c at_ := ⟨_, rfl⟩
          rw [← hA] at K2 HC
          have HO1 : Hid (∀ W, Below wr.heap.size wr W → W.ownsRow w.heap.size 48 3 (.slice lo i lc) i (fcells l)) := Lib.hid fun W hW => by
            have := (HO.out.below hW).own
            rw [hlen.out] at this
            exact this
          clear hA hrun HRD hcut hwl
          by_cases hkn : isN k = true
          · have hn4 := hisN hkn
            rw [isN_fld hkn, ← hys] at HRN
            have K3 := fun (W : World) (hW : Below wr.heap.size wr W) => made_num k hkn A (c - at_) ys W (HC.out W hW) (by omega)
            rw [hyl] at K3
            obtain ⟨z, hz⟩ : ∃ z, z = num ys := ⟨_, rfl⟩
            rw [← hz] at K3 HRN
            have K3 := Lib.hid K3
            clear hz hys hyl hisN hkn
            go_wp2_with (first
              | (go_at_call 27; (with_reducible refine K1.out.mono ?_); rintro e w1 ⟨rfl, hb1⟩; have HB1 := Lib.hid hb1; clear hb1)
              | (go_at_call 20; (with_reducible refine (K2.out _).mono ?_); rintro e w' ⟨rfl, rfl⟩)
              | (go_at_call 28; (with_reducible refine (K3.out _ HB1.out).mono ?_); rintro e w3 ⟨rfl, hb3⟩; have HB3 := Lib.hid (HB1.out.trans (hb3.mono HB1.out.size)); clear hb3)
              | (at_builtin; refine wpList_append_x at37 rfl (.tmp 57) (.tmp 61) rfl w.heap.size (.slice lo i lc) _ i 1 (fcells l) (Fe.cells ⟨⟨k, z, []⟩, none, 0⟩) rfl rfl (ownsRow_below (HO1.out _ HB3.out) ((Below.refl _ _).alloc (Nat.le_refl _) _)) (cells_fe _ 48 ⟨⟨k, z, []⟩, none, 0⟩) rfl (fe_one _) (by have := HB.out.size; have := HB3.out.size; simp; omega) (by omega) (by omega) ?c2))
            case c2 =>
            intro ao5 c5 w5 hA5
            have hA6 := hA5.alloc
            have hO5 : FOwn w5 w.heap.size 48 (.slice ao5 (i + 1) c5) (l ++ [⟨⟨k, z, []⟩, none, 0⟩]) := (HO.out.below HB3.out).app (Sl.none_ _) (fun hne => absurd rfl hne) (by rw [hlen.out]; exact hA6)
            have HO5 := Lib.hid hO5
            have HB5 := Lib.hid ((hd.out _ HB3.out).trans (hA6.below (HO1.out _ HB3.out) (by have := HB.out.size; have := HB3.out.size; omega)))
            clear hA5 hA6 hO5
            go_wp2
            go_roundw
            case rel => exact ⟨i + 1, at_ + n, l ++ [⟨⟨k, z, []⟩, none, 0⟩], ao5, c5, by omega, by go_num, by go_num, hfit, rfl, Lib.hid (by rw [List.length_append, hlen.out]; rfl), HO5.out, HB5.out, Lib.hid (by rw [List.map_append]; exact HRN.out)⟩
            case measure => simp [intOf]; omega
          · have hkn' : isN k = false := by simpa using hkn
            rw [notN_fld hkn', ← hys] at HRN
            have K3 := fun (W : World) (hW : Below wr.heap.size wr W) => made_bytes k hkn' A (c - at_) ys W (HC.out W hW) (by omega)
            rw [hyl] at K3
            have K3 := Lib.hid K3
            clear hys hyl hisN hkn hkn'
            go_wp2_with (first
              | (go_at_call 27; (with_reducible refine K1.out.mono ?_); rintro e w1 ⟨rfl, hb1⟩; have HB1 := Lib.hid hb1; clear hb1)
              | (go_at_call 20; (with_reducible refine (K2.out _).mono ?_); rintro e w' ⟨rfl, rfl⟩)
              | (go_at_call 28; (with_reducible refine (K3.out _ HB1.out).mono ?_); rintro e w3 ⟨ao3, c3, rfl, hF3, hb3⟩; have HF3 := Lib.hid hF3; have HB3 := Lib.hid (HB1.out.trans (hb3.mono HB1.out.size)); clear hb3 hF3)
              | (at_builtin; refine wpList_append_x at37 rfl (.tmp 57) (.tmp 61) rfl w.heap.size (.slice lo i lc) _ i 1 (fcells l) (Fe.cells ⟨⟨k, 0, ys⟩, ao3, c3⟩) rfl rfl (ownsRow_below (HO1.out _ HB3.out) ((Below.refl _ _).alloc (Nat.le_refl _) _)) (cells_fe _ 48 ⟨⟨k, 0, ys⟩, ao3, c3⟩) rfl (fe_one _) (by have := HB.out.size; have := HB3.out.size; simp; omega) (by omega) (by omega) ?c2))
            case c2 =>
            intro ao5 c5 w5 hA5
            have hA6 := hA5.alloc
            have hO5 : FOwn w5 w.heap.size 48 (.slice ao5 (i + 1) c5) (l ++ [⟨⟨k, 0, ys⟩, ao3, c3⟩]) := (HO.out.below HB3.out).app HF3.out.1 (fun _ ad had hc => by
              have h1 := HF3.out.2 ad had
              have h2 := (HO1.out _ (Below.refl _ _)).lt _ hc
              have h3 := HB1.out.size
              omega) (by rw [hlen.out]; exact hA6)
            have HO5 := Lib.hid hO5
            have HB5 := Lib.hid ((hd.out _ HB3.out).trans (hA6.below (HO1.out _ HB3.out) (by have := HB.out.size; have := HB3.out.size; omega)))
            clear hA5 hA6 hO5
            go_wp2
            go_roundw
            case rel => exact ⟨i + 1, at_ + n, l ++ [⟨⟨k, 0, ys⟩, ao3, c3⟩], ao5, c5, by omega, by go_num, by go_num, hfit, rfl, Lib.hid (by rw [List.length_append, hlen.out]; rfl), HO5.out, HB5.out, Lib.hid (by rw [List.map_append]; exact HRN.out)⟩
            case measure => simp [intOf]; omega
      · have hres : R = none := by rw [← hrun.out, HRD.out]; simp [hfit]
        subst hres
        have K2 := Lib.hid fun (W : World) => within_no ao xs.length c at_ n W (by have := HS.out.le; have := HS.out.big; omega) (by omega)
        clear hrun HRD hisN
        go_wp2_with (first
          | (go_at_call 27; (with_reducible refine K1.out.mono ?_); rintro e w1 ⟨rfl, hb1⟩; have HB1 := Lib.hid (hd.out w1 hb1); clear hb1)
          | (go_at_call 20; (with_reducible refine (K2.out _).mono ?_); rintro e w' ⟨rfl, rfl⟩))
        all_goals
          refine bodyPost_ret (v := .tuple #[.slice none 0 0, .int .i64 0, .bool false]) (by simp [results, Try.results16, go_sem]) rfl ⟨rfl, HB1.out⟩
    · have hil : i = ks.length := by omega
      have hres : R = some (l.map (·.f), at_) := by rw [← hrun.out, run_done (by omega)]
      subst hres
      have HP : Hid (ReadPost (some (l.map (·.f), at_)) w (.returned (.tuple #[.slice lo i lc, .int .i64 at_, .bool true])) wr) := Lib.hid (by
        have := HO.out
        rw [← hlen.out] at this ⊢
        exact ⟨lo, lc, l, rfl, rfl, this.fs, HB.out⟩)
      clear hrun
      go_wp2
      refine bodyPost_ret (v := .tuple #[.slice lo i lc, .int .i64 at_, .bool true]) (by simp [results, Try.results16, go_sem]) rfl HP.out
end Go.Proofs.Ytflabomkgkojlaa
