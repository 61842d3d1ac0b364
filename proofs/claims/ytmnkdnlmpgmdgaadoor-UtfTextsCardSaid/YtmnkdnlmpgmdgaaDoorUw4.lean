/-
  The document's own Name.
-/
import Derived.Test.YtmnkdnlmpgmdgaaDoorUw3
namespace Go.Proofs.YtmnkdnlmpgmdgaaDoor
open Go.RowKit U
set_option maxRecDepth 100000

theorem alA_none (p : Nat → Bool) (xs : List Nat) : (alA p xs).2 = (al p xs 0).isNone := by
  unfold alA; cases al p xs 0 <;> rfl
theorem al_shift (p : Nat → Bool) : ∀ (n : Nat) (L : List Nat), L.length ≤ n → ∀ j k, (al p L j).isNone = (al p L k).isNone := by
  intro n
  induction n with
  | zero =>
    intro L h j k
    have e : L = [] := List.eq_nil_of_length_eq_zero (by omega)
    subst e; rfl
  | succ n ih =>
    intro L h j k
    by_cases hne : L = []
    · subst hne; rfl
    rw [al_step p hne, al_step p hne]
    by_cases c : (nx L).2 = 0 ∨ p (nx L).1 = false
    · rw [if_pos c, if_pos c]; rfl
    · rw [if_neg c, if_neg c]
      have hl := List.length_pos_iff.2 hne
      exact ih _ (by rw [List.length_drop]; omega) _ _
theorem nameP_step {xs : List Nat} (h1 : (nx xs).2 ≠ 0) (h2 : begP (nx xs).1 = true) : nameP xs = (al goP (xs.drop (nx xs).2) (nx xs).2).isNone := by
  unfold nameP
  rw [if_neg (fun h => by rcases h with h | h; · exact h1 h
                          rw [h2] at h; cases h), alA_none]
  exact al_shift goP _ _ (Nat.le_refl _) _ _
theorem beg_go {v : Nat} (h : begP v = true) : goP v = true := by
  unfold goP goesP
  rw [show wth beginsL (v : Int) = true from h]
  rfl

set_option maxHeartbeats 6400000 in
theorem rName_any (s : ByteArray) (w : World) (hl : s.size ≤ 1000000) :
    Calls Tryd.prog 27 #[.string s] w fun e w' => e = .returned (.bool (nameP (bts s))) ∧ Below w.heap.size w w' := by
  obtain ⟨NEW, CAP, hcvt, hnb, hns⟩ := text_run s hl
  have hc0 := hcvt w
  have hb0 := hnb w
  have hs0 := hns w
  have hbl := bts_len s
  have he0 : s.toList.isEmpty = decide ((bts s).length = 0) := by
    rw [ByteArray.toList_eq, bts, List.length_map]
    cases s.data.toList <;> simp
  obtain ⟨W0, hW0⟩ : ∃ W0, W0 = NEW w := ⟨_, rfl⟩
  obtain ⟨C0, hC0⟩ : ∃ C0, C0 = CAP w := ⟨_, rfl⟩
  obtain ⟨xs, hxs⟩ : ∃ xs, xs = bts s := ⟨_, rfl⟩
  obtain ⟨Z, hZ⟩ : ∃ Z, Z = s.size := ⟨_, rfl⟩
  rw [← hW0, ← hC0, ← hZ] at hc0
  rw [← hW0] at hb0
  rw [← hW0, ← hC0, ← hxs] at hs0
  rw [← hxs, ← hZ] at hbl
  rw [← hxs] at he0 ⊢
  rw [← hZ] at hl
  subst hbl
  have HB0 := Lib.hid hb0
  have HBS := Lib.hid hs0.bs
  have HE0 := Lib.hid he0
  have HK := Lib.hid fun (W : World) (hW : Below W0.heap.size W0 W) (k : Nat) => rNext_any _ _ xs k W (hs0.below hW) (by omega)
  obtain ⟨R, hR⟩ : ∃ R, R = nameP xs := ⟨_, rfl⟩
  have HR := Lib.hid hR
  rw [← hR]
  clear hb0 hs0 hcvt hnb hns hW0 hC0 hxs hZ hR he0
  go_enter Tryd.func27, Tryd.ntmps27
  go_wp2
  go_loopw [4] (fun vi wr => ∃ k : Nat, k ≤ xs.length ∧ vi = .int .i64 k ∧ Below W0.heap.size W0 wr ∧ Hid (k = 0 ∨ R = (al goP (xs.drop k) k).isNone)) (fun vi _ => xs.length - (intOf vi).toNat)
  case atStart => exact ⟨0, Nat.zero_le _, rfl, Below.refl _ _, Lib.hid (.inl rfl)⟩
  case round =>
    obtain ⟨k, hk, rfl, hbw, hrel⟩ := hrel
    have HB := Lib.hid hbw
    clear hbw
    by_cases hlt : k < xs.length
    · have hkk : (k : Int) < xs.length := by omega
      have hne : xs.drop k ≠ [] := by intro e; have := congrArg List.length e; rw [List.length_drop, List.length_nil] at this; omega
      have hst := al_step goP hne k
      have hn4 := nx_le4 (xs.drop k) (HBS.out.drop k)
      rw [List.length_drop] at hn4
      have K := HK.out wr HB.out k
      rw [nxF_nat] at K
      obtain ⟨v, n, hvn⟩ : ∃ v n, nx (xs.drop k) = (v, n) := ⟨_, _, rfl⟩
      have HVN := Lib.hid hvn
      rw [hvn] at hn4 hst K
      simp only at hn4 hst K
      have K := Lib.hid K
      have HN4 := Lib.hid hn4
      have HST := Lib.hid hst
      clear hne hvn hn4 hst
      by_cases c1 : n = 0
      · subst c1
        have HR2 : Hid (R = false) := Lib.hid (by
          rcases hrel.out with h0 | h0
          · have := HVN.out
            rw [h0, List.drop_zero] at this
            rw [HR.out, nameP, this, if_pos (.inl rfl)]
          · rw [h0, HST.out, if_pos (.inl rfl)]; rfl)
        clear hrel
        go_wp2_with (go_at_call 11; (with_reducible refine K.out.mono ?_); rintro e w1 ⟨rfl, hb1⟩; have HB1 := Lib.hid (HB0.out.trans ((HB.out.trans (hb1.mono HB.out.size)).mono HB0.out.size)); clear hb1)
        go_ret
        exact ⟨by rw [HR2.out]; rfl, HB1.out⟩
      have c1' : ¬ (n : Int) = 0 := by omega
      have hpos : 0 < n := by omega
      have hw := HN4.out
      have hsum : IntKind.i64.wrap ((k : Int) + n) = ((k + n : Nat) : Int) := by rw [IntKind.wrap_i64]; omega
      obtain ⟨t, ht⟩ : ∃ t, t = k + n := ⟨_, rfl⟩
      have htm : t ≤ xs.length := by omega
      have htk : k < t := by omega
      rw [← ht] at hsum
      have HT := Lib.hid ht
      have KB := Lib.hid fun W => rBegins_any (v : Int) W
      have KG := Lib.hid fun W => rGoes_any (v : Int) W
      obtain ⟨z, hz⟩ : ∃ z, z = begP v := ⟨_, rfl⟩
      rw [show wth beginsL (v : Int) = z from hz.symm] at KB
      obtain ⟨y, hy⟩ : ∃ y, y = goP v := ⟨_, rfl⟩
      rw [show goesP (v : Int) = y from hy.symm] at KG
      have HZ := Lib.hid hz
      have HY := Lib.hid hy
      clear ht hw hz hy hpos
      by_cases ck : k = 0
      · subst ck
        have K := Lib.hid (show Calls Tryd.prog 11 #[.slice _ xs.length C0, .int .i64 0] wr _ from K.out)
        have hx : nx xs = (v, n) := by have := HVN.out; rwa [List.drop_zero] at this
        cases z with
        | false =>
          have HR2 : Hid (R = false) := Lib.hid (by rw [HR.out, nameP, hx, if_pos (.inr HZ.out.symm)])
          clear c1 hx
          go_wp2_with (first
            | (go_at_call 11; (with_reducible refine K.out.mono ?_); rintro e w1 ⟨rfl, hb1⟩; have HB1 := Lib.hid (HB.out.trans (hb1.mono HB.out.size)); clear hb1)
            | (go_at_call 23; (with_reducible refine (KB.out w1).mono ?_); rintro e w2 ⟨rfl, hb2⟩; have HB2 := Lib.hid (HB1.out.trans (hb2.mono HB1.out.size)); clear hb2))
          go_ret
          exact ⟨by rw [HR2.out]; rfl, HB0.out.trans (HB2.out.mono HB0.out.size)⟩
        | true =>
          have hyt : y = true := by rw [HY.out]; exact beg_go HZ.out.symm
          subst hyt
          have HR2 : Hid (R = (al goP (xs.drop t) t).isNone) := Lib.hid (by
            have := nameP_step (xs := xs) (by rw [hx]; exact c1) (by rw [hx]; exact HZ.out.symm)
            rw [hx] at this
            rw [HR.out, this, HT.out, Nat.zero_add])
          clear c1 hx
          go_wp2_with (first
            | (go_at_call 11; (with_reducible refine K.out.mono ?_); rintro e w1 ⟨rfl, hb1⟩; have HB1 := Lib.hid (HB.out.trans (hb1.mono HB.out.size)); clear hb1)
            | (go_at_call 23; (with_reducible refine (KB.out w1).mono ?_); rintro e w2 ⟨rfl, hb2⟩; have HB2 := Lib.hid (HB1.out.trans (hb2.mono HB1.out.size)); clear hb2)
            | (go_at_call 25; (with_reducible refine (KG.out w2).mono ?_); rintro e w3 ⟨rfl, hb3⟩; have HB3 := Lib.hid (HB2.out.trans (hb3.mono HB2.out.size)); clear hb3))
          have hn4 := HN4.out.1
          have hs0 : wrap64 (n : Int) = (t : Int) := by rw [HT.out, Nat.zero_add]; exact wrap_small (by omega) (by omega)
          refine ⟨⟨t, htm, congrArg _ hs0, HB3.out, Lib.hid (.inr HR2.out)⟩, ?_⟩
          rw [hs0]
          simp [intOf]; omega
      · have ck' : ¬ (k : Int) = 0 := by omega
        have hrr : R = (al goP (xs.drop k) k).isNone := by rcases hrel.out with h0 | h0; · exact absurd h0 ck
                                                           exact h0
        cases y with
        | false =>
          have HR2 : Hid (R = false) := Lib.hid (by rw [hrr, HST.out, if_pos (.inr HY.out.symm)]; rfl)
          clear c1 hrr ck
          go_wp2_with (first
            | (go_at_call 11; (with_reducible refine K.out.mono ?_); rintro e w1 ⟨rfl, hb1⟩; have HB1 := Lib.hid (HB.out.trans (hb1.mono HB.out.size)); clear hb1)
            | (go_at_call 25; (with_reducible refine (KG.out w1).mono ?_); rintro e w3 ⟨rfl, hb3⟩; have HB3 := Lib.hid (HB1.out.trans (hb3.mono HB1.out.size)); clear hb3))
          go_ret
          exact ⟨by rw [HR2.out]; rfl, HB0.out.trans (HB3.out.mono HB0.out.size)⟩
        | true =>
          have HR2 : Hid (R = (al goP (xs.drop t) t).isNone) := Lib.hid (by
            rw [hrr, HST.out, if_neg (fun h => by rcases h with h | h; · exact c1 h
                                                  rw [← HY.out] at h; cases h), List.drop_drop, HT.out])
          clear c1 hrr ck
          go_wp2_with (first
            | (go_at_call 11; (with_reducible refine K.out.mono ?_); rintro e w1 ⟨rfl, hb1⟩; have HB1 := Lib.hid (HB.out.trans (hb1.mono HB.out.size)); clear hb1)
            | (go_at_call 25; (with_reducible refine (KG.out w1).mono ?_); rintro e w3 ⟨rfl, hb3⟩; have HB3 := Lib.hid (HB1.out.trans (hb3.mono HB1.out.size)); clear hb3))
          refine ⟨⟨t, htm, rfl, HB3.out, Lib.hid (.inr HR2.out)⟩, ?_⟩
          simp [intOf]; omega
    · obtain rfl : k = xs.length := by omega
      by_cases cz : xs.length = 0
      · have HR2 : Hid (R = false) := Lib.hid (by rw [HR.out, List.eq_nil_of_length_eq_zero cz]; rfl)
        have e0 : s.toList.isEmpty = true := by rw [HE0.out]; exact decide_eq_true cz
        clear hrel
        go_wp2
        go_ret
        exact ⟨by rw [HR2.out]; rfl, HB0.out.trans (HB.out.mono HB0.out.size)⟩
      · have HR2 : Hid (R = true) := Lib.hid (by
          rcases hrel.out with h0 | h0
          · exact absurd h0 cz
          · rw [h0, List.drop_length]; rfl)
        have e0 : s.toList.isEmpty = false := by rw [HE0.out]; exact decide_eq_false cz
        clear hrel cz
        go_wp2
        go_ret
        exact ⟨by rw [HR2.out]; rfl, HB0.out.trans (HB.out.mono HB0.out.size)⟩
end Go.Proofs.YtmnkdnlmpgmdgaaDoor
