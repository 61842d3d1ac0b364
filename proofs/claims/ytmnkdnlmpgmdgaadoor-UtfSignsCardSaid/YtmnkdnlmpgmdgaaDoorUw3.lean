/-
  The document's own Check, Name, Lines; bytes copied.
-/
import Derived.Test.YtmnkdnlmpgmdgaaDoorUw2
import Derived.Test.YtmnkdnlmpgmdgaaDoorUo
namespace Go.Proofs.YtmnkdnlmpgmdgaaDoor
open Go.RowKit U
set_option maxRecDepth 100000

set_option maxHeartbeats 3200000 in
theorem rCheck_any (ao : Option Addr) (c : Nat) (xs : List Nat) (w : World) (h : Sl w ao c xs) (hm : xs.length ≤ 1000000000) :
    Calls Tryd.prog 13 #[.slice ao xs.length c] w fun e w' => e = .returned (.tuple #[.int .i64 ((alA charP xs).1 : Nat), .bool (alA charP xs).2]) ∧ Below w.heap.size w w' := by
  have HK := Lib.hid fun (W : World) (hW : Below w.heap.size w W) (k : Nat) => rNext_any ao c xs k W (h.below hW) hm
  have hb := Lib.hid h.bs
  clear h
  obtain ⟨A, hA⟩ : ∃ A, A = al charP xs 0 := ⟨_, rfl⟩
  have HR : Hid (alA charP xs = alR A) := Lib.hid (by rw [hA]; rfl)
  obtain ⟨R, hR⟩ : ∃ R, R = alA charP xs := ⟨_, rfl⟩
  rw [← hR] at HR ⊢
  have HA := Lib.hid hA
  clear hA hR
  go_enter Tryd.func13, Tryd.ntmps13
  go_wp2
  go_loopw [4] (fun vi wr => ∃ k : Nat, k ≤ xs.length ∧ vi = .int .i64 k ∧ Below w.heap.size w wr ∧ Hid (A = al charP (xs.drop k) k)) (fun vi _ => xs.length - (intOf vi).toNat)
  case atStart => exact ⟨0, Nat.zero_le _, rfl, Below.refl _ _, Lib.hid (by rw [HA.out]; rfl)⟩
  case round =>
    obtain ⟨k, hk, rfl, hbw, hrel⟩ := hrel
    have HB := Lib.hid hbw
    clear hbw
    by_cases hlt : k < xs.length
    · have hkk : (k : Int) < xs.length := by omega
      have hne : xs.drop k ≠ [] := by intro e; have := congrArg List.length e; rw [List.length_drop, List.length_nil] at this; omega
      have hst := Lib.hid (hrel.out.trans (al_step charP hne k))
      have hn4 := nx_le4 (xs.drop k) (hb.out.drop k)
      rw [List.length_drop] at hn4
      have K := HK.out wr HB.out k
      rw [nxF_nat] at K
      obtain ⟨v, n, hvn⟩ : ∃ v n, nx (xs.drop k) = (v, n) := ⟨_, _, rfl⟩
      rw [hvn] at hn4 hst K
      simp only at hn4 hst K
      have K := Lib.hid K
      have HN4 := Lib.hid hn4
      clear hne hvn hrel hn4
      by_cases c1 : n = 0
      · subst c1
        have HR2 : Hid (R = (k, false)) := Lib.hid (by rw [HR.out, hst.out, if_pos (.inl rfl)]; rfl)
        go_wp2_with (go_at_call 11; (with_reducible refine K.out.mono ?_); rintro e w1 ⟨rfl, hb1⟩; have HB1 := Lib.hid (HB.out.trans (hb1.mono HB.out.size)); clear hb1)
        go_ret2
        exact ⟨by rw [HR2.out]; rfl, HB1.out⟩
      · have c1' : ¬ (n : Int) = 0 := by omega
        obtain ⟨z, hz⟩ : ∃ z, z = charP v := ⟨_, rfl⟩
        have HG := Lib.hid fun W => rChar_any (v : Int) W
        rw [show wth charL (v : Int) = z from hz.symm] at HG
        rw [← hz] at hst
        clear hz
        cases z with
        | false =>
          have HR2 : Hid (R = (k, false)) := Lib.hid (by rw [HR.out, hst.out, if_pos (.inr rfl)]; rfl)
          clear c1
          go_wp2_with (first
            | (go_at_call 11; (with_reducible refine K.out.mono ?_); rintro e w1 ⟨rfl, hb1⟩; have HB1 := Lib.hid (HB.out.trans (hb1.mono HB.out.size)); clear hb1)
            | (go_at_call 19; (with_reducible refine (HG.out _).mono ?_); rintro e w2 ⟨rfl, rfl⟩))
          go_ret2
          exact ⟨by rw [HR2.out]; rfl, HB1.out⟩
        | true =>
          have HR2 : Hid (A = al charP (xs.drop (k + n)) (k + n)) := Lib.hid (by rw [hst.out, if_neg (by simp [c1]), List.drop_drop])
          have hpos : 0 < n := by omega
          clear c1
          have hw := HN4.out
          have hsum : IntKind.i64.wrap ((k : Int) + n) = ((k + n : Nat) : Int) := by rw [IntKind.wrap_i64]; omega
          obtain ⟨s, hs⟩ : ∃ s, s = k + n := ⟨_, rfl⟩
          have hsm : s ≤ xs.length := by omega
          have hsk : k < s := by omega
          rw [← hs] at hsum HR2
          clear hs hw hpos
          go_wp2_with (first
            | (go_at_call 11; (with_reducible refine K.out.mono ?_); rintro e w1 ⟨rfl, hb1⟩; have HB1 := Lib.hid (HB.out.trans (hb1.mono HB.out.size)); clear hb1)
            | (go_at_call 19; (with_reducible refine (HG.out _).mono ?_); rintro e w2 ⟨rfl, rfl⟩))
          refine ⟨⟨s, hsm, rfl, HB1.out, HR2⟩, ?_⟩
          simp [intOf]; omega
    · obtain rfl : k = xs.length := by omega
      have HR2 : Hid (R = (0, true)) := Lib.hid (by rw [HR.out, hrel.out, List.drop_length]; rfl)
      go_wp2
      go_ret2
      exact ⟨by rw [HR2.out]; rfl, HB.out⟩
end Go.Proofs.YtmnkdnlmpgmdgaaDoor
