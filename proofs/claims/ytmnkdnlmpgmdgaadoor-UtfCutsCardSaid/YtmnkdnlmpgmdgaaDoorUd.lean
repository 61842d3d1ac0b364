/-
  Signs one behind the other: allAre, Check, Name.
-/
import Derived.Test.YtmnkdnlmpgmdgaaDoorUb
import Derived.Test.YtmnkdnlmpgmdgaaDoorUc
namespace Go.Proofs.YtmnkdnlmpgmdgaaDoor
open Go.RowKit U
set_option maxRecDepth 100000

def charP (v : Nat) : Bool := wth charL v
def goP (v : Nat) : Bool := goesP v
def begP (v : Nat) : Bool := wth beginsL v
/-- The first place at which no sign stands that is as it must be. -/
def alF (p : Nat → Bool) : Nat → List Nat → Nat → Option Nat
  | 0, _, _ => none
  | f + 1, L, k => if L = [] then none else if (nx L).2 = 0 ∨ p (nx L).1 = false then some k else alF p f (L.drop (nx L).2) (k + (nx L).2)
def al (p : Nat → Bool) (L : List Nat) (k : Nat) : Option Nat := alF p L.length L k
theorem alF_fuel (p : Nat → Bool) : ∀ (f g : Nat) (L : List Nat) (k : Nat), L.length ≤ f → L.length ≤ g → alF p f L k = alF p g L k
  | 0, 0, _, _, _, _ => rfl
  | 0, g + 1, L, k, h, _ => by
    have : L = [] := List.eq_nil_of_length_eq_zero (by omega)
    subst this; rfl
  | f + 1, 0, L, k, _, h => by
    have : L = [] := List.eq_nil_of_length_eq_zero (by omega)
    subst this; rfl
  | f + 1, g + 1, L, k, h, h' => by
    unfold alF
    by_cases c : L = []
    · rw [if_pos c, if_pos c]
    rw [if_neg c, if_neg c]
    by_cases d : (nx L).2 = 0 ∨ p (nx L).1 = false
    · rw [if_pos d, if_pos d]
    rw [if_neg d, if_neg d]
    exact alF_fuel p f g _ _ (by rw [List.length_drop]; omega) (by rw [List.length_drop]; omega)
theorem al_nil (p : Nat → Bool) (k : Nat) : al p [] k = none := rfl
theorem al_step (p : Nat → Bool) {L : List Nat} (h : L ≠ []) (k : Nat) : al p L k = if (nx L).2 = 0 ∨ p (nx L).1 = false then some k else al p (L.drop (nx L).2) (k + (nx L).2) := by
  have hl := List.length_pos_iff.2 h
  unfold al
  obtain ⟨m, hm⟩ : ∃ m, L.length = m + 1 := ⟨L.length - 1, by omega⟩
  rw [hm, alF, if_neg h]
  by_cases d : (nx L).2 = 0 ∨ p (nx L).1 = false
  · rw [if_pos d, if_pos d]
  rw [if_neg d, if_neg d]
  exact alF_fuel p m _ _ _ (by rw [List.length_drop]; omega) (Nat.le_refl _)
/-- What allAre answers. -/
def alR : Option Nat → Nat × Bool
  | none => (0, true)
  | some k => (k, false)
def alA (p : Nat → Bool) (xs : List Nat) : Nat × Bool := alR (al p xs 0)

set_option maxHeartbeats 3200000 in
theorem allAre_Char (ao : Option Addr) (c : Nat) (xs : List Nat) (w : World) (h : Sl w ao c xs) (hm : xs.length ≤ 1000000000) (hT : TU w) :
    Calls Tryd.prog 32 #[.slice ao xs.length c, .func (.func 18) #[] #[]] w fun e w' => e = .returned (.tuple #[.int .i64 ((alA charP xs).1 : Nat), .bool (alA charP xs).2]) ∧ Below w.heap.size w w' := by
  have HK := Lib.hid fun (W : World) (hW : Below w.heap.size w W) (k : Nat) => Next_any ao c xs k W (h.below hW) (hT.grow hW)
  have hb := Lib.hid h.bs
  clear h hT
  obtain ⟨A, hA⟩ : ∃ A, A = al charP xs 0 := ⟨_, rfl⟩
  have HR : Hid (alA charP xs = alR A) := Lib.hid (by rw [hA]; rfl)
  obtain ⟨R, hR⟩ : ∃ R, R = alA charP xs := ⟨_, rfl⟩
  rw [← hR] at HR ⊢
  have HA := Lib.hid hA
  clear hA hR
  go_enter Tryd.func32, Tryd.ntmps32
  go_wp2
  go_loopw [6] (fun vi wr => ∃ k : Nat, k ≤ xs.length ∧ vi = .int .i64 k ∧ Below w.heap.size w wr ∧ Hid (A = al charP (xs.drop k) k)) (fun vi _ => xs.length - (intOf vi).toNat)
  case atStart => exact ⟨0, Nat.zero_le _, rfl, Below.refl _ _, Lib.hid (by rw [HA.out]; rfl)⟩
  case round =>
    obtain ⟨k, hk, rfl, hbw, hrel⟩ := hrel
    have HB := Lib.hid hbw
    clear hbw
    by_cases hlt : k < xs.length
    · have hkk : (k : Int) < xs.length := by omega
      have hne : xs.drop k ≠ [] := by intro e; have := congrArg List.length e; rw [List.length_drop, List.length_nil] at this; omega
      have hst := Lib.hid (hrel.out.trans (al_step charP hne k))
      have hn4 := nx_le4 (xs.drop k) (hb.out.drop k)
      rw [List.length_drop] at hn4
      have K := HK.out wr HB.out k
      rw [nxF_nat] at K
      obtain ⟨v, n, hvn⟩ : ∃ v n, nx (xs.drop k) = (v, n) := ⟨_, _, rfl⟩
      rw [hvn] at hn4 hst K
      simp only at hn4 hst K
      have K := Lib.hid K
      have HN4 := Lib.hid hn4
      clear hne hvn hrel hn4
      by_cases c1 : n = 0
      · subst c1
        have HR2 : Hid (R = (k, false)) := Lib.hid (by rw [HR.out, hst.out, if_pos (.inl rfl)]; rfl)
        go_wp2_with (go_at_call 10; (with_reducible refine K.out.mono ?_); rintro e w1 ⟨rfl, hb1⟩; have HB1 := Lib.hid (HB.out.trans (hb1.mono HB.out.size)); clear hb1)
        go_ret2
        exact ⟨by rw [HR2.out]; rfl, HB1.out⟩
      · have c1' : ¬ (n : Int) = 0 := by omega
        obtain ⟨z, hz⟩ : ∃ z, z = charP v := ⟨_, rfl⟩
        have HG := Lib.hid fun W => Char_any (v : Int) W
        rw [show wth charL (v : Int) = z from hz.symm] at HG
        rw [← hz] at hst
        clear hz
        cases z with
        | false =>
          have HR2 : Hid (R = (k, false)) := Lib.hid (by rw [HR.out, hst.out, if_pos (.inr rfl)]; rfl)
          clear c1
          go_wp2_with (first
            | (go_at_call 10; (with_reducible refine K.out.mono ?_); rintro e w1 ⟨rfl, hb1⟩; have HB1 := Lib.hid (HB.out.trans (hb1.mono HB.out.size)); clear hb1)
            | (go_at_call 18; (with_reducible refine (HG.out w1).mono ?_); rintro e w2 ⟨rfl, hb2⟩; have HB2 := Lib.hid (HB1.out.trans (hb2.mono HB1.out.size)); clear hb2))
          go_ret2
          exact ⟨by rw [HR2.out]; rfl, HB2.out⟩
        | true =>
          have HR2 : Hid (A = al charP (xs.drop (k + n)) (k + n)) := Lib.hid (by rw [hst.out, if_neg (by simp [c1]), List.drop_drop])
          have hpos : 0 < n := by omega
          clear c1
          have hw := HN4.out
          have hsum : IntKind.i64.wrap ((k : Int) + n) = ((k + n : Nat) : Int) := by rw [IntKind.wrap_i64]; omega
          obtain ⟨s, hs⟩ : ∃ s, s = k + n := ⟨_, rfl⟩
          have hsm : s ≤ xs.length := by omega
          have hsk : k < s := by omega
          rw [← hs] at hsum HR2
          clear hs hw hpos
          go_wp2_with (first
            | (go_at_call 10; (with_reducible refine K.out.mono ?_); rintro e w1 ⟨rfl, hb1⟩; have HB1 := Lib.hid (HB.out.trans (hb1.mono HB.out.size)); clear hb1)
            | (go_at_call 18; (with_reducible refine (HG.out w1).mono ?_); rintro e w2 ⟨rfl, hb2⟩; have HB2 := Lib.hid (HB1.out.trans (hb2.mono HB1.out.size)); clear hb2))
          refine ⟨⟨s, hsm, rfl, HB2.out, HR2⟩, ?_⟩
          simp [intOf]; omega
    · obtain rfl : k = xs.length := by omega
      have HR2 : Hid (R = (0, true)) := Lib.hid (by rw [HR.out, hrel.out, List.drop_length]; rfl)
      go_wp2
      go_ret2
      exact ⟨by rw [HR2.out]; rfl, HB.out⟩

set_option maxHeartbeats 3200000 in
theorem allAre_Goes (ao : Option Addr) (c : Nat) (xs : List Nat) (w : World) (h : Sl w ao c xs) (hm : xs.length ≤ 1000000000) (hT : TU w) :
    Calls Tryd.prog 32 #[.slice ao xs.length c, .func (.func 24) #[] #[]] w fun e w' => e = .returned (.tuple #[.int .i64 ((alA goP xs).1 : Nat), .bool (alA goP xs).2]) ∧ Below w.heap.size w w' := by
  have HK := Lib.hid fun (W : World) (hW : Below w.heap.size w W) (k : Nat) => Next_any ao c xs k W (h.below hW) (hT.grow hW)
  have hb := Lib.hid h.bs
  clear h hT
  obtain ⟨A, hA⟩ : ∃ A, A = al goP xs 0 := ⟨_, rfl⟩
  have HR : Hid (alA goP xs = alR A) := Lib.hid (by rw [hA]; rfl)
  obtain ⟨R, hR⟩ : ∃ R, R = alA goP xs := ⟨_, rfl⟩
  rw [← hR] at HR ⊢
  have HA := Lib.hid hA
  clear hA hR
  go_enter Tryd.func32, Tryd.ntmps32
  go_wp2
  go_loopw [6] (fun vi wr => ∃ k : Nat, k ≤ xs.length ∧ vi = .int .i64 k ∧ Below w.heap.size w wr ∧ Hid (A = al goP (xs.drop k) k)) (fun vi _ => xs.length - (intOf vi).toNat)
  case atStart => exact ⟨0, Nat.zero_le _, rfl, Below.refl _ _, Lib.hid (by rw [HA.out]; rfl)⟩
  case round =>
    obtain ⟨k, hk, rfl, hbw, hrel⟩ := hrel
    have HB := Lib.hid hbw
    clear hbw
    by_cases hlt : k < xs.length
    · have hkk : (k : Int) < xs.length := by omega
      have hne : xs.drop k ≠ [] := by intro e; have := congrArg List.length e; rw [List.length_drop, List.length_nil] at this; omega
      have hst := Lib.hid (hrel.out.trans (al_step goP hne k))
      have hn4 := nx_le4 (xs.drop k) (hb.out.drop k)
      rw [List.length_drop] at hn4
      have K := HK.out wr HB.out k
      rw [nxF_nat] at K
      obtain ⟨v, n, hvn⟩ : ∃ v n, nx (xs.drop k) = (v, n) := ⟨_, _, rfl⟩
      rw [hvn] at hn4 hst K
      simp only at hn4 hst K
      have K := Lib.hid K
      have HN4 := Lib.hid hn4
      clear hne hvn hrel hn4
      by_cases c1 : n = 0
      · subst c1
        have HR2 : Hid (R = (k, false)) := Lib.hid (by rw [HR.out, hst.out, if_pos (.inl rfl)]; rfl)
        go_wp2_with (go_at_call 10; (with_reducible refine K.out.mono ?_); rintro e w1 ⟨rfl, hb1⟩; have HB1 := Lib.hid (HB.out.trans (hb1.mono HB.out.size)); clear hb1)
        go_ret2
        exact ⟨by rw [HR2.out]; rfl, HB1.out⟩
      · have c1' : ¬ (n : Int) = 0 := by omega
        obtain ⟨z, hz⟩ : ∃ z, z = goP v := ⟨_, rfl⟩
        have HG := Lib.hid fun W => Goes_any (v : Int) W
        rw [show goesP (v : Int) = z from hz.symm] at HG
        rw [← hz] at hst
        clear hz
        cases z with
        | false =>
          have HR2 : Hid (R = (k, false)) := Lib.hid (by rw [HR.out, hst.out, if_pos (.inr rfl)]; rfl)
          clear c1
          go_wp2_with (first
            | (go_at_call 10; (with_reducible refine K.out.mono ?_); rintro e w1 ⟨rfl, hb1⟩; have HB1 := Lib.hid (HB.out.trans (hb1.mono HB.out.size)); clear hb1)
            | (go_at_call 24; (with_reducible refine (HG.out w1).mono ?_); rintro e w2 ⟨rfl, hb2⟩; have HB2 := Lib.hid (HB1.out.trans (hb2.mono HB1.out.size)); clear hb2))
          go_ret2
          exact ⟨by rw [HR2.out]; rfl, HB2.out⟩
        | true =>
          have HR2 : Hid (A = al goP (xs.drop (k + n)) (k + n)) := Lib.hid (by rw [hst.out, if_neg (by simp [c1]), List.drop_drop])
          have hpos : 0 < n := by omega
          clear c1
          have hw := HN4.out
          have hsum : IntKind.i64.wrap ((k : Int) + n) = ((k + n : Nat) : Int) := by rw [IntKind.wrap_i64]; omega
          obtain ⟨s, hs⟩ : ∃ s, s = k + n := ⟨_, rfl⟩
          have hsm : s ≤ xs.length := by omega
          have hsk : k < s := by omega
          rw [← hs] at hsum HR2
          clear hs hw hpos
          go_wp2_with (first
            | (go_at_call 10; (with_reducible refine K.out.mono ?_); rintro e w1 ⟨rfl, hb1⟩; have HB1 := Lib.hid (HB.out.trans (hb1.mono HB.out.size)); clear hb1)
            | (go_at_call 24; (with_reducible refine (HG.out w1).mono ?_); rintro e w2 ⟨rfl, hb2⟩; have HB2 := Lib.hid (HB1.out.trans (hb2.mono HB1.out.size)); clear hb2))
          refine ⟨⟨s, hsm, rfl, HB2.out, HR2⟩, ?_⟩
          simp [intOf]; omega
    · obtain rfl : k = xs.length := by omega
      have HR2 : Hid (R = (0, true)) := Lib.hid (by rw [HR.out, hrel.out, List.drop_length]; rfl)
      go_wp2
      go_ret2
      exact ⟨by rw [HR2.out]; rfl, HB.out⟩

/-- Check. -/
theorem Check_any (ao : Option Addr) (c : Nat) (xs : List Nat) (w : World) (h : Sl w ao c xs) (hm : xs.length ≤ 1000000000) (hT : TU w) :
    Calls Tryd.prog 12 #[.slice ao xs.length c] w fun e w' => e = .returned (.tuple #[.int .i64 ((alA charP xs).1 : Nat), .bool (alA charP xs).2]) ∧ Below w.heap.size w w' := by
  have K := Lib.hid (allAre_Char ao c xs w h hm hT)
  clear h hT
  generalize alA charP xs = R at K
  obtain ⟨p, q⟩ := R
  go_enter Tryd.func12, Tryd.ntmps12
  go_wp2_with (go_at_call 32; (with_reducible refine K.out.mono ?_); rintro e w1 ⟨rfl, hb1⟩; have HB1 := Lib.hid hb1; clear hb1)
  go_ret2
  exact ⟨rfl, HB1.out⟩
end Go.Proofs.YtmnkdnlmpgmdgaaDoor
