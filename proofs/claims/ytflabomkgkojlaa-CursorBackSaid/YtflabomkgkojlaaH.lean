/-
  First; the reference's.
-/
import Derived.Test.YtflabomkgkojlaaG
import Derived.Lib.IndexBytes
import Derived.Deep.Cut
import Derived.WalkSpells
import Derived.WalkLawsBesides
import Derived.Deep.RegionWith
namespace Go.Proofs.Ytflabomkgkojlaa
open Go.RowKit

set_option maxHeartbeats 1600000 in
theorem first_any (ao : Option Addr) (c : Nat) (xs : List Nat) (at_ : Int) (f : Nat) (hf : (f : Int) = max at_ 0) (s : Nat) (hs : s < 4294967296) (r : Int) (hr : IsFirst xs s f r) (w : World) (h : Sl w ao c xs) (hM : MaxL w) (hm : xs.length ≤ 1000000000) :
    Calls Try.prog 13 #[.slice ao xs.length c, .int .i64 at_, .int .u32 s] w fun e w' => e = .returned (.int .i64 r) ∧ Below w.heap.size w w' := by
  have hs' : (s : Int) < 4294967296 := by omega
  have hmx : (max at_ 0 : Int) = (f : Int) := hf.symm
  by_cases hA : xs.length < f
  · have hr' : r = -1 := hr.uniq (first_past hA)
    subst hr'
    have hA' : (xs.length : Int) < f := by omega
    clear hr h hM hf
    go_enter Try.func13, Try.ntmps13
    go_wp2
    all_goals first | (exfalso; omega) | (go_ret; exact ⟨rfl, Below.refl _ _⟩)
  · have hfl : f ≤ xs.length := by omega
    have hdl : (xs.drop f).length = xs.length - f := List.length_drop
    have hwin : ((xs.drop f).take (xs.length - f)) = xs.drop f := List.take_of_length_le (by omega)
    have hcut := h.cut' f (xs.length - f) (by omega)
    rw [hwin] at hcut
    have hr' := (first_index h.bs s hs f hfl).uniq hr
    obtain ⟨r0, hr0⟩ : ∃ r0, r0 = Lib.index (U (xs.drop f)) (U (le s 4)) := ⟨_, rfl⟩
    have hlo : -1 ≤ r0 := by rw [hr0]; exact Lib.index_ge _ _
    have hhi : r0 ≤ 1000000000 := by
      have := Lib.index_le (U (xs.drop f)) (U (le s 4))
      rw [U_len, hdl, ← hr0] at this
      omega
    have hsl := slice_l ao xs.length c f hfl
    obtain ⟨A, hAe⟩ : ∃ A, A = cutA ao c f := ⟨_, rfl⟩
    rw [← hAe] at hsl hcut
    have K1 := Lib.hid fun (W : World) => putn_nil s W
    have K2 := Lib.hid fun (W : World) (ao2 : Option Addr) (c2 : Nat) (hb : Below w.heap.size w W) (h2 : Sl W ao2 c2 (le s 4)) => index_any A ao2 (c - f) c2 (xs.drop f) s W (hcut.below hb) h2 (by omega) (hM.below hb)
    rw [hdl, ← hr0] at K2
    have HR := Lib.hid hr'
    rw [← hr0] at HR
    obtain ⟨N, hN⟩ : ∃ N, N = xs.length - f := ⟨_, rfl⟩
    rw [← hN] at hsl K2
    clear hr hr' hr0 hcut hwin hdl hAe h hM
    have HB0 : Hid (Below w.heap.size w w.drew) := Lib.hid (Below.refl _ _).drew
    have hfle : ¬ ((xs.length : Int) < f) := by omega
    clear hf hN hfl
    go_enter Try.func13, Try.ntmps13
    go_wp2_with fail
    have hwr : IntKind.i64.wrap (s : Int) = s := by rw [IntKind.wrap_i64]; omega
    go_region_with (first
      | (go_at_call 24; (with_reducible refine (K1.out _).mono ?_); rintro e w1 ⟨ao2, c2, rfl, hsl1, hb1⟩; have HB1 := Lib.hid (HB0.out.trans (hb1.mono HB0.out.size)); have K3 := Lib.hid (K2.out w1 ao2 c2 HB1.out hsl1); clear hsl1 hb1)
      | (go_at_call 23; (with_reducible refine K3.out.mono ?_); rintro e w2 ⟨rfl, hd⟩; have HB2 := Lib.hid (hd.below HB1.out); clear hd))
    clear hwr hsl hmx hs'
    have hf9 : f ≤ 1000000000 := by omega
    clear hfle
    go_wp2
    all_goals go_ret
    · exact ⟨ret_int (by rw [← HR.out, if_pos (by omega)]), HB2.out⟩
    · exact ⟨ret_int (by rw [← HR.out, if_neg (by omega)]), HB2.out⟩

set_option maxHeartbeats 800000 in
set_option maxRecDepth 100000 in
/-- The reference's First. -/
theorem rfirst_any (ao : Option Addr) (c : Nat) (xs : List Nat) (at_ : Int) (f : Nat) (hf : (f : Int) = max at_ 0) (s : Nat) (r : Int) (hr : IsFirst xs s f r) (w : World) (h : Sl w ao c xs) (hm : xs.length ≤ 1000000000) :
    Calls Try.prog 14 #[.slice ao xs.length c, .int .i64 at_, .int .u32 s] w fun e w' => e = .returned (.int .i64 r) ∧ w = w' := by
  have hmx : (max at_ 0 : Int) = (f : Int) := hf.symm
  have HR := Lib.hid hr
  have HS := Lib.hid h
  clear hr h hf
  go_enter Try.func14, Try.ntmps14
  go_upto_region 2 with fail
  clear hmx
  go_loop [7] (fun vi => ∃ k : Nat, f ≤ k ∧ vi = .int .i64 k ∧ ∀ j, f ≤ j → j < k → ¬ Has xs s j) (fun vi => xs.length - (intOf vi).toNat)
  case atStart => exact ⟨f, Nat.le_refl _, rfl, fun j h1 h2 => by omega⟩
  case round =>
    obtain ⟨k, hk, rfl, hno⟩ := hrel
    have HN := Lib.hid hno
    clear hno
    by_cases hlt : k + 4 ≤ xs.length
    · have hkk : (k : Int) ≤ (xs.length : Int) - 4 := by omega
      have K := rnum_ok ao c xs k 4 w HS.out (by omega) hlt hm
      have hz := win_lt HS.out.bs k 4 (by omega)
      obtain ⟨z, hzz⟩ : ∃ z, z = num ((xs.drop k).take 4) := ⟨_, rfl⟩
      rw [← hzz] at K hz
      have HZ := Lib.hid hzz
      have K := Lib.hid (show Calls Try.prog 9 #[.slice ao xs.length c, .int .i64 k, .int .i64 4] w fun e w' => e = .returned (.tuple #[.int .i64 z, .bool true]) ∧ w = w' from K)
      clear hzz
      have hz' : (z : Int) < 4294967296 := by omega
      by_cases he : (z : Int) = s
      · have hHas : Hid (Has xs s k) := Lib.hid ⟨hlt, by have := HZ.out; omega⟩
        have hr' : r = k := HR.out.uniq (.inr ⟨k, rfl, hk, hHas.out, HN.out⟩)
        subst hr'
        go_wp2_with (go_at_call 9; (with_reducible refine K.out.mono ?_); rintro e w' ⟨rfl, rfl⟩)
        go_ret
        exact ⟨rfl, rfl⟩
      · have hnHas : Hid (¬ Has xs s k) := Lib.hid fun hc => by have := hc.2; have := HZ.out; omega
        have hmod : (z : Int) % 4294967296 = z := by omega
        have he' : decide ((z : Int) = s) = false := by simp; omega
        clear hz hz'
        go_wp2_with (go_at_call 9; (with_reducible refine K.out.mono ?_); rintro e w' ⟨rfl, rfl⟩)
        go_round
        case rel => exact ⟨k + 1, by omega, by go_num, fun j h1 h2 => by
          by_cases e : j = k
          · subst e; exact hnHas.out
          · exact HN.out j h1 (by omega)⟩
        case measure => simp [intOf]; omega
    · have hkk : ¬ ((k : Int) ≤ (xs.length : Int) - 4) := by omega
      have hr' : r = -1 := HR.out.uniq (.inl ⟨rfl, fun j hj hc => by
        have := hc.1
        exact HN.out j hj (by omega) hc⟩)
      subst hr'
      go_wp2
      go_ret
      exact ⟨rfl, rfl⟩
end Go.Proofs.Ytflabomkgkojlaa
