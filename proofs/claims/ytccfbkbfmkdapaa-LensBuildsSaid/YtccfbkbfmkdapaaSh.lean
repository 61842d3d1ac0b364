/-
  Contracts: stableCmpFunc, SortStableFunc at a row of symbols.
-/
import Derived.Test.YtccfbkbfmkdapaaSg
namespace Go.Proofs.Ytccfbkbfmkdapaa
open Go.RowKit Go.Sort

/-- From block f on, rows of so many places rise, up to n. -/
def Bks (key : Nat → Int) (d : Array Nat) (bs n f : Nat) : Prop := ∀ s, f ≤ s → Asc key d (s * bs) (min (s * bs + bs) n)
/-- The first t rows of so many places rise. -/
def Fst (key : Nat → Int) (d : Array Nat) (bs t : Nat) : Prop := ∀ s, s < t → Asc key d (s * bs) (s * bs + bs)
theorem mul_low {s t bs : Nat} (h : s < t) : s * bs + bs ≤ t * bs := by
  have := Nat.mul_le_mul_right bs (show s + 1 ≤ t from h)
  rw [Nat.add_mul] at this
  omega
theorem Fst.step {key : Nat → Int} {d d' : Array Nat} {bs t : Nat} (h : Fst key d bs t) (p : PermIn (t * bs) (t * bs + bs) d d') (a : Asc key d' (t * bs) (t * bs + bs)) : Fst key d' bs (t + 1) := fun s hs => by
  by_cases e : s = t
  · subst e; exact a
  · refine (h s (by omega)).congr fun x _ hx => permIn_out p (.inl ?_)
    have := mul_low (bs := bs) (show s < t by omega)
    omega
theorem Fst.last {key : Nat → Int} {d d' : Array Nat} {bs t n : Nat} (h : Fst key d bs t) (hn : n < t * bs + bs) (p : PermIn (t * bs) n d d') (a : Asc key d' (t * bs) n) : Bks key d' bs n 0 := fun s _ => by
  by_cases e : s < t
  · have h2 := mul_low (bs := bs) e
    refine ((h s e).sub (Nat.le_refl _) (Nat.min_le_left _ _)).congr fun x _ hx => permIn_out p (.inl ?_)
    have := Nat.min_le_left (s * bs + bs) n
    omega
  · by_cases e2 : s = t
    · subst e2; exact a.sub (Nat.le_refl _) (Nat.min_le_right _ _)
    · have h2 := mul_low (bs := bs) (show t < s by omega)
      intro i j hi _ hj
      have := Nat.min_le_right (s * bs + bs) n
      omega
/-- What merging two rows asks. -/
theorem Bks.two {key : Nat → Int} {d : Array Nat} {bs n t : Nat} (h : Bks key d bs n (2 * t)) : Asc key d (t * (2 * bs)) (min (t * (2 * bs) + bs) n) ∧ Asc key d (t * (2 * bs) + bs) (min (t * (2 * bs) + 2 * bs) n) := by
  have h1 := h (2 * t) (Nat.le_refl _)
  have h2 := h (2 * t + 1) (by omega)
  have e : 2 * t * bs = t * (2 * bs) := by rw [Nat.mul_comm 2 t, Nat.mul_assoc]
  rw [Nat.add_mul, Nat.one_mul] at h2
  rw [e] at h1 h2
  refine ⟨h1, ?_⟩
  rwa [show t * (2 * bs) + 2 * bs = t * (2 * bs) + bs + bs by omega]
theorem Bks.step {key : Nat → Int} {d d' : Array Nat} {bs n t : Nat} (h : Bks key d bs n (2 * t)) (p : PermIn (t * (2 * bs)) (t * (2 * bs) + 2 * bs) d d') : Bks key d' bs n (2 * (t + 1)) := fun s hs => by
  refine (h s (by omega)).congr fun x hx _ => permIn_out p (.inr ?_)
  have := Nat.mul_le_mul_right bs hs
  rw [show 2 * (t + 1) * bs = t * (2 * bs) + 2 * bs by rw [Nat.mul_comm 2, Nat.mul_assoc, Nat.add_mul]; omega] at this
  omega

/-- A row that is sorted. -/
structure Sd (key : Nat → Int) (w0 : World) (b N : Nat) (d d' : Array Nat) (W : World) : Prop where
  s : Srt w0 b N d' W
  perm : PermIn 0 d.size d d'
  asc : Asc key d' 0 d.size

set_option maxHeartbeats 16000000 in
set_option maxRecDepth 100000 in
theorem stable_any (key : Nat → Int) (cx b N c : Nat) (d : Array Nat) (w0 w : World) (HC0 : Cmp key N cx b w0) (S : Srt w0 b N d w) (hsz : d.size ≤ 1000) :
    Calls Try.prog 44 #[.slice (some ⟨b, 0, none⟩) d.size c, .int .i64 d.size, .func (.func 38) #[] #[.pointer (some ⟨cx, 0, none⟩)]] w fun e w' =>
      e = .returned (.tuple #[]) ∧ ∃ d', Sd key w0 b N d d' w' := by
  have S0 := Lib.hid S
  have HC := Lib.hid HC0
  clear S HC0
  go_enter Try.func44, Try.ntmps44
  go_wp2
  go_loopw [7, 8] (fun av bv wr => ∃ (t : Nat) (dk : Array Nat), av = .int .i64 ((t * 20 : Nat) : Int) ∧ bv = .int .i64 ((t * 20 + 20 : Nat) : Int) ∧ t * 20 ≤ d.size ∧ dk.size = d.size ∧ Srt w0 b N dk wr ∧ PermIn 0 d.size d dk ∧ Fst key dk 20 t) (fun av _ _ => d.size - (intOf av).toNat)
  case atStart => exact ⟨0, d, rfl, rfl, Nat.zero_le _, rfl, S0.out, permIn_refl _ _ _, fun s hs => by omega⟩
  case round =>
    obtain ⟨t, dk, rfl, rfl, ht, hdk, hs, hp, hf⟩ := hrel
    have SR := Lib.hid hs
    have HP := Lib.hid hp
    have HF := Lib.hid hf
    clear hs hp hf S0
    obtain ⟨a, ha⟩ : ∃ a, a = t * 20 := ⟨_, rfl⟩
    obtain ⟨a2, ha2⟩ : ∃ a2, a2 = a + 20 := ⟨_, rfl⟩
    obtain ⟨a3, ha3⟩ : ∃ a3, a3 = a2 + 20 := ⟨_, rfl⟩
    rw [← ha, ← ha2]
    by_cases hle : a2 ≤ d.size
    · have hle' : (a2 : Int) ≤ d.size := by omega
      have HR := Lib.hid (insertion_any key cx b N c a a2 dk w0 wr HC.out SR.out (by omega) (by omega) (by omega))
      rw [hdk] at HR
      have IS' := Lib.hid (insertionSort_holds (lt := ltk key) (ltk_swo key) dk a a2 (by omega) (by omega))
      have ea := (show IntKind.i64.wrap ((a2 : Int) + 20) = a3 by rw [IntKind.wrap_i64]; omega)
      have HA := Lib.hid (And.intro ha (And.intro ha2 ha3))
      clear ha ha2 ha3
      go_wp2_with (go_at_call 48; (with_reducible refine HR.out.mono ?_); rintro e w' ⟨rfl, hR1⟩; have HR1 := Lib.hid hR1; clear hR1)
      clear ea
      go_roundw
      case rel =>
        obtain ⟨h1, h2, h3⟩ := HA.out
        refine ⟨t + 1, _, by congr 1; omega, by congr 1; omega, by omega, ?_, HR1.out, ?_, ?_⟩
        · rw [← hdk]; exact IS'.out.1.1
        · exact permIn_trans _ _ _ _ _ HP.out (permIn_mono _ _ _ _ _ _ (Nat.zero_le _) (by omega) (by omega) IS'.out.1)
        · refine HF.out.step (by rw [← h1, ← h2]; exact IS'.out.1) ?_
          rw [← h1, ← h2]
          exact Asc.of_sorted IS'.out.2
      case measure => have := HA.out; simp [intOf]; omega
    · have hle' : (d.size : Int) < a2 := by omega
      have HR := Lib.hid (insertion_any key cx b N c a d.size dk w0 wr HC.out SR.out (by omega) (by omega) (by omega))
      rw [hdk] at HR
      have IS' := Lib.hid (insertionSort_holds (lt := ltk key) (ltk_swo key) dk a d.size (by omega) (by omega))
      have HBK : Hid (Bks key (Sort.insertionSort (ltk key) dk a d.size) 20 d.size 0) := Lib.hid (by
        refine HF.out.last (t := t) (by omega) (by rw [← ha]; exact IS'.out.1) ?_
        rw [← ha]
        exact Asc.of_sorted IS'.out.2)
      have HPP : Hid (PermIn 0 d.size d (Sort.insertionSort (ltk key) dk a d.size)) := Lib.hid (permIn_trans _ _ _ _ _ HP.out (permIn_mono _ _ _ _ _ _ (Nat.zero_le _) (Nat.le_refl _) (by omega) IS'.out.1))
      clear ha ha2 ha3 IS' HP HF
      obtain ⟨d1, hd1⟩ : ∃ d1, d1 = Sort.insertionSort (ltk key) dk a d.size := ⟨_, rfl⟩
      rw [← hd1] at HBK HPP HR
      clear hd1
      go_wp2_with (go_at_call 48; (with_reducible refine HR.out.mono ?_); rintro e w' ⟨rfl, hR1⟩; have HR1 := Lib.hid hR1; clear hR1)
      clear SR HR hle hle' ht hdk
      go_loopw [6] (fun sv wr => ∃ (bs : Nat) (dk : Array Nat), sv = .int .i64 bs ∧ 0 < bs ∧ bs ≤ 2000 ∧ dk.size = d.size ∧ Srt w0 b N dk wr ∧ PermIn 0 d.size d dk ∧ Bks key dk bs d.size 0) (fun sv _ => d.size - (intOf sv).toNat)
      case atStart => exact ⟨20, d1, rfl, by omega, by omega, HPP.out.1, HR1.out, HPP.out, HBK.out⟩
      case round =>
        obtain ⟨bs, dk, rfl, hb0, hb1, hdk, hs, hp, hf⟩ := hrel
        have SR := Lib.hid hs
        have HP := Lib.hid hp
        have HF := Lib.hid hf
        clear hs hp hf HPP HBK HR1
        by_cases hlt : bs < d.size
        · have hlt' : (bs : Int) < d.size := by omega
          obtain ⟨bd, hbd⟩ : ∃ bd, bd = 2 * bs := ⟨_, rfl⟩
          have EB := Lib.hid (show IntKind.i64.wrap (2 * (bs : Int)) = bd by rw [IntKind.wrap_i64]; omega)
          have EB2 := Lib.hid (show IntKind.i64.wrap ((bs : Int) * 2) = bd by rw [IntKind.wrap_i64]; omega)
          have HD := Lib.hid hbd
          have hbd1 : bs < bd := by omega
          have hbd2 : bd ≤ 2000 := by omega
          clear hbd
          have eb := EB.out
          go_wp2
          clear eb
          go_loopw [7, 8] (fun av bv wr => ∃ (t : Nat) (di : Array Nat), av = .int .i64 ((t * bd : Nat) : Int) ∧ bv = .int .i64 ((t * bd + bd : Nat) : Int) ∧ t * bd ≤ d.size ∧ di.size = d.size ∧ Srt w0 b N di wr ∧ PermIn 0 d.size d di ∧ Fst key di bd t ∧ Bks key di bs d.size (2 * t)) (fun av _ _ => d.size - (intOf av).toNat)
          case atStart =>
            exact ⟨0, dk, by rw [Nat.zero_mul]; rfl, by rw [Nat.zero_mul, Nat.zero_add], by rw [Nat.zero_mul]; exact Nat.zero_le _, hdk, SR.out, HP.out, fun s hs => absurd hs (Nat.not_lt_zero s), HF.out⟩
          case round =>
            obtain ⟨t, di, rfl, rfl, ht, hdi, hs, hp, hf, hk⟩ := hrel
            have SI := Lib.hid hs
            have PI := Lib.hid hp
            have FI := Lib.hid hf
            have KI := Lib.hid hk
            have TW : Hid (Asc key di (t * bd) (min (t * bd + bs) d.size) ∧ Asc key di (t * bd + bs) (min (t * bd + bd) d.size)) := Lib.hid (by
              have := hk.two
              rwa [← HD.out] at this)
            clear hs hp hf hk SR HP HF
            obtain ⟨a, ha⟩ : ∃ a, a = t * bd := ⟨_, rfl⟩
            have HA := Lib.hid ha
            rw [← ha] at TW ht ⊢
            clear ha
            obtain ⟨am, ham⟩ : ∃ am, am = a + bs := ⟨_, rfl⟩
            obtain ⟨a2, ha2⟩ : ∃ a2, a2 = a + bd := ⟨_, rfl⟩
            obtain ⟨a3, ha3⟩ : ∃ a3, a3 = a2 + bd := ⟨_, rfl⟩
            have EM := Lib.hid (show IntKind.i64.wrap ((a : Int) + bs) = am by rw [IntKind.wrap_i64]; omega)
            have HQ := Lib.hid (And.intro ham (And.intro ha2 ha3))
            rw [← ham, ← ha2] at TW
            rw [← ha2]
            by_cases hle : a2 ≤ d.size
            · have hle' : (a2 : Int) ≤ d.size := by omega
              have HR := Lib.hid (merge_all key cx b N c w0 HC.out (a2 - a) a am a2 di wr (Nat.le_refl _) SI.out (by omega) (by omega) (by omega) (by omega) (by have := TW.out.1; rwa [Nat.min_eq_left (by omega)] at this) (by have := TW.out.2; rwa [Nat.min_eq_left (by omega)] at this))
              rw [hdi] at HR
              have E3 := Lib.hid (show IntKind.i64.wrap ((a2 : Int) + bd) = a3 by rw [IntKind.wrap_i64]; omega)
              clear ham ha2 ha3
              have em := EM.out
              go_upto_region 11 with (go_at_call 49; (with_reducible refine HR.out.mono ?_); rintro e w' ⟨rfl, d2, hR1⟩; have HR1 := Lib.hid hR1; clear hR1)
              clear em
              have eb := EB.out
              have e3 := E3.out
              go_wp2
              clear eb e3
              go_roundw
              case rel =>
                obtain ⟨h1, h2, h3⟩ := HQ.out
                have h4 := HA.out
                have h5 := HD.out
                have e1 : (t + 1) * bd = a2 := by rw [Nat.add_mul, ← h4]; omega
                refine ⟨t + 1, d2, by rw [e1], by rw [e1, ← h3], by omega, by rw [← hdi]; exact HR1.out.perm.1, HR1.out.s, ?_, ?_, ?_⟩
                · exact permIn_trans _ _ _ _ _ PI.out (permIn_mono _ _ _ _ _ _ (Nat.zero_le _) (by omega) (by omega) HR1.out.perm)
                · exact FI.out.step (by rw [← h4, ← h2]; exact HR1.out.perm) (by rw [← h4, ← h2]; exact HR1.out.asc)
                · exact KI.out.step (by rw [← h5, ← h4, ← h2]; exact HR1.out.perm)
              case measure => have := HQ.out; simp [intOf]; omega
            · have hle' : (d.size : Int) < a2 := by omega
              by_cases hm : am < d.size
              · have hm' : (am : Int) < d.size := by omega
                have HR := Lib.hid (merge_all key cx b N c w0 HC.out (d.size - a) a am d.size di wr (Nat.le_refl _) SI.out (by omega) (by omega) (by omega) (by omega) (by have := TW.out.1; rwa [Nat.min_eq_left (by omega)] at this) (by have := TW.out.2; rwa [Nat.min_eq_right (by omega)] at this))
                rw [hdi] at HR
                clear ham ha2 ha3
                have em := EM.out
                go_upto_region 16 with (go_at_call 49; (with_reducible refine HR.out.mono ?_); rintro e w' ⟨rfl, d2, hR1⟩; have HR1 := Lib.hid hR1; clear hR1)
                clear em
                have eb := EB2.out
                go_wp2
                clear eb
                go_roundw
                case rel =>
                  have h2 := HQ.out.2.1
                  have h4 := HA.out
                  refine ⟨bd, d2, rfl, by omega, by omega, by rw [← hdi]; exact HR1.out.perm.1, HR1.out.s, ?_, ?_⟩
                  · exact permIn_trans _ _ _ _ _ PI.out (permIn_mono _ _ _ _ _ _ (Nat.zero_le _) (Nat.le_refl _) (by omega) HR1.out.perm)
                  · exact FI.out.last (t := t) (by rw [← h4]; omega) (by rw [← h4]; exact HR1.out.perm) (by rw [← h4]; exact HR1.out.asc)
                case measure => simp [intOf]; omega
              · have hm' : (d.size : Int) ≤ am := by omega
                have A1 : Hid (Asc key di a d.size) := Lib.hid (by have := TW.out.1; rwa [Nat.min_eq_right (by omega)] at this)
                clear ham ha2 ha3
                have em := EM.out
                go_upto_region 16 with fail
                clear em
                have eb := EB2.out
                go_wp2
                clear eb
                go_roundw
                case rel =>
                  have h2 := HQ.out.2.1
                  have h4 := HA.out
                  refine ⟨bd, di, rfl, by omega, by omega, hdi, SI.out, PI.out, ?_⟩
                  exact FI.out.last (t := t) (by rw [← h4]; omega) (permIn_refl _ _ _) (by rw [← h4]; exact A1.out)
                case measure => simp [intOf]; omega
        · have hlt' : (d.size : Int) ≤ bs := by omega
          go_wp2
          go_end0
          refine ⟨rfl, dk, SR.out, HP.out, ?_⟩
          have := HF.out 0 (Nat.le_refl _)
          rwa [Nat.zero_mul, Nat.zero_add, Nat.min_eq_right (by omega)] at this

theorem sortStable_any (key : Nat → Int) (cx b N c : Nat) (d : Array Nat) (w0 w : World) (HC0 : Cmp key N cx b w0) (S : Srt w0 b N d w) (hsz : d.size ≤ 1000) :
    Calls Try.prog 37 #[.slice (some ⟨b, 0, none⟩) d.size c, .func (.func 38) #[] #[.pointer (some ⟨cx, 0, none⟩)]] w fun e w' =>
      e = .returned (.tuple #[]) ∧ ∃ d', Sd key w0 b N d d' w' := by
  have HR := Lib.hid (stable_any key cx b N c d w0 w HC0 S hsz)
  clear S HC0
  go_enter Try.func37, Try.ntmps37
  go_wp2_with (go_at_call 44; (with_reducible refine HR.out.mono ?_); rintro e w' ⟨rfl, d2, hR1⟩; have HR1 := Lib.hid hR1; clear hR1)
  go_end0
  exact ⟨rfl, d2, HR1.out⟩
end Go.Proofs.Ytccfbkbfmkdapaa
