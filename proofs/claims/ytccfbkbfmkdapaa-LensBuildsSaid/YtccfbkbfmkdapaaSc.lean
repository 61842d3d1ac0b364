/-
  Contract: insertionSortCmpFunc at a row of symbols.
-/
import Derived.Test.YtccfbkbfmkdapaaSb
import Derived.Sort.WalkA
namespace Go.Proofs.Ytccfbkbfmkdapaa
open Go.RowKit Go.Sort

/-- One symbol's count is less than another one's. -/
def ltk (key : Nat → Int) (x y : Nat) : Bool := decide (key x < key y)
theorem ltk_swo (key : Nat → Int) : SWO (ltk key) where
  irrefl x := by simp [ltk]
  trans x y z h1 h2 := by simp [ltk] at *; omega
  ntrans x y z h1 h2 := by simp [ltk] at *; omega
theorem ltk_ci (key : Nat → Int) (x y : Nat) (v : Bool) (h : ltk key x y = v) : decide (ci (key x) (key y) < 0) = v := by rw [ci_neg]; exact h
theorem ltk_ci' (key : Nat → Int) (x y : Nat) (h : ltk key x y = true) : ci (key x) (key y) < 0 := of_decide_eq_true (ltk_ci key x y true h)

set_option maxHeartbeats 4000000 in
theorem insertion_any (key : Nat → Int) (cx b N c lo hi : Nat) (d : Array Nat) (w0 w : World) (HC0 : Cmp key N cx b w0) (S : Srt w0 b N d w) (hlh : lo ≤ hi) (hh : hi ≤ d.size) (hsz : d.size ≤ 1000) :
    Calls Try.prog 48 #[.slice (some ⟨b, 0, none⟩) d.size c, .int .i64 lo, .int .i64 hi, .func (.func 38) #[] #[.pointer (some ⟨cx, 0, none⟩)]] w fun e w' =>
      e = .returned (.tuple #[]) ∧ Srt w0 b N (Sort.insertionSort (ltk key) d lo hi) w' := by
  have S0 := Lib.hid S
  have HC := Lib.hid HC0
  clear S HC0
  go_enter Try.func48, Try.ntmps48
  go_wp2
  go_loopw [8] (fun vi wr => ∃ (i : Nat) (dk : Array Nat), vi = .int .i64 i ∧ lo < i ∧ i ≤ hi + 1 ∧ dk.size = d.size ∧ Srt w0 b N dk wr ∧ insOuter (ltk key) lo hi i dk = insOuter (ltk key) lo hi (lo + 1) d) (fun vi _ => hi + 1 - (intOf vi).toNat)
  case atStart => exact ⟨lo + 1, d, by go_num, by omega, by omega, rfl, S0.out, rfl⟩
  case round =>
    obtain ⟨i, dk, rfl, hai, hib, hsk, hs1, ho⟩ := hrel
    have S1 := Lib.hid hs1
    have HO := Lib.hid ho
    clear hs1 ho S0
    by_cases hlt : i < hi
    · have hltz : (i : Int) < (hi : Int) := by omega
      go_wp2
      go_loopw [9] (fun vj wr2 => ∃ (j : Nat) (dj : Array Nat), vj = .int .i64 j ∧ lo ≤ j ∧ j ≤ i ∧ dj.size = d.size ∧ Srt w0 b N dj wr2 ∧ insInner (ltk key) lo j dj = insInner (ltk key) lo i dk) (fun vj _ => (intOf vj).toNat)
      case atStart => exact ⟨i, dk, rfl, by omega, Nat.le_refl _, hsk, S1.out, rfl⟩
      case round =>
        obtain ⟨j, dj, rfl, haj, hji, hsj, hsr, hi1⟩ := hrel
        have SJ := Lib.hid hsr
        have HI := Lib.hid hi1
        clear hsr hi1 S1
        have OUT := Lib.hid (show (j ≤ lo ∨ (ltk key) dj[j]! dj[j - 1]! = false) → insOuter (ltk key) lo hi (i + 1) dj = insOuter (ltk key) lo hi (lo + 1) d from fun hs => by
          rw [← HO.out, insOuter_go _ _ _ _ _ hlt, ← HI.out, insInner_stop _ _ _ _ hs])
        by_cases hja : lo < j
        · have hjaz : (lo : Int) < (j : Int) := by omega
          obtain ⟨jp, hjp⟩ : ∃ q, q = j - 1 := ⟨_, rfl⟩
          have HJ := Lib.hid hjp
          have e1 : IntKind.i64.wrap ((j : Int) - 1) = (jp : Nat) := by rw [IntKind.wrap_i64]; omega
          have b1 : (j : Int) < d.size := by omega
          have b2 : (jp : Int) < d.size := by omega
          have ca := SJ.out.cell j (by omega)
          have cb := SJ.out.cell jp (by omega)
          obtain ⟨x, hx⟩ : ∃ x, x = dj[j]! := ⟨_, rfl⟩
          obtain ⟨y, hy⟩ : ∃ y, y = dj[jp]! := ⟨_, rfl⟩
          have HX := Lib.hid hx
          have HY := Lib.hid hy
          rw [← hx] at ca
          rw [← hy] at cb
          have HL : Hid (x < N ∧ y < N) := Lib.hid ⟨by rw [hx]; exact SJ.out.lt j (by omega), by rw [hy]; exact SJ.out.lt jp (by omega)⟩
          have HCC : Hid (∀ n, Calls Try.prog 38 #[.int .i64 (x : Nat), .int .i64 (y : Nat), .pointer (some ⟨cx, 0, none⟩)] (wr.drewN n) fun e w' => e = .returned (.int .i64 (ci (key x) (key y))) ∧ ∃ q, w' = (wr.drewN n).drewN q) :=
            Lib.hid fun n => HC.out _ (SJ.out.touch.drewN n) x y HL.out.1 HL.out.2
          clear hx hy hjp
          cases hlv : ltk key x y with
          | true =>
            have hv := ltk_ci' key x y hlv
            obtain ⟨cv, hcv⟩ : ∃ cv, cv = ci (key x) (key y) := ⟨_, rfl⟩
            rw [← hcv] at HCC hv
            have HLV := Lib.hid hlv
            clear hcv hlv
            go_wp2
            go_quiet ((go_at_call 38; exact Calls.quiet_of (HCC.out _)))
            have SJ2 := Lib.hid (SJ.out.drewN nq)
            clear ca cb SJ HCC
            generalize wr.drewN nq = w2 at SJ2 ⊢
            have ca := SJ2.out.cell j (by omega)
            have cb := SJ2.out.cell jp (by omega)
            rw [← HX.out] at ca
            rw [← HY.out] at cb
            have fa := SJ2.out.free j (by omega)
            have fb := SJ2.out.free jp (by omega)
            obtain ⟨u, cc⟩ := SJ2.out.two j jp (by omega) (by omega) (.int .i64 (y : Nat))
            have S3 := Lib.hid (SJ2.out.swap j jp (by omega) (by omega)).drew
            rw [← HX.out, ← HY.out] at S3
            clear SJ2
            go_wp2
            go_region
            generalize ((w2.setCell ⟨b, j, none⟩ (.int .i64 (y : Nat))).setCell ⟨b, jp, none⟩ (.int .i64 (x : Nat))).drew = w3 at S3 ⊢
            clear ca cb cc fa fb
            go_wp2
            go_roundw
            case rel =>
              refine ⟨jp, swp dj j jp, by first | rfl | go_num, by have := HJ.out; omega, by have := HJ.out; omega, by rw [size_swp]; exact hsj, S3.out, ?_⟩
              rw [← HI.out, insInner_go (ltk key) lo j dj hja (by rw [← HJ.out, ← HX.out, ← HY.out]; exact HLV.out), ← HJ.out]
            case measure => simp [intOf]; have := HJ.out; omega
          | false =>
            have hv : ¬ ci (key x) (key y) < 0 := of_decide_eq_false (ltk_ci key x y false hlv)
            obtain ⟨cv, hcv⟩ : ∃ cv, cv = ci (key x) (key y) := ⟨_, rfl⟩
            rw [← hcv] at HCC hv
            have HLV := Lib.hid hlv
            have hv' : 0 ≤ cv := by omega
            have hd : decide (cv < 0) = false := decide_eq_false hv
            clear hcv hlv hv
            go_wp2
            go_quiet ((go_at_call 38; exact Calls.quiet_of (HCC.out _)))
            have SJ2 := Lib.hid (SJ.out.drewN nq)
            clear ca cb SJ HCC
            generalize wr.drewN nq = w2 at SJ2 ⊢
            go_wp2
            go_roundw
            case rel => exact ⟨i + 1, dj, by go_num, by omega, by omega, hsj, SJ2.out, OUT.out (Or.inr (by rw [← HJ.out, ← HX.out, ← HY.out]; exact HLV.out))⟩
            case measure => simp [intOf]; omega
        · have hjaz' : (j : Int) ≤ (lo : Int) := by omega
          have hd : decide ((lo : Int) < (j : Int)) = false := decide_eq_false (by omega)
          go_wp2
          go_quiet (fail)
          have SJ2 := Lib.hid (SJ.out.drewN nq)
          clear SJ
          generalize wr.drewN nq = w2 at SJ2 ⊢
          go_wp2
          go_roundw
          case rel => exact ⟨i + 1, dj, by go_num, by omega, by omega, hsj, SJ2.out, OUT.out (Or.inl (by omega))⟩
          case measure => simp [intOf]; omega
    · have hltz : (hi : Int) ≤ (i : Int) := by omega
      go_wp2
      go_end0
      exact ⟨rfl, by unfold Sort.insertionSort; rw [← HO.out, insOuter_stop _ _ _ _ _ hlt]; exact S1.out⟩
end Go.Proofs.Ytccfbkbfmkdapaa
