/-
  Contract of Cost, at counts and lengths within bounds.
-/
import Derived.Test.YtccfbkbfmkdapaaOa
import Derived.Test.YtccfbkbfmkdapaaCa
namespace Go.Proofs.Ytccfbkbfmkdapaa
open Go.RowKit

/-- What counts cost with lengths. -/
def cst (ns ls : List Nat) (k : Nat) : Nat := sumr k fun i => ns.getD i 0 * ls.getD i 0
theorem cst_le {ns ls : List Nat} (h1 : ∀ x ∈ ns, x ≤ 1099511627776) (h2 : ∀ x ∈ ls, x ≤ 15) (k : Nat) : cst ns ls k ≤ k * 16492674416640 := by
  induction k with
  | zero => simp [cst, sumr_zero]
  | succ k ih =>
    unfold cst at *
    rw [sumr_succ]
    have a1 : ns.getD k 0 ≤ 1099511627776 := by
      rcases Nat.lt_or_ge k ns.length with h | h
      · rw [List.getD_eq_getElem?_getD, List.getElem?_eq_getElem h]; exact h1 _ (List.getElem_mem h)
      · rw [getD_zero h]; omega
    have a2 : ls.getD k 0 ≤ 15 := by
      rcases Nat.lt_or_ge k ls.length with h | h
      · rw [List.getD_eq_getElem?_getD, List.getElem?_eq_getElem h]; exact h2 _ (List.getElem_mem h)
      · rw [getD_zero h]; omega
    have a3 : ns.getD k 0 * ls.getD k 0 ≤ 1099511627776 * 15 := Nat.mul_le_mul a1 a2
    omega

set_option maxHeartbeats 4000000 in
set_option maxRecDepth 100000 in
theorem cost_any (ao bo : Option Addr) (c d : Nat) (ns ls : List Nat) (w : World) (h : IS w ao (ints ns)) (h2 : IS w bo (ints ls)) (hl : ns.length ≤ 400) (hl2 : ls.length = ns.length) (hM : ∀ x ∈ ns, x ≤ 1099511627776) (hL : ∀ x ∈ ls, x ≤ 15) :
    Calls Try.prog 15 #[.slice ao ns.length c, .slice bo ns.length d] w fun e w' => e = .returned (.int .i64 (cst ns ls ns.length : Nat)) ∧ Below w.heap.size w w' := by
  have HI := Lib.hid h
  have HJ := Lib.hid h2
  have HMM := Lib.hid hM
  have HLL := Lib.hid hL
  have HCL : Hid (∀ k, cst ns ls k ≤ k * 16492674416640) := Lib.hid fun k => cst_le hM hL k
  clear h h2 hM hL
  obtain ⟨n, hn⟩ : ∃ n, n = ns.length := ⟨_, rfl⟩
  have HN := Lib.hid hn
  rw [← hn] at hl hl2 ⊢
  clear hn
  go_enter Try.func15, Try.ntmps15
  go_upto_region 2 with (first
    | (go_at_call 21; refine (outside_any 0 1099511627776 _).mono ?_; rintro e w1 ⟨p, q, rfl, hk, hb, hp, hq⟩; have HK := Lib.hid hk; have HB := Lib.hid hb; clear hk hb; unfold fnOut)
    | (go_at_call 21; refine (outside_any 0 15 _).mono ?_; rintro e w2 ⟨p2, q2, rfl, hk2, hb2, hp2, hq2⟩; have HK2 := Lib.hid hk2; have HB2 := Lib.hid (HB.out.trans (hb2.mono HB.out.size)); have HK1 := Lib.hid (HK.out.on hb2); clear hk2 hb2; unfold fnOut))
  have HI2 := Lib.hid (HI.out.below HB2.out)
  have HJ2 := Lib.hid (HJ.out.below HB2.out)
  clear HK HI HJ hp hq hp2 hq2
  go_wp2
  go_loopw [7, 16] (fun s iv' wr => ∃ k qd : Nat, k ≤ n ∧ iv' = .int .i64 k ∧ s = .int .i64 (cst ns ls k : Nat) ∧ wr = w2.drewN qd) (fun _ iv' _ => n - (intOf iv').toNat)
  case atStart => exact ⟨0, 0, Nat.zero_le _, rfl, rfl, rfl⟩
  case round =>
    obtain ⟨k, qd, hk, rfl, rfl, hw⟩ := hrel
    have HW := Lib.hid hw
    have HI3 : Hid (IS wr ao (ints ns)) := Lib.hid (by rw [hw]; exact HI2.out.drewN qd)
    have HJ3 : Hid (IS wr bo (ints ls)) := Lib.hid (by rw [hw]; exact HJ2.out.drewN qd)
    have HK3 : Hid (Kept wr p q 0 1099511627776) := Lib.hid (by rw [hw]; exact HK1.out.drewN qd)
    have HK4 : Hid (Kept wr p2 q2 0 15) := Lib.hid (by rw [hw]; exact HK2.out.drewN qd)
    clear hw
    by_cases hlt : k < n
    · have hkk : (k : Int) < n := by omega
      obtain ⟨b1, o1, rfl, r1⟩ := HI3.out.nat (k := k) (by rw [← HN.out]; exact hlt)
      obtain ⟨b2, o2, rfl, r2⟩ := HJ3.out.nat (k := k) (by rw [hl2]; exact hlt)
      obtain ⟨x, hx⟩ : ∃ x, x = ns.getD k 0 := ⟨_, rfl⟩
      obtain ⟨y, hy⟩ : ∃ y, y = ls.getD k 0 := ⟨_, rfl⟩
      have hxm : Hid (x ≤ 1099511627776) := Lib.hid (by rw [hx, List.getD_eq_getElem?_getD, List.getElem?_eq_getElem (show k < ns.length by rw [← HN.out]; exact hlt)]; exact HMM.out _ (List.getElem_mem _))
      have hym : y ≤ 15 := by rw [hy, List.getD_eq_getElem?_getD, List.getElem?_eq_getElem (show k < ls.length by rw [hl2]; exact hlt)]; exact HLL.out _ (List.getElem_mem _)
      have HST : Hid (cst ns ls (k + 1) = cst ns ls k + x * y) := Lib.hid (by unfold cst; rw [sumr_succ, hx, hy])
      rw [← hx] at r1
      rw [← hy] at r2
      have hb1 : Hid (¬ Bad 0 1099511627776 (x : Int)) := Lib.hid (by have := hxm.out; unfold Bad; omega)
      have hb2 : Hid (¬ Bad 0 15 (y : Int)) := Lib.hid (by unfold Bad; omega)
      obtain ⟨xy, hxy⟩ : ∃ xy, xy = x * y := ⟨_, rfl⟩
      obtain ⟨s, hs⟩ : ∃ s, s = cst ns ls k := ⟨_, rfl⟩
      obtain ⟨s2, hs2⟩ : ∃ s2, s2 = s + xy := ⟨_, rfl⟩
      have hxyl : xy ≤ 16492674416640 := by rw [hxy]; exact Nat.mul_le_mul hxm.out hym
      have hsl : s ≤ 400 * 16492674416640 := by rw [hs]; exact Nat.le_trans (HCL.out k) (Nat.mul_le_mul_right _ (by omega))
      have e1 : IntKind.i64.wrap ((x : Int) * y) = xy := by rw [← Int.natCast_mul, ← hxy, IntKind.wrap_i64]; omega
      have E2 := Lib.hid (show IntKind.i64.wrap ((s : Int) + xy) = s2 by rw [IntKind.wrap_i64]; omega)
      have HXY := Lib.hid (And.intro hxy (And.intro hs hs2))
      rw [← hs]
      clear hx hy hxy hs hs2 hxyl hsl hym hxm
      have e2 := E2.out
      go_wp2_with (first
        | (go_at_call 35; (with_reducible refine (bad_no p q 0 1099511627776 (x : Int) _ HK3.out hb1.out).mono ?_); rintro e w3 ⟨rfl, rfl⟩)
        | (go_at_call 35; (with_reducible refine (bad_no p2 q2 0 15 (y : Int) _ HK4.out hb2.out).mono ?_); rintro e w4 ⟨rfl, rfl⟩))
      go_quiet (fail)
      clear e1 e2
      go_wp2
      go_roundw
      case rel => exact ⟨k + 1, _, by omega, by go_num, by rw [HST.out, HXY.out.2.2, HXY.out.2.1, HXY.out.1], by rw [HW.out, World.drewN_drewN]⟩
      case measure => simp [intOf]; omega
    · have hke : k = n := by omega
      subst hke
      go_wp2
      go_ret
      exact ⟨rfl, by rw [HW.out]; exact below_drewN HB2.out qd⟩
end Go.Proofs.Ytccfbkbfmkdapaa
