/-
  The law's first look, alive.
-/
import Derived.Test.YtccfbkbfmkdapaaTa
namespace Go.Proofs.Ytccfbkbfmkdapaa
open Go.RowKit

theorem fine_one : Fine [5, 1, 0, 1] 15 := ⟨by decide, by decide, by decide⟩
theorem fine_two : Fine [1, 1, 1] 1 := ⟨by decide, by decide, by decide⟩
theorem pk_one : pkl [0, 0, 0, 4, 4, 4, 4, 4] = [(17, 0), (4, 0), (16, 1)] := by decide
theorem pk_nobad : anyBad 0 15 [0, 0, 0, 4, 4, 4, 4, 4] = false := by decide

theorem un_one : un [(17, 0), (4, 0), (16, 1)] [] = some [0, 0, 0, 4, 4, 4, 4, 4] := by decide

set_option maxHeartbeats 4000000 in
set_option maxRecDepth 100000 in
theorem alive_any (w : World) : Calls Try.prog 8 #[] w fun e w' => e = .returned (.bool true) ∧ Below w.heap.size w w' := by
  go_enter Try.func8, Try.ntmps8
  go_wp2_with fail
  refine (build_fine (some ⟨w.heap.size, 0, none⟩) 4 [5, 1, 0, 1] 15 _ (made_is w [5, 1, 0, 1] _ _ rfl) fine_one).mono ?_
  rintro e w1 (⟨h, _⟩ | ⟨g, us, rfl, hU, hul, hB, hb, hg⟩)
  · exact absurd h (by decide)
  have HB1 : Hid (Below w.heap.size w w1) := Lib.hid (((Below.refl _ _).alloc (Nat.le_refl _) _).trans (hb.mono (by simp)))
  have HL : Hid (IS w1 (some ⟨g, 0, none⟩) [1, 2, 0, 2]) := Lib.hid (by
    have h := built_is (ns := [5, 1, 0, 1]) (lim := 15) rfl hB
    rw [lens_three hU] at h
    exact h)
  clear hU hul hB hb hg
  go_wp2_with fail
  refine (build_fine (some ⟨w1.heap.size, 0, none⟩) 3 [1, 1, 1] 1 _ (made_is w1 [1, 1, 1] _ _ rfl) fine_two).mono ?_
  rintro e w2 (⟨_, rfl, hb⟩ | ⟨g2, us, rfl, hU, hul, _, _, _⟩)
  rotate_left
  · exfalso
    have h := hU.len
    rw [show (usd (nat [1, 1, 1]) (nat [1, 1, 1]).length).length = 3 by decide] at h
    omega
  have HB2 : Hid (Below w1.heap.size w1 w2) := Lib.hid (((Below.refl _ _).alloc (Nat.le_refl _) _).trans (hb.mono (by simp)))
  clear hb
  go_wp2_with fail
  refine (pack_fine (some ⟨w2.heap.size, 0, none⟩) 8 [0, 0, 0, 4, 4, 4, 4, 4] _ (made_is w2 [0, 0, 0, 4, 4, 4, 4, 4] _ _ rfl) (by decide) pk_nobad).mono ?_
  rintro e w3 ⟨ao, c, rfl, hts, hb⟩
  rw [pk_one] at hts ⊢
  have HT := Lib.hid hts
  have HB3 : Hid (Below w2.heap.size w2 w3) := Lib.hid (((Below.refl _ _).alloc (Nat.le_refl _) _).trans (hb.mono (by simp)))
  clear hts hb
  go_wp2_with fail
  refine (unpack_any ao c [(17, 0), (4, 0), (16, 1)] _ HT.out (by decide)).mono ?_
  rintro e w4 ⟨hb, _, hu⟩
  obtain ⟨ao2, c2, rfl, _⟩ := hu [0, 0, 0, 4, 4, 4, 4, 4] un_one
  have HB4 := Lib.hid hb
  clear hb hu
  have HL4 := Lib.hid (((HL.out.below HB2.out).below HB3.out).below HB4.out)
  have HT4 := Lib.hid (HT.out.on HB4.out)
  have HB5 : Hid (Below w.heap.size w w4) := Lib.hid (((HB1.out.trans (HB2.out.mono HB1.out.size)).trans (HB3.out.mono (Nat.le_trans HB1.out.size HB2.out.size))).trans (HB4.out.mono (Nat.le_trans (Nat.le_trans HB1.out.size HB2.out.size) HB3.out.size)))
  clear HL HT HB1 HB2 HB3 HB4
  have f0 : ((0 : Int) == 0) = true := by decide
  go_wp2_with fail
  refine (same_any (some ⟨g, 0, none⟩) (some ⟨w4.heap.size, 0, none⟩) 4 4 [1, 2, 0, 2] _ (HL4.out.below ((Below.refl _ _).alloc (Nat.le_refl _) _)) (made_is w4 [1, 2, 0, 2] _ _ rfl) (by decide)).mono ?_
  rintro e w5 ⟨rfl, q, hq⟩
  have HB6 : Hid (Below w4.heap.size w4 w5) := Lib.hid (by rw [hq]; exact below_drewN ((Below.refl _ _).alloc (Nat.le_refl _) _) q)
  clear hq
  go_wp2_with fail
  refine (cost_any (some ⟨w5.heap.size, 0, none⟩) (some ⟨g, 0, none⟩) 4 4 [5, 1, 0, 1] [1, 2, 0, 2] _ (made_is w5 [5, 1, 0, 1] _ _ rfl) ((HL4.out.below HB6.out).below ((Below.refl _ _).alloc (Nat.le_refl _) _)) (by decide) rfl (by decide) (by decide)).mono ?_
  rintro e w6 ⟨rfl, hb⟩
  have HB7 : Hid (Below w5.heap.size w5 w6) := Lib.hid (((Below.refl _ _).alloc (Nat.le_refl _) _).trans (hb.mono (by simp)))
  clear hb
  rw [show cst [5, 1, 0, 1] [1, 2, 0, 2] [5, 1, 0, 1].length = 9 by decide]
  have HB8 : Hid (Below w.heap.size w w6) := Lib.hid (HB5.out.trans ((HB6.out.trans (HB7.out.mono HB6.out.size)).mono HB5.out.size))
  obtain ⟨b1, o1, rfl, q1, q2⟩ := ((HT4.out.on HB6.out).on HB7.out).at (k := 0) (by decide)
  obtain ⟨b2, o2, e2, q3, q4⟩ := ((HT4.out.on HB6.out).on HB7.out).at (k := 2) (by decide)
  obtain ⟨rfl, rfl⟩ : b1 = b2 ∧ o1 = o2 := by simpa using e2
  clear e2 HB5 HB6 HB7 HL4 HT4
  simp only [itm, List.getD_cons_zero, List.getD_cons_succ, Nat.zero_mul, Nat.add_zero] at q1 q2 q3 q4
  go_wp2_with fail
  go_ret
  exact ⟨rfl, HB8.out⟩
end Go.Proofs.Ytccfbkbfmkdapaa
