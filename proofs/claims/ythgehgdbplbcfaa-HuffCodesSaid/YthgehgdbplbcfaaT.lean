/-
  The law's first look, alive.
-/
import Derived.Test.YthgehgdbplbcfaaS
namespace Go.Proofs.Ythgehgdbplbcfaa
open Go.RowKit

theorem made_is (w : World) (zs : List Int) (cs : Array Value) (e : TypeId) (hcs : cs.toList = zs.map fun z => Value.int .i64 z) : IS (w.alloc (.cells cs e)) (some ⟨w.heap.size, 0, none⟩) zs := by
  refine .inr ⟨_, 0, rfl, fun j hj => ?_⟩
  rw [Nat.zero_add, World.cell?_alloc_at _ _ _ _ rfl]
  have : cs[j]? = cs.toList[j]? := by simp
  rw [this, hcs]
  simp [List.getD, hj]

theorem U.below {w w1 : World} (ht : Touch (U w.heap.size) w w1) : Below w.heap.size w w1 := ht.below (Nat.le_refl _) fun _ k => k
theorem WrT.below {w w1 : World} {pw N n : Nat} (hw : WrT w w1 w.heap.size pw N n) : Below w.heap.size w w1 := by
  obtain ⟨g, _, ht⟩ := hw
  exact U.below ht
theorem RdT.below {w w1 : World} {pr at_ : Nat} {bs : List Nat} (hr : RdT w w1 pr bs at_) : Below w.heap.size w w1 := by
  obtain ⟨g, _, ht⟩ := hr
  exact U.below ht

theorem vd212 : Vd [2, 1, 2] := ⟨by decide, by decide⟩
theorem vd111 : Vd [1, 1, 1] := ⟨by decide, by decide⟩
theorem wi_1 {bs : List Nat} (hb : Bs bs) (hw : WI bs 3) (hn : num bs = 1) : bs = [1] :=
  hw.same ⟨by simp, by simp, by simp [num]⟩ hb (Bs.one (by omega)) (by rw [hn]; rfl)

set_option maxHeartbeats 1600000 in
theorem alive_any (w : World) : Calls Try.prog 8 #[] w fun e w' => e = .returned (.bool true) ∧ Below w.heap.size w w' := by
  go_enter Try.func8, Try.ntmps8
  go_wp2_with fail
  refine (New_ok (some ⟨w.heap.size, 0, none⟩) 3 [2, 1, 2] _ (made_is w [2, 1, 2] _ _ rfl) vd212 (by decide)).mono ?_
  rintro e w1 ⟨p, rfl, hc, hb⟩
  have HC := Lib.hid hc
  have HB1 : Hid (Below w.heap.size w w1) := Lib.hid (((Below.refl _ _).alloc (Nat.le_refl _) _).trans (hb.mono (by simp)))
  clear hc hb
  go_wp2_with fail
  refine (Bits_yes p 2 _ _ HC.out (by decide) 3 2 (by decide) (by decide)).mono ?_
  rintro e w2 ⟨rfl, nq, rfl⟩
  go_wp2_with fail
  refine (newWriter_T (w := w1) (w1 := w1.drewN nq) (base := w1.heap.size) (Nat.le_refl _) ((Touch.refl _ w1).drewN nq)).mono ?_
  rintro e w3 ⟨pw, rfl, hw⟩
  have HW := Lib.hid hw
  clear hw
  go_wp2_with fail
  refine (Put_yes HC.out HW.out (by omega) 0 1 2 (by decide) (by decide) (by decide)).mono ?_
  rintro e w4 ⟨rfl, hw⟩
  have HW2 := Lib.hid hw
  clear hw HW
  go_wp2_with fail
  refine (Put_yes HC.out HW2.out (by omega) 1 1 3 (by decide) (by decide) (by decide)).mono ?_
  rintro e w5 ⟨rfl, hw⟩
  have HW3 := Lib.hid hw
  clear hw HW2
  go_wp2_with fail
  refine (Put_no HC.out HW3.out 3 (.inr (.inl (by decide)))).mono ?_
  rintro e w6 ⟨rfl, rfl⟩
  go_wp2_with fail
  refine (HW3.out.out (by omega)).mono ?_
  rintro e w6 ⟨bs, a, c, g, rfl, hbs, hwi, hn, hown, _, _, hU, _⟩
  obtain rfl := wi_1 hbs hwi hn
  have HO := Lib.hid (BySl.own hown)
  have HC6 := Lib.hid (HC.out.u hU)
  have HB6 : Hid (Below w.heap.size w w6) := Lib.hid (HB1.out.trans ((U.below hU).mono HB1.out.size))
  have HBS := Lib.hid hbs
  clear hown hU hwi hn hbs HW3 HC HB1
  go_wp2_with fail
  refine (newReader_T HO.out HBS.out (by simp)).mono ?_
  rintro e w7 ⟨pr, rfl, hr⟩
  have HR := Lib.hid hr
  clear hr
  go_wp2_with fail
  refine (Next_ok HC6.out HR.out (by simp) 0 ⟨by decide, by decide⟩ (by decide)).mono ?_
  rintro e w8 ⟨rfl, hr⟩
  have HR8 := Lib.hid hr
  clear hr HR
  go_wp2_with fail
  refine (Next_ok HC6.out HR8.out (by simp) 1 ⟨by decide, by decide⟩ (by decide)).mono ?_
  rintro e w9 ⟨rfl, hr⟩
  have HC9 := Lib.hid (RdT.code HC6.out hr)
  have HB9 : Hid (Below w.heap.size w w9) := Lib.hid (HB6.out.trans ((RdT.below hr).mono HB6.out.size))
  clear hr HR8 HC6 HB6 HO HBS
  go_wp2_with fail
  refine (New_form (some ⟨w9.heap.size, 0, none⟩) 3 [1, 1, 1] _ (made_is w9 [1, 1, 1] _ _ rfl) vd111 (by decide)).mono ?_
  rintro e w10 ⟨rfl, hb⟩
  have hb' : Below w9.heap.size w9 w10 := ((Below.refl _ _).alloc (Nat.le_refl _) _).trans (hb.mono (by simp))
  have HC10 := Lib.hid (HC9.out.below hb')
  have HB10 : Hid (Below w.heap.size w w10) := Lib.hid (HB9.out.trans (hb'.mono HB9.out.size))
  clear hb hb' HC9 HB9
  go_wp2_with fail
  refine (Complete_any p _ _ HC10.out).mono ?_
  rintro e w11 ⟨rfl, hb⟩
  rw [show decide (room (nat [2, 1, 2]) = 32768) = true by decide]
  have HC11 := Lib.hid (HC10.out.below hb)
  have HB11 : Hid (Below w.heap.size w w11) := Lib.hid (HB10.out.trans (hb.mono HB10.out.size))
  clear hb HC10 HB10
  go_wp2_with fail
  refine (Symbols_any p _ _ HC11.out).mono ?_
  rintro e w12 ⟨rfl, rfl⟩
  rw [show many (nat [2, 1, 2]) = 3 by decide]
  go_wp2_with fail
  refine (Cost_any p _ (some ⟨w11.heap.size, 0, none⟩) 3 [1, 10, 1] _ (HC11.out.below ((Below.refl _ _).alloc (Nat.le_refl _) _)) (made_is w11 [1, 10, 1] #[.int .i64 1, .int .i64 10, .int .i64 1] 3 rfl) (by decide)).mono ?_
  rintro e w13 ⟨rfl, rfl⟩
  rw [show cst (nat [2, 1, 2]) [1, 10, 1] (min ([1, 10, 1] : List Int).length (nat [2, 1, 2]).length) = 14 by decide]
  go_wp2_with fail
  go_ret
  exact ⟨rfl, HB11.out.alloc HB11.out.size _⟩
end Go.Proofs.Ythgehgdbplbcfaa
