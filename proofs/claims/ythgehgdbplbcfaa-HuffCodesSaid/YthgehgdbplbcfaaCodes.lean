/-
  HuffCodes: for every row of lengths and every row of counts the law returns true and its arguments read as before. No condition.
-/
import Derived.Test.YthgehgdbplbcfaaAR
import Derived.Test.YthgehgdbplbcfaaCa
namespace Go.Proofs.Ythgehgdbplbcfaa.huffCodes
open Go.ChangeShapes Go.WideShapes Go.ChangeAt Go.RowKit

section
variable {H : Type} {enc : TypeId × Value → H} {w : World} {base : Nat} {spare : Nat → Bool} {held : Bool} {fuel : Nat}
theorem is_open0 {a : Option Addr} {len cap : Nat} {y : DataW H × List MemPlace}
    (h : DataW.trod enc Try.prog w base spare held fuel 22 [.slice a len cap] = some y) : ∃ zs : List Int, zs.length = len ∧ IS w a zs ∧ (a = none → cap = 0) := by
  obtain ⟨zs, h1, h2, _⟩ := is_open h
  refine ⟨zs, h1, h2, fun e => ?_⟩
  rcases open_ints Try.underlying22 Try.underlying3 (by kernel_rfl) h with ⟨hcs, _⟩ | ⟨ad, l, c, ys, hcs, _⟩
  · simp at hcs
    exact hcs.2.2
  · simp at hcs
    rw [e] at hcs
    cases hcs.1
end

set_option maxRecDepth 100000 in
theorem walk_long (ao : Option Addr) (L c : Nat) (ao2 : Option Addr) (L2 c2 : Nat) (w : World) (hl : 400 < L ∨ 400 < L2) :
    Calls Try.prog 3 #[.slice ao L c, .slice ao2 L2 c2] w fun e w' => e = .returned (.bool true) ∧ Below w.heap.size w w' := by
  have HA := Lib.hid (alive_any w)
  by_cases h1 : 400 < L
  · have hl' : (400 : Int) < L := by omega
    clear hl
    go_enter Try.func3, Try.ntmps3
    go_wp2_with fail
    refine HA.out.mono ?_
    rintro e w1 ⟨rfl, hb1⟩
    have HB := Lib.hid hb1
    clear hb1
    go_wp2
    go_ret
    exact ⟨rfl, HB.out⟩
  · have d1 : decide ((400 : Int) < L) = false := by simp; omega
    have hl' : (400 : Int) < L2 := by omega
    clear hl
    go_enter Try.func3, Try.ntmps3
    go_wp2_with fail
    refine HA.out.mono ?_
    rintro e w1 ⟨rfl, hb1⟩
    have HB := Lib.hid hb1
    clear hb1
    go_wp2
    go_ret
    exact ⟨rfl, HB.out⟩

set_option maxRecDepth 100000 in
theorem walk_err (ao : Option Addr) (c : Nat) (zs : List Int) (ao2 : Option Addr) (L2 c2 : Nat) (w : World) (h : IS w ao zs) (hc : zs = [] → ao = none → c = 0) (er : Int) (he : er = 11 ∨ er = 10) (rm : Nat) (rb : Bool) (hl : zs.length ≤ 400) (hl2 : L2 ≤ 400)
    (hRo : ∀ oo oc W, IS W oo zs → Calls Try.prog 10 #[.slice oo zs.length oc] W fun e w' => e = .returned (.tuple #[.int .i64 rm, .bool rb]) ∧ Below W.heap.size W w')
    (hRr : ∀ oo oc W, IS W oo zs → Calls Try.prog 11 #[.slice oo zs.length oc] W fun e w' => e = .returned (.tuple #[.int .i64 rm, .bool rb]) ∧ W = w')
    (hN : ∀ oo oc W, IS W oo zs → Calls Try.prog 12 #[.slice oo zs.length oc] W fun e w' => e = .returned (.tuple #[.pointer none, .int .i64 er]) ∧ Below W.heap.size W w')
    (hR : ∀ oo oc W, IS W oo zs → Calls Try.prog 13 #[.slice oo zs.length oc] W fun e w' => e = .returned (.tuple #[.pointer none, .int .i64 er]) ∧ W = w') :
    Calls Try.prog 3 #[.slice ao zs.length c, .slice ao2 L2 c2] w fun e w' => e = .returned (.bool true) ∧ Below w.heap.size w w' := by
  have HI := Lib.hid h
  have HC := Lib.hid hc
  have HRo := Lib.hid hRo
  have HRr := Lib.hid hRr
  have HN := Lib.hid hN
  have HR := Lib.hid hR
  have hl' : (zs.length : Int) ≤ 400 := by omega
  have hl2' : (L2 : Int) ≤ 400 := by omega
  have hrm : ((rm : Int) != rm) = false := by simp
  have hrb : (rb != rb) = false := by simp
  clear h hc hRo hRr hN hR
  rcases he with rfl | rfl
  all_goals
    go_enter Try.func3, Try.ntmps3
    go_wp2_with fail
    refine (alive_any w).mono ?_
    rintro e w1 ⟨rfl, hb1⟩
    go_wp2_with fail
    refine (copy_any ao c zs _ (HI.out.below hb1) HC.out (by omega)).mono ?_
    rintro e w2 ⟨oo, oc, rfl, his, hb2⟩
    have hb12 := hb1.trans (hb2.mono hb1.size)
    go_wp2_with fail
    refine (HRo.out oo oc _ his).mono ?_
    rintro e w3 ⟨rfl, hb3⟩
    have hb13 := hb12.trans (hb3.mono hb12.size)
    go_wp2_with fail
    refine (HRr.out ao c _ (HI.out.below hb13)).mono ?_
    rintro e w4 ⟨rfl, rfl⟩
    go_wp2_with fail
    refine (HN.out oo oc _ (his.below hb3)).mono ?_
    rintro e w4 ⟨rfl, hb4⟩
    have hb14 := hb13.trans (hb4.mono hb13.size)
    go_wp2_with fail
    refine (HR.out ao c _ (HI.out.below hb14)).mono ?_
    rintro e w5 ⟨rfl, rfl⟩
    have HIS := Lib.hid ((his.below hb3).below hb4)
    have HI4 := Lib.hid (HI.out.below hb14)
    have HB4 := Lib.hid hb14
    clear hb1 his hb2 hb12 hb3 hb13 hb4 hb14
    go_wp2_with (go_at_call 14; (refine (same_any oo ao oc c zs _ HIS.out HI4.out (by omega)).mono ?_); rintro e w6 ⟨rfl, q, rfl⟩)
    go_ret
    exact ⟨rfl, below_drewN HB4.out _⟩

theorem walk (ao : Option Addr) (c : Nat) (zs : List Int) (ao2 : Option Addr) (c2 : Nat) (cs : List Int) (w : World) (h : IS w ao zs) (hc : ao = none → c = 0) (h2 : IS w ao2 cs) :
    Calls Try.prog 3 #[.slice ao zs.length c, .slice ao2 cs.length c2] w fun e w' => e = .returned (.bool true) ∧ Below w.heap.size w w' := by
  by_cases hl : zs.length ≤ 400 ∧ cs.length ≤ 400
  · by_cases hv : Vd zs
    · by_cases hm : room (nat zs) ≤ 32768
      · exact codes_ok ao c zs ao2 c2 cs w h (fun _ => hc) h2 hv hm hl.2
      · exact walk_err ao c zs ao2 cs.length c2 w h (fun _ => hc) 10 (.inr rfl) (room (nat zs)) true hl.1 hl.2 (fun oo oc W hi => Room_yes oo oc zs W hi hv) (fun oo oc W hi => rroom_yes oo oc zs W hi hv) (fun oo oc W hi => New_form oo oc zs W hi hv (by omega)) (fun oo oc W hi => rnew_form oo oc zs W hi hv (by omega))
    · exact walk_err ao c zs ao2 cs.length c2 w h (fun _ => hc) 11 (.inl rfl) 0 false hl.1 hl.2 (fun oo oc W hi => Room_no oo oc zs W hi hv) (fun oo oc W hi => rroom_no oo oc zs W hi hv) (fun oo oc W hi => New_range oo oc zs W hi hv) (fun oo oc W hi => rnew_range oo oc zs W hi hv)
  · exact walk_long ao zs.length c ao2 cs.length c2 w (by omega)

set_option maxRecDepth 100000 in
theorem lifted (os : Os) (started : os.Started) (H : Type) (enc : TypeId × Value → H) :
    ReturnsInHanded {} Try.checked os 3 .any (Rows.huffCodesSpec.pre6 enc Try.prog Try.f3 Rows.huffCodesRow.domain false) (Rows.huffCodesSpec.post enc Try.prog Try.f3 false true false false) := by
  refine returnsInHanded_of_change_shaped (C := Try.checked) own started (by kernel_rfl) Try.func3
    (ChangeSpec.witness6 (enc := enc) (C := Try.checked) false ⟨#[], #[.slice none 0 0, .slice none 0 0], []⟩ 8 (by kernel_rfl) (by kernel_rfl) (by kernel_rfl) (by kernel_rfl)) ?_
  intro W base args ds gs before hval0 hW hcnd hsz hsh _
  have hval : ∀ (j : Nat) t v, Try.f3.params[j]? = some t → args[j]? = some v → Value.okWide Try.prog W .any base t v := hval0
  have hW' := hW
  obtain ⟨p, q, hA0, hV, rfl, hfz, hnd⟩ := hW
  have hA : DataW.TrodAll enc Try.prog W 0 (fun _ => true) true Try.f3.params.toList args.toList ds p := hA0
  rw [Try.params3] at hA hval
  obtain ⟨v0, vs0, d0, ds0, p0, q0, hargs, rfl, rfl, h0, r0⟩ := trodAll_cons hA
  obtain ⟨v1, vs1, d1, ds1, p1, q1, rfl, rfl, rfl, h1, r1⟩ := trodAll_cons r0
  obtain ⟨rfl, rfl, rfl⟩ := trodAll_nil r1
  obtain rfl : args = #[v0, v1] := by cases args; simp_all
  obtain ⟨rfl, rfl⟩ := trodVars_none hV
  obtain ⟨a0, len0, cap0, rfl⟩ := okWide_slice Try.underlying22 (hval 0 22 v0 rfl rfl)
  have k0 := h0
  have lt0 : ∀ x ∈ p0, x.block < W.heap.size := by obtain ⟨m, hm⟩ := k0; exact DataW.trod_lt m _ _ _ hm
  obtain ⟨ks0, rfl, hs0, hlm0⟩ : ∃ ks : List Int, ks.length = len0 ∧ IS W a0 ks ∧ (a0 = none → cap0 = 0) := by
    obtain ⟨fuel, hf⟩ := h0
    exact is_open0 (by simpa [Value.cells] using hf)
  obtain ⟨a1, len1, cap1, rfl⟩ := okWide_slice Try.underlying22 (hval 1 22 v1 rfl rfl)
  have k1 := h1
  have lt1 : ∀ x ∈ p1, x.block < W.heap.size := by obtain ⟨m, hm⟩ := k1; exact DataW.trod_lt m _ _ _ hm
  obtain ⟨ks1, rfl, hs1, hlm1⟩ : ∃ ks : List Int, ks.length = len1 ∧ IS W a1 ks ∧ (a1 = none → cap1 = 0) := by
    obtain ⟨fuel, hf⟩ := h1
    exact is_open0 (by simpa [Value.cells] using hf)
  clear hA0 hval0
  refine (walk a0 cap0 ks0 a1 cap1 ks1 W hs0 hlm0 hs1).mono fun e W' ⟨he, bel⟩ => ?_
  subst he
  exact ⟨_, rfl, _, _, _, [], _, [], hW', trodAll_mk1 (shut_bool Try.underlying4 _), (trodAll_cons_mk (Below.trod laidOut (by kernel_rfl) (of_decide_eq_true (by kernel_rfl)) k0 bel lt0) (trodAll_cons_mk (Below.trod laidOut (by kernel_rfl) (of_decide_eq_true (by kernel_rfl)) k1 bel lt1) trodAll_mk0)), rfl, bel.frame _, fun h => by cases h⟩

theorem over : Rows.huffCodesRow.holds Try.pinned (OpenSpec.ofChange Rows.huffCodesSpec) :=
  OpenClaim.holds_of_wide 3 Try.f3 rfl rfl rfl rfl rfl rfl rfl ⟨rfl, rfl, rfl, rfl, rfl⟩ rfl rfl rfl rfl rfl (by kernel_rfl) Try.func3 (by kernel_rfl)
    (of_decide_eq_true (by kernel_rfl)) (by unfold Func.isWrapper; first | (rw [if_pos (by decide +kernel)]; kernel_rfl) | (rw [if_neg (by decide +kernel)]; exact ⟨rfl, rfl⟩))
    (fun os started H enc _ => lifted os started H enc)

theorem proved : Rows.HuffCodesSaid := over
#print axioms proved
end Go.Proofs.Ythgehgdbplbcfaa.huffCodes
