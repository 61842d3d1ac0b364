/-
  HuffBack: for every row of lengths and every row of symbols the law returns true and its arguments read as before. No condition.
-/
import Derived.Test.YthgehgdbplbcfaaAR
import Derived.Test.YthgehgdbplbcfaaBb
namespace Go.Proofs.Ythgehgdbplbcfaa.huffBack
open Go.ChangeShapes Go.WideShapes Go.ChangeAt Go.RowKit

theorem walk_long (ao : Option Addr) (L c : Nat) (ao2 : Option Addr) (L2 c2 : Nat) (w : World) (hl : 320 < L ∨ 200 < L2) :
    Calls Try.prog 5 #[.slice ao L c, .slice ao2 L2 c2] w fun e w' => e = .returned (.bool true) ∧ Below w.heap.size w w' := by
  have HA := Lib.hid (alive_any w)
  by_cases h1 : 320 < L
  · have hl' : (320 : Int) < L := by omega
    clear hl
    go_enter Try.func5, Try.ntmps5
    go_wp2_with fail
    refine HA.out.mono ?_
    rintro e w1 ⟨rfl, hb1⟩
    have HB := Lib.hid hb1
    clear hb1
    go_wp2
    go_ret
    exact ⟨rfl, HB.out⟩
  · have d1 : decide ((320 : Int) < L) = false := by simp; omega
    have hl' : (200 : Int) < L2 := by omega
    clear hl
    go_enter Try.func5, Try.ntmps5
    go_wp2_with fail
    refine HA.out.mono ?_
    rintro e w1 ⟨rfl, hb1⟩
    have HB := Lib.hid hb1
    clear hb1
    go_wp2
    go_ret
    exact ⟨rfl, HB.out⟩

theorem walk_err (ao : Option Addr) (c : Nat) (zs : List Int) (ao2 : Option Addr) (L2 c2 : Nat) (w : World) (er : Int) (he : er = 11 ∨ er = 10) (hl : zs.length ≤ 320) (hl2 : L2 ≤ 200) (hN : ∀ W, Below w.heap.size w W → Calls Try.prog 12 #[.slice ao zs.length c] W fun e w' => e = .returned (.tuple #[.pointer none, .int .i64 er]) ∧ Below W.heap.size W w') :
    Calls Try.prog 5 #[.slice ao zs.length c, .slice ao2 L2 c2] w fun e w' => e = .returned (.bool true) ∧ Below w.heap.size w w' := by
  have HN := Lib.hid hN
  have hl' : (zs.length : Int) ≤ 320 := by omega
  have hl2' : (L2 : Int) ≤ 200 := by omega
  clear hN
  rcases he with rfl | rfl
  all_goals
    go_enter Try.func5, Try.ntmps5
    go_wp2_with fail
    refine (alive_any w).mono ?_
    rintro e w1 ⟨rfl, hb1⟩
    have HB := Lib.hid hb1
    clear hb1
    go_wp2_with fail
    refine (HN.out _ HB.out).mono ?_
    rintro e w2 ⟨rfl, hb2⟩
    have HB2 := Lib.hid (HB.out.trans (hb2.mono HB.out.size))
    clear hb2
    go_wp2
    go_ret
    exact ⟨rfl, HB2.out⟩

theorem walk (ao : Option Addr) (c : Nat) (zs : List Int) (ao2 : Option Addr) (c2 : Nat) (ys : List Int) (w : World) (h : IS w ao zs) (h2 : IS w ao2 ys) :
    Calls Try.prog 5 #[.slice ao zs.length c, .slice ao2 ys.length c2] w fun e w' => e = .returned (.bool true) ∧ Below w.heap.size w w' := by
  by_cases hl : zs.length ≤ 320 ∧ ys.length ≤ 200
  · by_cases hv : Vd zs
    · by_cases hm : room (nat zs) ≤ 32768
      · exact back_ok ao c zs ao2 c2 ys w h h2 hv hm hl.2
      · exact walk_err ao c zs ao2 ys.length c2 w 10 (.inr rfl) hl.1 hl.2 fun W hb => New_form ao c zs W (h.below hb) hv (by omega)
    · exact walk_err ao c zs ao2 ys.length c2 w 11 (.inl rfl) hl.1 hl.2 fun W hb => New_range ao c zs W (h.below hb) hv
  · exact walk_long ao zs.length c ao2 ys.length c2 w (by omega)

set_option maxRecDepth 100000 in
theorem lifted (os : Os) (started : os.Started) (H : Type) (enc : TypeId × Value → H) :
    ReturnsInHanded {} Try.checked os 5 .any (Rows.huffBackSpec.pre6 enc Try.prog Try.f5 Rows.huffBackRow.domain false) (Rows.huffBackSpec.post enc Try.prog Try.f5 false true false false) := by
  refine returnsInHanded_of_change_shaped (C := Try.checked) own started (by kernel_rfl) Try.func5
    (ChangeSpec.witness6 (enc := enc) (C := Try.checked) false ⟨#[], #[.slice none 0 0, .slice none 0 0], []⟩ 8 (by kernel_rfl) (by kernel_rfl) (by kernel_rfl) (by kernel_rfl)) ?_
  intro W base args ds gs before hval0 hW hcnd hsz hsh _
  have hval : ∀ (j : Nat) t v, Try.f5.params[j]? = some t → args[j]? = some v → Value.okWide Try.prog W .any base t v := hval0
  have hW' := hW
  obtain ⟨p, q, hA0, hV, rfl, hfz, hnd⟩ := hW
  have hA : DataW.TrodAll enc Try.prog W 0 (fun _ => true) true Try.f5.params.toList args.toList ds p := hA0
  rw [Try.params5] at hA hval
  obtain ⟨v0, vs0, d0, ds0, p0, q0, hargs, rfl, rfl, h0, r0⟩ := trodAll_cons hA
  obtain ⟨v1, vs1, d1, ds1, p1, q1, rfl, rfl, rfl, h1, r1⟩ := trodAll_cons r0
  obtain ⟨rfl, rfl, rfl⟩ := trodAll_nil r1
  obtain rfl : args = #[v0, v1] := by cases args; simp_all
  obtain ⟨rfl, rfl⟩ := trodVars_none hV
  obtain ⟨a0, len0, cap0, rfl⟩ := okWide_slice Try.underlying22 (hval 0 22 v0 rfl rfl)
  have k0 := h0
  have lt0 : ∀ x ∈ p0, x.block < W.heap.size := by obtain ⟨m, hm⟩ := k0; exact DataW.trod_lt m _ _ _ hm
  obtain ⟨ks0, rfl, hs0, hlm0⟩ : ∃ ks : List Int, ks.length = len0 ∧ IS W a0 ks ∧ ks.length ≤ maxLen := by
    obtain ⟨fuel, hf⟩ := h0
    exact is_open (by simpa [Value.cells] using hf)
  obtain ⟨a1, len1, cap1, rfl⟩ := okWide_slice Try.underlying22 (hval 1 22 v1 rfl rfl)
  have k1 := h1
  have lt1 : ∀ x ∈ p1, x.block < W.heap.size := by obtain ⟨m, hm⟩ := k1; exact DataW.trod_lt m _ _ _ hm
  obtain ⟨ks1, rfl, hs1, hlm1⟩ : ∃ ks : List Int, ks.length = len1 ∧ IS W a1 ks ∧ ks.length ≤ maxLen := by
    obtain ⟨fuel, hf⟩ := h1
    exact is_open (by simpa [Value.cells] using hf)
  clear hA0 hval0
  refine (walk a0 cap0 ks0 a1 cap1 ks1 W hs0 hs1).mono fun e W' ⟨he, bel⟩ => ?_
  subst he
  exact ⟨_, rfl, _, _, _, [], _, [], hW', trodAll_mk1 (shut_bool Try.underlying4 _), (trodAll_cons_mk (Below.trod laidOut (by kernel_rfl) (of_decide_eq_true (by kernel_rfl)) k0 bel lt0) (trodAll_cons_mk (Below.trod laidOut (by kernel_rfl) (of_decide_eq_true (by kernel_rfl)) k1 bel lt1) trodAll_mk0)), rfl, bel.frame _, fun h => by cases h⟩

theorem over : Rows.huffBackRow.holds Try.pinned (OpenSpec.ofChange Rows.huffBackSpec) :=
  OpenClaim.holds_of_wide 5 Try.f5 rfl rfl rfl rfl rfl rfl rfl ⟨rfl, rfl, rfl, rfl, rfl⟩ rfl rfl rfl rfl rfl (by kernel_rfl) Try.func5 (by kernel_rfl)
    (of_decide_eq_true (by kernel_rfl)) (by unfold Func.isWrapper; first | (rw [if_pos (by decide +kernel)]; kernel_rfl) | (rw [if_neg (by decide +kernel)]; exact ⟨rfl, rfl⟩))
    (fun os started H enc _ => lifted os started H enc)

theorem proved : Rows.HuffBackSaid := over
#print axioms proved
end Go.Proofs.Ythgehgdbplbcfaa.huffBack
