/-
  HuffPrefix: for every row of lengths and every number the law returns true and its arguments read as before. No condition.
-/
import Derived.Test.YthgehgdbplbcfaaAR
import Derived.Test.YthgehgdbplbcfaaPa
namespace Go.Proofs.Ythgehgdbplbcfaa.huffPrefix
open Go.ChangeShapes Go.WideShapes Go.ChangeAt Go.RowKit

theorem walk_long (ao : Option Addr) (L c : Nat) (mo : Int) (w : World) (hl : 320 < L) :
    Calls Try.prog 6 #[.slice ao L c, .int .u32 mo] w fun e w' => e = .returned (.bool true) ∧ Below w.heap.size w w' := by
  have hl' : (320 : Int) < L := by omega
  go_enter Try.func6, Try.ntmps6
  go_wp2_with fail
  refine (alive_any w).mono ?_
  rintro e w1 ⟨rfl, hb1⟩
  have HB := Lib.hid hb1
  clear hb1
  go_wp2
  go_ret
  exact ⟨rfl, HB.out⟩

theorem walk_err (ao : Option Addr) (c : Nat) (zs : List Int) (mo : Int) (w : World) (er : Int) (he : er = 11 ∨ er = 10) (hl : zs.length ≤ 320) (hN : ∀ W, Below w.heap.size w W → Calls Try.prog 12 #[.slice ao zs.length c] W fun e w' => e = .returned (.tuple #[.pointer none, .int .i64 er]) ∧ Below W.heap.size W w') :
    Calls Try.prog 6 #[.slice ao zs.length c, .int .u32 mo] w fun e w' => e = .returned (.bool true) ∧ Below w.heap.size w w' := by
  have HN := Lib.hid hN
  have hl' : (zs.length : Int) ≤ 320 := by omega
  clear hN
  rcases he with rfl | rfl
  all_goals
    go_enter Try.func6, Try.ntmps6
    go_wp2_with fail
    refine (alive_any w).mono ?_
    rintro e w1 ⟨rfl, hb1⟩
    have HB := Lib.hid hb1
    clear hb1
    go_wp2_with fail
    refine (HN.out _ HB.out).mono ?_
    rintro e w2 ⟨rfl, hb2⟩
    have HB2 := Lib.hid (HB.out.trans (hb2.mono HB.out.size))
    clear hb2
    go_wp2
    go_ret
    exact ⟨rfl, HB2.out⟩

theorem walk (ao : Option Addr) (c : Nat) (zs : List Int) (mo : Int) (hmo : 0 ≤ mo) (w : World) (h : IS w ao zs) :
    Calls Try.prog 6 #[.slice ao zs.length c, .int .u32 mo] w fun e w' => e = .returned (.bool true) ∧ Below w.heap.size w w' := by
  by_cases hl : zs.length ≤ 320
  · by_cases hv : Vd zs
    · by_cases hm : room (nat zs) ≤ 32768
      · obtain ⟨m, rfl⟩ := Int.eq_ofNat_of_zero_le hmo
        exact prefix_ok ao c zs m w h hv hm
      · exact walk_err ao c zs mo w 10 (.inr rfl) hl fun W hb => New_form ao c zs W (h.below hb) hv (by omega)
    · exact walk_err ao c zs mo w 11 (.inl rfl) hl fun W hb => New_range ao c zs W (h.below hb) hv
  · exact walk_long ao zs.length c mo w (by omega)

set_option maxRecDepth 100000 in
theorem lifted (os : Os) (started : os.Started) (H : Type) (enc : TypeId × Value → H) :
    ReturnsInHanded {} Try.checked os 6 .any (Rows.huffPrefixSpec.pre6 enc Try.prog Try.f6 Rows.huffPrefixRow.domain false) (Rows.huffPrefixSpec.post enc Try.prog Try.f6 false true false false) := by
  refine returnsInHanded_of_change_shaped (C := Try.checked) own started (by kernel_rfl) Try.func6
    (ChangeSpec.witness6 (enc := enc) (C := Try.checked) false ⟨#[], #[.slice none 0 0, .int .u32 0], []⟩ 8 (by kernel_rfl) (by kernel_rfl) (by kernel_rfl) (by kernel_rfl)) ?_
  intro W base args ds gs before hval0 hW hcnd hsz hsh _
  have hval : ∀ (j : Nat) t v, Try.f6.params[j]? = some t → args[j]? = some v → Value.okWide Try.prog W .any base t v := hval0
  have hW' := hW
  obtain ⟨p, q, hA0, hV, rfl, hfz, hnd⟩ := hW
  have hA : DataW.TrodAll enc Try.prog W 0 (fun _ => true) true Try.f6.params.toList args.toList ds p := hA0
  rw [Try.params6] at hA hval
  obtain ⟨v0, vs0, d0, ds0, p0, q0, hargs, rfl, rfl, h0, r0⟩ := trodAll_cons hA
  obtain ⟨v1, vs1, d1, ds1, p1, q1, rfl, rfl, rfl, h1, r1⟩ := trodAll_cons r0
  obtain ⟨rfl, rfl, rfl⟩ := trodAll_nil r1
  obtain rfl : args = #[v0, v1] := by cases args; simp_all
  obtain ⟨rfl, rfl⟩ := trodVars_none hV
  obtain ⟨a0, len0, cap0, rfl⟩ := okWide_slice Try.underlying22 (hval 0 22 v0 rfl rfl)
  have k0 := h0
  have lt0 : ∀ x ∈ p0, x.block < W.heap.size := by obtain ⟨m, hm⟩ := k0; exact DataW.trod_lt m _ _ _ hm
  obtain ⟨ks0, rfl, hs0, hlm0⟩ : ∃ ks : List Int, ks.length = len0 ∧ IS W a0 ks ∧ ks.length ≤ maxLen := by
    obtain ⟨fuel, hf⟩ := h0
    exact is_open (by simpa [Value.cells] using hf)
  obtain ⟨N1, rfl, rfl, rfl, w1⟩ := open_int Try.underlying35 (hval 1 35 v1 rfl rfl) h1
  clear hA0 hval0
  refine (walk a0 cap0 ks0 N1 (bounds_u32 w1).1 W hs0).mono fun e W' ⟨he, bel⟩ => ?_
  subst he
  exact ⟨_, rfl, _, _, _, [], _, [], hW', trodAll_mk1 (shut_bool Try.underlying4 _), (trodAll_cons_mk (Below.trod laidOut (by kernel_rfl) (of_decide_eq_true (by kernel_rfl)) k0 bel lt0) (trodAll_cons_mk (shut_int Try.underlying35 w1) trodAll_mk0)), rfl, bel.frame _, fun h => by cases h⟩

theorem over : Rows.huffPrefixRow.holds Try.pinned (OpenSpec.ofChange Rows.huffPrefixSpec) :=
  OpenClaim.holds_of_wide 6 Try.f6 rfl rfl rfl rfl rfl rfl rfl ⟨rfl, rfl, rfl, rfl, rfl⟩ rfl rfl rfl rfl rfl (by kernel_rfl) Try.func6 (by kernel_rfl)
    (of_decide_eq_true (by kernel_rfl)) (by unfold Func.isWrapper; first | (rw [if_pos (by decide +kernel)]; kernel_rfl) | (rw [if_neg (by decide +kernel)]; exact ⟨rfl, rfl⟩))
    (fun os started H enc _ => lifted os started H enc)

theorem proved : Rows.HuffPrefixSaid := over
#print axioms proved
end Go.Proofs.Ythgehgdbplbcfaa.huffPrefix
