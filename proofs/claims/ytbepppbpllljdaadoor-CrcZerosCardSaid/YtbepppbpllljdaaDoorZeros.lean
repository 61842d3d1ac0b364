/-
  CrcZeros: for every sum and every n, m the law returns true and its arguments read as before: no condition beyond the library's table as its initialiser lays it (tied).
-/
import Derived.Test.YtbepppbpllljdaaDoorK
namespace Go.Proofs.YtbepppbpllljdaaDoor.crcZeros
open Go.ChangeShapes Go.WideShapes Go.ChangeAt Go.RowKit CrcPlain
set_option linter.unusedVariables false

theorem walk_bad (s : BitVec 32) (n m : Int) (h : n < 0 ∨ (0 ≤ n ∧ m < 0) ∨ (0 ≤ n ∧ 0 ≤ m ∧ 1152921504606846976 < n) ∨ (0 ≤ n ∧ 0 ≤ m ∧ n ≤ 1152921504606846976 ∧ 1152921504606846976 < m)) (w : World) (hT : Tab w) :
    Calls Tryd.prog 6 #[.int .u32 (s.toNat : Int), .int .i64 n, .int .i64 m] w fun e w' => e = .returned (.bool true) ∧ Below w.heap.size w w' := by
  have HT := Lib.hid hT
  have HA := Lib.hid (alive_any w hT)
  clear hT
  have d1 : 0 ≤ n → decide (n < 0) = false := fun h => by simp; omega
  have d2 : 0 ≤ m → decide (m < 0) = false := fun h => by simp; omega
  have d3 : n ≤ 1152921504606846976 → decide (1152921504606846976 < n) = false := fun h => by simp; omega
  rcases h with h1 | ⟨h1, h2⟩ | ⟨h1, h2, h3⟩ | ⟨h1, h2, h3, h4⟩
  · clear d1 d2 d3
    go_enter Tryd.func6, Tryd.ntmps6
    go_wp2_with (first
      | (go_at_call 8; refine HA.out.mono ?_; rintro e w1 ⟨rfl, hb1⟩; have HB1 := Lib.hid hb1; clear hb1)
      | (go_at_call 15; refine (join_0 s _ (HT.out.below HB1.out)).mono ?_; rintro e w2 ⟨rfl, hb2⟩; have HB2 := Lib.hid (HB1.out.trans (hb2.mono HB1.out.size)); clear hb2))
    go_ret
    exact ⟨by simp, HB2.out⟩
  · have e1 := d1 h1
    clear d1 d2 d3
    go_enter Tryd.func6, Tryd.ntmps6
    go_wp2_with (first
      | (go_at_call 8; refine HA.out.mono ?_; rintro e w1 ⟨rfl, hb1⟩; have HB1 := Lib.hid hb1; clear hb1)
      | (go_at_call 15; refine (join_0 s _ (HT.out.below HB1.out)).mono ?_; rintro e w2 ⟨rfl, hb2⟩; have HB2 := Lib.hid (HB1.out.trans (hb2.mono HB1.out.size)); clear hb2))
    go_ret
    exact ⟨by simp, HB2.out⟩
  · have e1 := d1 h1
    have e2 := d2 h2
    clear d1 d2 d3
    go_enter Tryd.func6, Tryd.ntmps6
    go_wp2_with (first
      | (go_at_call 8; refine HA.out.mono ?_; rintro e w1 ⟨rfl, hb1⟩; have HB1 := Lib.hid hb1; clear hb1)
      | (go_at_call 15; refine (join_0 s _ (HT.out.below HB1.out)).mono ?_; rintro e w2 ⟨rfl, hb2⟩; have HB2 := Lib.hid (HB1.out.trans (hb2.mono HB1.out.size)); clear hb2))
    go_ret
    exact ⟨by simp, HB2.out⟩
  · have e1 := d1 h1
    have e2 := d2 h2
    have e3 := d3 h3
    clear d1 d2 d3
    go_enter Tryd.func6, Tryd.ntmps6
    go_wp2_with (first
      | (go_at_call 8; refine HA.out.mono ?_; rintro e w1 ⟨rfl, hb1⟩; have HB1 := Lib.hid hb1; clear hb1)
      | (go_at_call 15; refine (join_0 s _ (HT.out.below HB1.out)).mono ?_; rintro e w2 ⟨rfl, hb2⟩; have HB2 := Lib.hid (HB1.out.trans (hb2.mono HB1.out.size)); clear hb2))
    go_ret
    exact ⟨by simp, HB2.out⟩

set_option maxHeartbeats 800000 in
theorem walk_good (s : BitVec 32) (n m : Int) (h1 : 0 ≤ n) (h2 : 0 ≤ m) (h3 : n ≤ 1152921504606846976) (h4 : m ≤ 1152921504606846976) (w : World) (hT : Tab w) :
    Calls Tryd.prog 6 #[.int .u32 (s.toNat : Int), .int .i64 n, .int .i64 m] w fun e w' => e = .returned (.bool true) ∧ Below w.heap.size w w' := by
  have HT := Lib.hid hT
  have HA := Lib.hid (alive_any w hT)
  clear hT
  have e1 : decide (n < 0) = false := by simp; omega
  have e2 : decide (m < 0) = false := by simp; omega
  have e3 : decide (1152921504606846976 < n) = false := by simp; omega
  have e4 : decide (1152921504606846976 < m) = false := by simp; omega
  obtain ⟨V1, hV1⟩ : ∃ V, zeros s n.toNat = V := ⟨_, rfl⟩
  obtain ⟨V2, hV2⟩ : ∃ V, zeros V1 m.toNat = V := ⟨_, rfl⟩
  obtain ⟨V0, hV0⟩ : ∃ V, zeros 0#32 n.toNat = V := ⟨_, rfl⟩
  have hV3 : zeros s (n + m).toNat = V2 := by
    rw [← hV2, ← hV1, zeros_zeros]
    congr 1
    omega
  have hJ : join s V0 n.toNat = V1 := by rw [← hV0, ← hV1, join_zeros]
  have K1 := Lib.hid (zeros_v s V1 n (by omega) hV1)
  have K2 := Lib.hid (zeros_v V1 V2 m (by omega) hV2)
  have K3 := Lib.hid (zeros_v s V2 (n + m) (by omega) hV3)
  have K4 := Lib.hid (zeros_0 V0 n (by omega) hV0)
  have K5 := Lib.hid (join_v s V0 V1 n (by omega) hJ)
  clear hV1 hV2 hV0 hV3 hJ
  go_enter Tryd.func6, Tryd.ntmps6
  go_wp2_with fail
  refine HA.out.mono ?_
  rintro e w1 ⟨rfl, hb1⟩
  have HB := Lib.hid hb1
  clear hb1
  go_wp2_with fail
  refine (K1.out _ (HT.out.below HB.out)).mono ?_
  rintro e w2 ⟨rfl, hb2⟩
  have HB := Lib.hid (HB.out.trans (hb2.mono HB.out.size))
  clear hb2
  go_wp2_with fail
  refine (K2.out _ (HT.out.below HB.out)).mono ?_
  rintro e w2 ⟨rfl, hb2⟩
  have HB := Lib.hid (HB.out.trans (hb2.mono HB.out.size))
  clear hb2
  go_wp2_with fail
  refine (K3.out _ (HT.out.below HB.out)).mono ?_
  rintro e w2 ⟨rfl, hb2⟩
  have HB := Lib.hid (HB.out.trans (hb2.mono HB.out.size))
  clear hb2
  go_wp2_with fail
  refine (join_0 s _ (HT.out.below HB.out)).mono ?_
  rintro e w2 ⟨rfl, hb2⟩
  have HB := Lib.hid (HB.out.trans (hb2.mono HB.out.size))
  clear hb2
  go_wp2_with fail
  refine (K4.out _ (HT.out.below HB.out)).mono ?_
  rintro e w2 ⟨rfl, hb2⟩
  have HB := Lib.hid (HB.out.trans (hb2.mono HB.out.size))
  clear hb2
  go_wp2_with fail
  refine (K5.out _ (HT.out.below HB.out)).mono ?_
  rintro e w2 ⟨rfl, hb2⟩
  have HB := Lib.hid (HB.out.trans (hb2.mono HB.out.size))
  clear hb2
  go_wp2_with fail
  refine (K1.out _ (HT.out.below HB.out)).mono ?_
  rintro e w2 ⟨rfl, hb2⟩
  have HB := Lib.hid (HB.out.trans (hb2.mono HB.out.size))
  clear hb2
  go_wp2_with fail
  go_ret
  exact ⟨by simp, HB.out⟩

theorem walk (a0 a1 a2 : Int) (w0 : (Lit.int .u32 a0).wf = true) (w : World) (hT : Tab w) :
    Calls Tryd.prog 6 #[.int .u32 a0, .int .i64 a1, .int .i64 a2] w fun e w' => e = .returned (.bool true) ∧ Below w.heap.size w w' := by
  obtain ⟨s, rfl⟩ := u32_of w0
  by_cases h1 : a1 < 0
  · exact walk_bad s a1 a2 (.inl h1) w hT
  by_cases h2 : a2 < 0
  · exact walk_bad s a1 a2 (.inr (.inl ⟨by omega, h2⟩)) w hT
  by_cases h3 : 1152921504606846976 < a1
  · exact walk_bad s a1 a2 (.inr (.inr (.inl ⟨by omega, by omega, h3⟩))) w hT
  by_cases h4 : 1152921504606846976 < a2
  · exact walk_bad s a1 a2 (.inr (.inr (.inr ⟨by omega, by omega, by omega, h4⟩))) w hT
  exact walk_good s a1 a2 (by omega) (by omega) (by omega) (by omega) w hT

set_option maxRecDepth 100000 in
theorem lifted (os : Os) (started : os.Started) (H : Type) (enc : TypeId × Value → H) :
    ReturnsInHanded {} Tryd.checked os 6 .any (fun w args => (Rows.crcZerosSpec.pre enc Tryd.prog Tryd.f6 Rows.crcZerosRow.domain false w args ∧ laidMetH Tryd.prog laidL w) ∧ sizedMet enc Tryd.prog Tryd.f6 (OpenSpec.ofChange Rows.crcZerosSpec) false w args)
      (Rows.crcZerosSpec.post enc Tryd.prog Tryd.f6 false true false false) := by
  refine returnsInHanded_of_change_and (C := Tryd.checked) (X := fun w _ => laidMetH Tryd.prog laidL w) (fun _ _ _ hh h => h.of_heap hh) own started (by kernel_rfl) Tryd.func6
    (ChangeSpec.witness_shaped (enc := enc) (C := Tryd.checked) (os := os) (X := fun w _ => laidMetH Tryd.prog laidL w) false (World.laidAll Tryd.prog os laidL) #[.int .u32 0, .int .i64 0, .int .i64 0] 8 (World.laidAll_os _ _ _)
      (World.shaped_of_ZipB (by kernel_rfl) (by kernel_rfl)) (by kernel_rfl) (by kernel_rfl) (by kernel_rfl)
      (by rw [MakeChecks.laidMetH_plain _ _ _ (by kernel_rfl)]; exact laidMet_laidAll _ (by kernel_rfl) (by kernel_rfl))) ?_
  intro W base args ds gs before hval0 hW hcnd _ hL _
  have hval : ∀ (j : Nat) t v, Tryd.f6.params[j]? = some t → args[j]? = some v → Value.okWide Tryd.prog W .any base t v := hval0
  have hW' := hW
  obtain ⟨p, q, hA0, hV, rfl, hfz, hnd⟩ := hW
  have hA : DataW.TrodAll enc Tryd.prog W 0 (fun _ => true) true Tryd.f6.params.toList args.toList ds p := hA0
  rw [Tryd.params6] at hA hval
  obtain ⟨v0, vs0, d0, ds0, p0, q0, hargs, rfl, rfl, h0, r0⟩ := trodAll_cons hA
  obtain ⟨v1, vs1, d1, ds1, p1, q1, rfl, rfl, rfl, h1, r1⟩ := trodAll_cons r0
  obtain ⟨v2, vs2, d2, ds2, p2, q2, rfl, rfl, rfl, h2, r2⟩ := trodAll_cons r1
  obtain ⟨rfl, rfl, rfl⟩ := trodAll_nil r2
  obtain rfl : args = #[v0, v1, v2] := by cases args; simp_all
  obtain ⟨rfl, rfl⟩ := trodVars_none hV
  obtain ⟨a0, rfl, rfl, rfl, w0⟩ := open_int Tryd.underlying23 (hval 0 23 v0 rfl rfl) h0
  obtain ⟨a1, rfl, rfl, rfl, w1⟩ := open_int Tryd.underlying3 (hval 1 3 v1 rfl rfl) h1
  obtain ⟨a2, rfl, rfl, rfl, w2⟩ := open_int Tryd.underlying3 (hval 2 3 v2 rfl rfl) h2
  clear hA0 hval0
  simp only [List.append_nil] at hW'
  refine (walk a0 a1 a2 w0 W (tab_of hL)).mono fun e W' ⟨he, bel⟩ => ?_
  subst he
  exact ⟨_, rfl, _, _, _, [], _, [], hW', trodAll_mk1 (shut_bool Tryd.underlying4 _), (trodAll_cons_mk (shut_int Tryd.underlying23 w0) (trodAll_cons_mk (shut_int Tryd.underlying3 w1) (trodAll_cons_mk (shut_int Tryd.underlying3 w2) trodAll_mk0))), rfl, bel.frame _, fun h => by cases h⟩

theorem over : Rows.CrcZerosSaid :=
  OpenClaim.holds_of_wide 6 Tryd.f6 rfl rfl rfl rfl rfl rfl rfl ⟨rfl, rfl, rfl, rfl, rfl⟩ rfl rfl rfl rfl rfl (by kernel_rfl) Tryd.func6 (by kernel_rfl)
    (of_decide_eq_true (by kernel_rfl)) (by unfold Func.isWrapper; first | (rw [if_pos (by decide +kernel)]; kernel_rfl) | (rw [if_neg (by decide +kernel)]; exact ⟨rfl, rfl⟩))
    (fun os started H enc _ => lifted os started H enc)

theorem proved : Rows.CrcZerosCardSaid :=
  Claim7.holds_tied_plain_at .later [] [.data] true (true, "20957510d71f0a5438c86a55afcdcc118aef857bddc52df28076e0f755965a9c") false over (fun _ h => by cases h) (by kernel_rfl) (fun _ h => by cases h) crcZeros_row_tie rfl ⟨rfl, rfl⟩ (by kernel_rfl) rfl
    (fun f fn hf hfn => by
      obtain rfl : f = 6 := Option.some.inj ((show Tryd.prog.funcNamed "etui/etuilaw02.CrcZeros" = some 6 by kernel_rfl).symm.trans hf) |>.symm
      obtain rfl : fn = Tryd.f6 := (Option.some.inj (Tryd.func6.symm.trans hfn)).symm
      exact ⟨by kernel_rfl, fun j t ht => by
        rw [Tryd.params6] at ht
        have hm : t ∈ [23, 3] := by have := Array.mem_of_getElem? ht; simp at this ⊢; omega
        have hall : ([23, 3].all fun u => !Tryd.prog.wantsStandIn u) = true := by kernel_rfl
        exact (show Tryd.prog.wantsStandIn t = false by simpa using List.all_eq_true.1 hall t hm)⟩)
    (by kernel_rfl)
#print axioms proved
end Go.Proofs.YtbepppbpllljdaaDoor.crcZeros
