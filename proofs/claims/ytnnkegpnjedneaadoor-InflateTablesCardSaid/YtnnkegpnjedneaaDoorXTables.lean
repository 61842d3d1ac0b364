import Derived.Test.YtnnkegpnjedneaaDoorX9
import Derived.Test.YtnnkegpnjedneaaDoorX10
/-
  InflateTables: for every number the law returns true and its argument reads as before: no condition beyond the program's table as its initialiser lays it (tied).
-/
namespace Go.Proofs.YtnnkegpnjedneaaDoor.inflateTables
open Go.ChangeShapes Go.WideShapes Go.ChangeAt Go.RowKit
set_option maxRecDepth 100000

theorem tells_is (o : Option (Nat × Nat)) : ∃ (a b : Int) (k : Bool), tells o = .tuple #[.int .i64 a, .int .i64 b, .bool k] := by
  cases o with
  | none => exact ⟨0, 0, false, rfl⟩
  | some x => exact ⟨_, _, true, rfl⟩

/-- What both sides answer. -/
theorem both (y : Int) : ∃ (a b : Int) (k : Bool) (a2 b2 : Int) (k2 : Bool), ∀ W,
    Calls Tryd.prog 14 #[.int .i64 y] W (fun e w' => e = .returned (.tuple #[.int .i64 a, .int .i64 b, .bool k]) ∧ W = w') ∧
    Calls Tryd.prog 15 #[.int .i64 y] W (fun e w' => e = .returned (.tuple #[.int .i64 a, .int .i64 b, .bool k]) ∧ W = w') ∧
    Calls Tryd.prog 16 #[.int .i64 y] W (fun e w' => e = .returned (.tuple #[.int .i64 a2, .int .i64 b2, .bool k2]) ∧ W = w') ∧
    Calls Tryd.prog 17 #[.int .i64 y] W (fun e w' => e = .returned (.tuple #[.int .i64 a2, .int .i64 b2, .bool k2]) ∧ W = w') := by
  by_cases h : y < 0
  · exact ⟨0, 0, false, 0, 0, false, fun W => ⟨Length_no y W (by omega), rLength_no y W (by omega), Distance_no y W (by omega), rDistance_no y W (by omega)⟩⟩
  · obtain ⟨n, rfl⟩ := Int.eq_ofNat_of_zero_le (show 0 ≤ y by omega)
    obtain ⟨a, b, k, h1⟩ := tells_is (lenOf n)
    obtain ⟨a2, b2, k2, h2⟩ := tells_is (disOf n)
    refine ⟨a, b, k, a2, b2, k2, fun W => ⟨?_, ?_, ?_, ?_⟩⟩
    · rw [← h1]; exact Length_any n W
    · rw [← h1]; exact rLength_any n W
    · rw [← h2]; exact Distance_any n W
    · rw [← h2]; exact rDistance_any n W

set_option maxHeartbeats 3200000 in
theorem walk (y : Int) (w : World) (hT : Tab w) : Calls Tryd.prog 4 #[.int .i64 y] w fun e w' => e = .returned (.bool true) ∧ Below w.heap.size w w' := by
  have HA := Lib.hid (alive_any w hT)
  obtain ⟨a, b, k, a2, b2, k2, hc⟩ := both y
  have HC := Lib.hid hc
  clear hT hc
  go_enter Tryd.func4, Tryd.ntmps4
  go_wp2_with fail
  refine HA.out.mono ?_
  rintro e w1 ⟨rfl, hb1⟩
  have B1 := Lib.hid hb1
  clear hb1
  go_wp2_with fail
  refine ((HC.out _).1).mono ?_
  rintro e w2 ⟨rfl, rfl⟩
  go_wp2_with fail
  refine ((HC.out _).2.1).mono ?_
  rintro e w2 ⟨rfl, rfl⟩
  go_wp2_with fail
  refine ((HC.out _).2.2.1).mono ?_
  rintro e w2 ⟨rfl, rfl⟩
  go_wp2_with fail
  refine ((HC.out _).2.2.2).mono ?_
  rintro e w2 ⟨rfl, rfl⟩
  go_wp2_with fail
  refine (Fixed_any _).mono ?_
  rintro e w3 ⟨o1, c1, o2, c2, rfl, i1, i2, b3⟩
  have I1 := Lib.hid i1
  have I2 := Lib.hid i2
  have B3 := Lib.hid (B1.out.on b3)
  clear i1 i2 b3
  go_wp2_with fail
  refine (rFixed_any _).mono ?_
  rintro e w4 ⟨o3, c3, o4, c4, rfl, j1, j2, b4⟩
  have I1' := Lib.hid (I1.out.below b4)
  have I2' := Lib.hid (I2.out.below b4)
  have J1 := Lib.hid j1
  have J2 := Lib.hid j2
  have B4 := Lib.hid (B3.out.on b4)
  clear j1 j2 b4 I1 I2
  have S1 := Lib.hid (by have := same_ints o1 o3 c1 c3 fixFZ w4 I1'.out J1.out (by rw [fixFZ_len]; omega); rwa [fixFZ_len] at this)
  go_wp2_with fail
  refine S1.out.mono ?_
  rintro e w5 ⟨rfl, q, hw⟩
  have b5 := below_drewN (Below.refl w4.heap.size w4) q
  rw [← hw] at b5
  have S2 := Lib.hid (by have := same_ints o2 o4 c2 c4 fixOZ w5 (I2'.out.below b5) (J2.out.below b5) (by rw [fixOZ_len]; omega); rwa [fixOZ_len] at this)
  have B5 := Lib.hid (B4.out.on b5)
  clear hw b5
  go_wp2_with fail
  refine S2.out.mono ?_
  rintro e w6 ⟨rfl, q2, hw⟩
  have b6 := below_drewN (Below.refl w5.heap.size w5) q2
  rw [← hw] at b6
  have B6 := Lib.hid (B5.out.on b6)
  clear hw b6
  go_wp2
  go_ret
  exact ⟨by simp, B6.out⟩

set_option maxRecDepth 100000 in
theorem lifted (os : Os) (started : os.Started) (H : Type) (enc : TypeId × Value → H) :
    ReturnsInHanded {} Tryd.checked os 4 .any (fun w args => (Rows.inflateTablesSpec.pre enc Tryd.prog Tryd.f4 Rows.inflateTablesRow.domain false w args ∧ laidMetH Tryd.prog laidL w) ∧ sizedMet enc Tryd.prog Tryd.f4 (OpenSpec.ofChange Rows.inflateTablesSpec) false w args)
      (Rows.inflateTablesSpec.post enc Tryd.prog Tryd.f4 false true false false) := by
  refine returnsInHanded_of_change_and (C := Tryd.checked) (X := fun w _ => laidMetH Tryd.prog laidL w) (fun _ _ _ hh h => h.of_heap hh) own started (by kernel_rfl) Tryd.func4
    (ChangeSpec.witness_shaped (enc := enc) (C := Tryd.checked) (os := os) (X := fun w _ => laidMetH Tryd.prog laidL w) false (World.laidAll Tryd.prog os laidL) #[.int .i64 0] 8 (World.laidAll_os _ _ _)
      (World.shaped_of_ZipB (by kernel_rfl) (by kernel_rfl)) (by kernel_rfl) (by kernel_rfl) (by kernel_rfl)
      (by rw [MakeChecks.laidMetH_plain _ _ _ (by kernel_rfl)]; exact laidMet_laidAll _ (by kernel_rfl) (by kernel_rfl))) ?_
  intro W base args ds gs before hval0 hW hcnd _ hL _
  have hval : ∀ (j : Nat) t v, Tryd.f4.params[j]? = some t → args[j]? = some v → Value.okWide Tryd.prog W .any base t v := hval0
  have hW' := hW
  obtain ⟨p, q, hA0, hV, rfl, hfz, hnd⟩ := hW
  have hA : DataW.TrodAll enc Tryd.prog W 0 (fun _ => true) true Tryd.f4.params.toList args.toList ds p := hA0
  rw [Tryd.params4] at hA hval
  obtain ⟨v0, vs0, d0, ds0, p0, q0, hargs, rfl, rfl, h0, r0⟩ := trodAll_cons hA
  obtain ⟨rfl, rfl, rfl⟩ := trodAll_nil r0
  obtain rfl : args = #[v0] := by cases args; simp_all
  obtain ⟨rfl, rfl⟩ := trodVars_none hV
  obtain ⟨a0, rfl, rfl, rfl, w0⟩ := open_int Tryd.underlying3 (hval 0 3 v0 rfl rfl) h0
  clear hA0 hval0
  refine (walk a0 W (tab_of hL)).mono fun e W' ⟨he, bel⟩ => ?_
  subst he
  exact ⟨_, rfl, _, _, _, [], _, [], hW', trodAll_mk1 (shut_bool Tryd.underlying4 _), (trodAll_cons_mk (shut_int Tryd.underlying3 w0) trodAll_mk0), rfl, bel.frame _, fun h => by cases h⟩

theorem over : Rows.InflateTablesSaid :=
  OpenClaim.holds_of_wide 4 Tryd.f4 rfl rfl rfl rfl rfl rfl rfl ⟨rfl, rfl, rfl, rfl, rfl⟩ rfl rfl rfl rfl rfl (by kernel_rfl) Tryd.func4 (by kernel_rfl)
    (of_decide_eq_true (by kernel_rfl)) (by unfold Func.isWrapper; first | (rw [if_pos (by decide +kernel)]; kernel_rfl) | (rw [if_neg (by decide +kernel)]; exact ⟨rfl, rfl⟩))
    (fun os started H enc _ => lifted os started H enc)

theorem proved : Rows.InflateTablesCardSaid :=
  Claim7.holds_tied_plain_at .later [] [.data] true (true, "92355ac838773404caa423fded1d207c8b642718b7fb2225f8dda74b268a5197") true over (fun _ h => by cases h) (by kernel_rfl) (fun _ h => by cases h) inflateTables_row_tie rfl ⟨rfl, rfl⟩ (by kernel_rfl) rfl
    (fun f fn hf hfn => by
      obtain rfl : f = 4 := Option.some.inj ((show Tryd.prog.funcNamed "etui/etuilaw06.InflateTables" = some 4 by kernel_rfl).symm.trans hf) |>.symm
      obtain rfl : fn = Tryd.f4 := (Option.some.inj (Tryd.func4.symm.trans hfn)).symm
      exact ⟨by kernel_rfl, fun j t ht => by
        rw [Tryd.params4] at ht
        have hm : t ∈ [3] := by
          have := Array.mem_of_getElem? ht
          simp at this ⊢
          omega
        have hall : ([3].all fun u => !Tryd.prog.wantsStandIn u) = true := by kernel_rfl
        exact (show Tryd.prog.wantsStandIn t = false by simpa using List.all_eq_true.1 hall t hm)⟩)
    (by kernel_rfl)
#print axioms proved
end Go.Proofs.YtnnkegpnjedneaaDoor.inflateTables

