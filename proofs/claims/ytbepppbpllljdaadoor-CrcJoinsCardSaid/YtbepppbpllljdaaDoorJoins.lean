/-
  CrcJoins: for every row of rows of bytes the law returns true and its argument reads as before: no condition beyond the library's table as its initialiser lays it (tied).
-/
import Derived.Test.YtbepppbpllljdaaDoorV
import Derived.Deep.RegionWith
namespace Go.Proofs.YtbepppbpllljdaaDoor.crcJoins
open Go.ChangeShapes Go.WideShapes Go.ChangeAt Go.RowKit CrcPlain
set_option linter.unusedVariables false

theorem walk_many (ao : Option Addr) (cap n : Nat) (hm : n ≤ 9223372036854775807) (h : 60 < n) (w : World) (hT : Tab w) :
    Calls Tryd.prog 4 #[.slice ao n cap] w fun e w' => e = .returned (.bool true) ∧ Below w.heap.size w w' := by
  have HA := Lib.hid (alive_any w hT)
  clear hT
  go_enter Tryd.func4, Tryd.ntmps4
  go_wp2_with (go_at_call 8; refine HA.out.mono ?_; rintro e w1 ⟨rfl, hb1⟩; have HB := Lib.hid hb1; clear hb1)
  go_ret
  exact ⟨rfl, HB.out⟩

set_option maxHeartbeats 3200000 in
theorem walk_few (a : Option Addr) (cap n : Nat) (h : n ≤ 60) (w : World) (hlst : Lst w a n) (hT : Tab w) :
    Calls Tryd.prog 4 #[.slice a n cap] w fun e w' => e = .returned (.bool true) ∧ Below w.heap.size w w' := by
  have HA := Lib.hid (alive_any w hT)
  have HT := Lib.hid hT
  have HL := Lib.hid hlst
  clear hT hlst
  go_enter Tryd.func4, Tryd.ntmps4
  go_wp2_with fail
  refine HA.out.mono ?_
  rintro e w1 ⟨rfl, hb1⟩
  have HB := Lib.hid hb1
  clear hb1
  go_wp2_with fail
  refine (new_any _).mono ?_
  rintro e w2 ⟨rfl, hd2, ht2, hs2⟩
  obtain ⟨p, hp⟩ : ∃ p, p = (w1.alloc (.cells #[] 5)).heap.size := ⟨_, rfl⟩
  have HJ : Hid (Jn w p [] (.slice (some ⟨w1.heap.size, 0, none⟩) 0 0) (updN 0#32 []) 0 w2) := Lib.hid (by
    have hb := (HB.out.alloc HB.out.size (.cells #[] 5)).trans ((ht2.below (Nat.le_refl _) fun _ h => h.elim).mono (by have := HB.out.size; simp; omega))
    rw [← hp] at hd2
    refine ⟨?_, hd2, hb, by rw [hp]; have := HB.out.size; simp; omega, fun x h => by cases h⟩
    exact ownsRow_touch (own_base (own_empty w1) HB.out.size) ht2 fun _ _ h => h)
  rw [← hp]
  clear hd2 ht2 hs2 hp
  go_wp2_with fail
  go_loopw [3, 4, 5, 7] (fun v s1 s2 i wr => ∃ (k : Nat) (L : List Nat), k ≤ n ∧ i = .int .i64 k ∧ s1 = .int .u32 ((updN 0#32 L).toNat : Int) ∧ s2 = .int .u32 ((updN 0#32 L).toNat : Int) ∧ L.length ≤ 8000 ∧ Jn w p L v (updN 0#32 L) L.length wr) (fun _ _ _ i _ => n - (intOf i).toNat)
  case atStart => exact ⟨0, [], by omega, rfl, rfl, rfl, by simp, HJ.out⟩
  case round =>
    obtain ⟨k, L, hk, rfl, rfl, rfl, hL8, hrel⟩ := hrel
    obtain ⟨va, vc, rfl, hsL⟩ := hrel.src
    have HR := Lib.hid hrel
    have HS := Lib.hid hsL
    clear hrel hsL
    obtain ⟨S, hS⟩ : ∃ S, S = updN 0#32 L := ⟨_, rfl⟩
    have HSE := Lib.hid hS
    rw [← hS] at HR ⊢
    clear hS
    by_cases hlt : k < n
    · have hkk : (k : Int) < n := by omega
      rcases HL.out with h0 | ⟨b, off, rfl, hE⟩
      · omega
      obtain ⟨ao, c, xs, hel⟩ := hE k hlt
      have HEL := Lib.hid hel
      have HE0 := Lib.hid (hel.below HR.out.below)
      have hcell := HE0.out.cell
      clear hE hel
      by_cases hx : 2000 < xs.length
      · have hx' : (2000 : Int) < xs.length := by omega
        go_wp2
        go_ret
        exact ⟨rfl, HR.out.below⟩
      · have d1 : decide ((2000 : Int) < xs.length) = false := by simp; omega
        have d1' : decide (2000 < xs.length) = false := by simp; omega
        by_cases hy : 6000 < L.length
        · have hy' : (6000 : Int) < L.length := by omega
          go_wp2
          go_ret
          exact ⟨rfl, HR.out.below⟩
        · have d2 : decide ((6000 : Int) < L.length) = false := by simp; omega
          have d2' : decide (6000 < L.length) = false := by simp; omega
          go_wp2_with (at_builtin; refine wpList_append_x rfl (.tmp 32) (.tmp 36) rfl w.heap.size (.slice va L.length vc) (.slice ao xs.length c) L xs rfl rfl HR.out.own HE0.out.by_ HR.out.below.size (by omega) ?c2)
          case c2 =>
          intro va2 vc2 w3 hA
          have hj3 := HR.out.app HE0.out.bs hA
          obtain ⟨N, hN⟩ : ∃ N, N = L.length + xs.length := ⟨_, rfl⟩
          have HNN := Lib.hid hN
          have hN8 : N ≤ 8000 := by omega
          rw [← hN] at hj3 ⊢
          have HR3 := Lib.hid hj3.drew
          have hcell3 := (HEL.out.below hj3.below).cell
          obtain ⟨SX, hSX⟩ : ∃ V, V = updN 0#32 xs := ⟨_, rfl⟩
          obtain ⟨S3, hS3⟩ : ∃ V, V = updN 0#32 (L ++ xs) := ⟨_, rfl⟩
          have HS3 := Lib.hid hS3
          have KS : Hid (∀ W, Below w.heap.size w W → Calls Tryd.prog 9 #[.slice ao xs.length c] W fun e w' => e = .returned (.int .u32 (SX.toNat : Int)) ∧ Below W.heap.size W w') := Lib.hid fun W hW => by
            rw [hSX]
            exact sum_any ao c xs W (by omega) HEL.out.bs (HEL.out.src.below hW)
          have KJ : Hid (∀ W, Below w.heap.size w W → Calls Tryd.prog 15 #[.int .u32 (S.toNat : Int), .int .u32 (SX.toNat : Int), .int .i64 xs.length] W fun e w' => e = .returned (.int .u32 (S3.toNat : Int)) ∧ Below W.heap.size W w') := Lib.hid fun W hW =>
            join_v S SX S3 xs.length (by omega) (by rw [Int.toNat_natCast, HSE.out, hSX, hS3, join_app]) W (HT.out.below hW)
          have KU : Hid (∀ W, Below w.heap.size w W → Calls Tryd.prog 11 #[.int .u32 (S.toNat : Int), .slice ao xs.length c] W fun e w' => e = .returned (.int .u32 (S3.toNat : Int)) ∧ Below W.heap.size W w') := Lib.hid fun W hW => by
            have h := update_any S ao c xs W (by omega) HEL.out.bs (HEL.out.src.below hW)
            rw [HSE.out, ← updN_append, ← hS3, ← HSE.out] at h
            exact h
          have KW : Hid (∀ W v, Jn w p (L ++ xs) v S L.length W → Calls Tryd.prog 16 #[.pointer (some ⟨p, 0, none⟩), .slice ao xs.length c] W fun e w' => e = .returned (.tuple #[]) ∧ Jn w p (L ++ xs) v S3 N w') := Lib.hid fun W v hW => by
            have h := write_any p S L.length ao c xs W hW.dg (by omega) (by omega) HEL.out.bs (HEL.out.src.below hW.below)
            rw [HSE.out, ← updN_append, ← hS3, ← hN] at h
            exact h.mono fun e w' ⟨he, hd, ht⟩ => ⟨he, hW.wrote hd ht⟩
          clear hA hj3 hN hSX hS3 hcell
          go_wp2_with fail
          go_region_with (first
            | (go_at_call 9; (with_reducible refine (KS.out _ HR3.out.below).mono ?_); rintro e w4 ⟨rfl, hb4⟩; have HR3 := Lib.hid (HR3.out.grow hb4); have hcell4 := (HEL.out.below HR3.out.below).cell; clear hb4)
            | (go_at_call 15; (with_reducible refine (KJ.out _ HR3.out.below).mono ?_); rintro e w4 ⟨rfl, hb4⟩; have HR3 := Lib.hid (HR3.out.grow hb4); have hcell4 := (HEL.out.below HR3.out.below).cell; clear hb4))
          all_goals
            go_wp2_with fail
            refine (KU.out _ HR3.out.below).mono ?_
            rintro e w5 ⟨rfl, hb5⟩
            have HR5 := Lib.hid (HR3.out.grow hb5)
            have hcell5 := (HEL.out.below HR5.out.below).cell
            clear hb5
            go_wp2_with fail
            refine (KW.out _ _ HR5.out).mono ?_
            rintro e w6 ⟨rfl, hj6⟩
            have HR6 := Lib.hid hj6
            clear hj6
            go_wp2_with fail
            refine (len_any p S3 N _ HR6.out.dg).mono ?_
            rintro e w7 ⟨rfl, rfl⟩
            go_wp2_with fail
            refine (dsum_any p S3 N _ HR6.out.dg).mono ?_
            rintro e w8 ⟨rfl, rfl⟩
            go_wp2_with fail
            go_roundw
            case rel =>
              refine ⟨k + 1, L ++ xs, by omega, by go_num, by rw [HS3.out], by rw [HS3.out], by rw [List.length_append]; have := HNN.out; omega, ?_⟩
              rw [← HS3.out, List.length_append, ← HNN.out]
              exact HR6.out
            case measure => simp [intOf]; omega
    · have KA := Lib.hid (show Calls Tryd.prog 9 #[.slice va L.length vc] wr fun e w' => e = .returned (.int .u32 (S.toNat : Int)) ∧ Below wr.heap.size wr w' from by
        rw [HSE.out]
        exact sum_any va vc L wr (by omega) HR.out.bs HS.out)
      go_wp2_with fail
      refine KA.out.mono ?_
      rintro e w5 ⟨rfl, hb5⟩
      have HB5 := Lib.hid (HR.out.below.trans (hb5.mono HR.out.below.size))
      clear hb5
      go_wp2_with fail
      go_ret
      exact ⟨by first | rfl | simp, HB5.out⟩

theorem walk (a : Option Addr) (cap n : Nat) (hm : n ≤ 9223372036854775807) (w : World) (hl : Lst w a n) (hT : Tab w) :
    Calls Tryd.prog 4 #[.slice a n cap] w fun e w' => e = .returned (.bool true) ∧ Below w.heap.size w w' := by
  by_cases h : 60 < n
  · exact walk_many a cap n hm h w hT
  · exact walk_few a cap n (by omega) w hl hT

set_option maxRecDepth 100000 in
theorem lifted (os : Os) (started : os.Started) (H : Type) (enc : TypeId × Value → H) :
    ReturnsInHanded {} Tryd.checked os 4 .any (fun w args => (Rows.crcJoinsSpec.pre enc Tryd.prog Tryd.f4 Rows.crcJoinsRow.domain false w args ∧ laidMetH Tryd.prog laidL w) ∧ sizedMet enc Tryd.prog Tryd.f4 (OpenSpec.ofChange Rows.crcJoinsSpec) false w args)
      (Rows.crcJoinsSpec.post enc Tryd.prog Tryd.f4 false true false false) := by
  refine returnsInHanded_of_change_and (C := Tryd.checked) (X := fun w _ => laidMetH Tryd.prog laidL w) (fun _ _ _ hh h => h.of_heap hh) own started (by kernel_rfl) Tryd.func4
    (ChangeSpec.witness_shaped (enc := enc) (C := Tryd.checked) (os := os) (X := fun w _ => laidMetH Tryd.prog laidL w) false (World.laidAll Tryd.prog os laidL) #[.slice none 0 0] 8 (World.laidAll_os _ _ _)
      (World.shaped_of_ZipB (by kernel_rfl) (by kernel_rfl)) (by kernel_rfl) (by kernel_rfl) (by kernel_rfl)
      (by rw [MakeChecks.laidMetH_plain _ _ _ (by kernel_rfl)]; exact laidMet_laidAll _ (by kernel_rfl) (by kernel_rfl))) ?_
  intro W base args ds gs before hval0 hW hcnd _ hL _
  have hval : ∀ (j : Nat) t v, Tryd.f4.params[j]? = some t → args[j]? = some v → Value.okWide Tryd.prog W .any base t v := hval0
  have hW' := hW
  obtain ⟨p, q, hA0, hV, rfl, hfz, hnd⟩ := hW
  have hA : DataW.TrodAll enc Tryd.prog W 0 (fun _ => true) true Tryd.f4.params.toList args.toList ds p := hA0
  rw [Tryd.params4] at hA hval
  obtain ⟨v0, vs0, d0, ds0, p0, q0, hargs, rfl, rfl, h0, r0⟩ := trodAll_cons hA
  obtain ⟨rfl, rfl, rfl⟩ := trodAll_nil r0
  obtain rfl : args = #[v0] := by cases args; simp_all
  obtain ⟨rfl, rfl⟩ := trodVars_none hV
  obtain ⟨a0, len0, cap0, rfl⟩ := okWide_slice Tryd.underlying29 (hval 0 29 v0 rfl rfl)
  have k0 := h0
  have lt0 : ∀ x ∈ p0, x.block < W.heap.size := by obtain ⟨m, hm⟩ := k0; exact DataW.trod_lt m _ _ _ hm
  obtain ⟨hl0, hm0⟩ : Lst W a0 len0 ∧ len0 ≤ maxLen := by
    obtain ⟨fuel, hf⟩ := h0
    exact lst_open (by simpa [Value.cells] using hf)
  unfold maxLen at hm0
  clear hA0 hval0
  refine (walk a0 cap0 len0 (by omega) W hl0 (tab_of hL)).mono fun e W' ⟨he, bel⟩ => ?_
  subst he
  exact ⟨_, rfl, _, _, _, [], _, [], hW', trodAll_mk1 (shut_bool Tryd.underlying4 _), (trodAll_cons_mk (Below.trod laidOut (by kernel_rfl) (of_decide_eq_true (by kernel_rfl)) k0 bel lt0) trodAll_mk0), rfl, bel.frame _, fun h => by cases h⟩

theorem over : Rows.CrcJoinsSaid :=
  OpenClaim.holds_of_wide 4 Tryd.f4 rfl rfl rfl rfl rfl rfl rfl ⟨rfl, rfl, rfl, rfl, rfl⟩ rfl rfl rfl rfl rfl (by kernel_rfl) Tryd.func4 (by kernel_rfl)
    (of_decide_eq_true (by kernel_rfl)) (by unfold Func.isWrapper; first | (rw [if_pos (by decide +kernel)]; kernel_rfl) | (rw [if_neg (by decide +kernel)]; exact ⟨rfl, rfl⟩))
    (fun os started H enc _ => lifted os started H enc)

theorem proved : Rows.CrcJoinsCardSaid :=
  Claim7.holds_tied_plain_at .later [] [.data] true (true, "20957510d71f0a5438c86a55afcdcc118aef857bddc52df28076e0f755965a9c") false over (fun _ h => by cases h) (by kernel_rfl) (fun _ h => by cases h) crcJoins_row_tie rfl ⟨rfl, rfl⟩ (by kernel_rfl) rfl
    (fun f fn hf hfn => by
      obtain rfl : f = 4 := Option.some.inj ((show Tryd.prog.funcNamed "etui/etuilaw02.CrcJoins" = some 4 by kernel_rfl).symm.trans hf) |>.symm
      obtain rfl : fn = Tryd.f4 := (Option.some.inj (Tryd.func4.symm.trans hfn)).symm
      exact ⟨by kernel_rfl, fun j t ht => by
        rw [Tryd.params4] at ht
        have hm : t ∈ [29] := by
          have := Array.mem_of_getElem? ht
          simp at this ⊢
          omega
        have hall : ([29].all fun u => !Tryd.prog.wantsStandIn u) = true := by kernel_rfl
        exact (show Tryd.prog.wantsStandIn t = false by simpa using List.all_eq_true.1 hall t hm)⟩)
    (by kernel_rfl)
#print axioms proved
end Go.Proofs.YtbepppbpllljdaaDoor.crcJoins
