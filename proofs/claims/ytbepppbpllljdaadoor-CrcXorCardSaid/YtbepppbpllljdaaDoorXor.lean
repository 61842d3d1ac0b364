/-
  CrcXor: for every three rows of bytes the law returns true and its arguments read as before: no condition beyond the library's table as its initialiser lays it (tied).
-/
import Derived.Test.YtbepppbpllljdaaDoorO
namespace Go.Proofs.YtbepppbpllljdaaDoor.crcXor
open Go.ChangeShapes Go.WideShapes Go.ChangeAt Go.RowKit CrcPlain
set_option linter.unusedVariables false

theorem walk_bad (ao bo co : Option Addr) (la ca lb cb lc cc : Nat) (hm : la ≤ 9223372036854775807 ∧ lb ≤ 9223372036854775807 ∧ lc ≤ 9223372036854775807) (h : 3000 < la ∨ (la ≤ 3000 ∧ lb ≠ la) ∨ (la ≤ 3000 ∧ lb = la ∧ lc ≠ la)) (w : World) (hT : Tab w) :
    Calls Tryd.prog 7 #[.slice ao la ca, .slice bo lb cb, .slice co lc cc] w fun e w' => e = .returned (.bool true) ∧ Below w.heap.size w w' := by
  have HA := Lib.hid (alive_any w hT)
  clear hT
  obtain ⟨m1, m2, m3⟩ := hm
  rcases h with h1 | ⟨h1, h2⟩ | ⟨h1, h2, h3⟩
  · have h1' : (3000 : Int) < la := by omega
    go_enter Tryd.func7, Tryd.ntmps7
    go_wp2_with (go_at_call 8; refine HA.out.mono ?_; rintro e w1 ⟨rfl, hb1⟩; have HB := Lib.hid hb1; clear hb1)
    go_ret
    exact ⟨rfl, HB.out⟩
  · have h1' : decide (3000 < la) = false := by simp; omega
    have h2' : ((lb : Int) == (la : Int)) = false := by simp; omega
    have h2'' : ((lb : Int) != (la : Int)) = true := by simp; omega
    clear h2
    go_enter Tryd.func7, Tryd.ntmps7
    go_wp2_with (go_at_call 8; refine HA.out.mono ?_; rintro e w1 ⟨rfl, hb1⟩; have HB := Lib.hid hb1; clear hb1)
    go_ret
    exact ⟨rfl, HB.out⟩
  · subst h2
    have h1' : decide (3000 < lb) = false := by simp; omega
    have h2' : ((lc : Int) == (lb : Int)) = false := by simp; omega
    have h2'' : ((lc : Int) != (lb : Int)) = true := by simp; omega
    clear h3
    go_enter Tryd.func7, Tryd.ntmps7
    go_wp2_with (go_at_call 8; refine HA.out.mono ?_; rintro e w1 ⟨rfl, hb1⟩; have HB := Lib.hid hb1; clear hb1)
    go_ret
    exact ⟨rfl, HB.out⟩

set_option maxHeartbeats 1600000 in
theorem walk_good (ao bo co : Option Addr) (ca cb cc n : Nat) (xs ys zs : List Nat) (hx : Bs xs) (hy : Bs ys) (hz : Bs zs) (h1 : xs.length = n) (h2 : ys.length = n) (h3 : zs.length = n) (hn : n ≤ 3000) (w : World) (sx : Src w ao xs) (sy : Src w bo ys) (sz : Src w co zs) (hT : Tab w) :
    Calls Tryd.prog 7 #[.slice ao n ca, .slice bo n cb, .slice co n cc] w fun e w' => e = .returned (.bool true) ∧ Below w.heap.size w w' := by
  have HA := Lib.hid (alive_any w hT)
  have HX := Lib.hid (And.intro hx sx)
  have HY := Lib.hid (And.intro hy sy)
  have HZ := Lib.hid (And.intro hz sz)
  have H1 := Lib.hid h1
  have H2 := Lib.hid h2
  have H3 := Lib.hid h3
  have h1' : decide (3000 < n) = false := by simp; omega
  have HM := make22 n (by omega)
  clear hT hx hy hz h1 h2 h3 sx sy sz
  go_enter Tryd.func7, Tryd.ntmps7
  go_wp2_with (go_at_call 8; refine HA.out.mono ?_; rintro e w1 ⟨rfl, hb1⟩; have HB := Lib.hid hb1; clear hb1)
  clear HM
  obtain ⟨g, hg⟩ : ∃ g, g = w1.heap.size := ⟨_, rfl⟩
  have HS : Hid (w.heap.size ≤ g ∧ Blk (w1.alloc (.cells (zrow n) 5)) g 5 (brow n (bupto (xorF xs ys zs) 0)) ∧ Below w.heap.size w (w1.alloc (.cells (zrow n) 5))) := Lib.hid (by
    rw [hg, bupto_zero, ← brow_zero]
    exact ⟨HB.out.size, Blk.made _ _ _, HB.out.alloc HB.out.size _⟩)
  rw [← hg]
  clear hg
  generalize w1.alloc (.cells (zrow n) 5) = w2 at HS ⊢
  go_loopw [8] (fun i wr => ∃ k : Nat, k ≤ n ∧ i = .int .i64 k ∧ Blk wr g 5 (brow n (bupto (xorF xs ys zs) k)) ∧ Below w.heap.size w wr) (fun i _ => n - (intOf i).toNat)
  case atStart => exact ⟨0, by omega, rfl, HS.out.2.1, HS.out.2.2⟩
  case round =>
    obtain ⟨k, hk, rfl, hblk, hbel⟩ := hrel
    have HBk := Lib.hid hblk
    have HBel := Lib.hid hbel
    clear hblk hbel
    by_cases hlt : k < n
    · have hkk : (k : Int) < n := by omega
      rcases HX.out.2.below HBel.out with h | ⟨b1, o1, rfl, hc1⟩
      · have := H1.out; rw [h] at this; simp at this; omega
      rcases HY.out.2.below HBel.out with h | ⟨b2, o2, rfl, hc2⟩
      · have := H2.out; rw [h] at this; simp at this; omega
      rcases HZ.out.2.below HBel.out with h | ⟨b3, o3, rfl, hc3⟩
      · have := H3.out; rw [h] at this; simp at this; omega
      have d1 := hc1 k (by rw [H1.out]; exact hlt)
      have d2 := hc2 k (by rw [H2.out]; exact hlt)
      have d3 := hc3 k (by rw [H3.out]; exact hlt)
      have d4 := (HBk.out.cell k).trans (brow_at n _ k hlt)
      have f4 := HBk.out.free k
      have v1 := HX.out.1.at k
      have v2 := HY.out.1.at k
      have v3 := HZ.out.1.at k
      have v12 : xs.getD k 0 ^^^ ys.getD k 0 < 256 := Nat.xor_lt_two_pow (n := 8) v1 v2
      have x1 := u8_xor_nat _ _ v1 v2
      have x2 := u8_xor_nat _ _ v12 v3
      have HF : Hid (bits BinOp.xor IntKind.u8 (bits BinOp.xor IntKind.u8 ((xs.getD k 0 : Nat) : Int) ((ys.getD k 0 : Nat) : Int)) ((zs.getD k 0 : Nat) : Int) = ((xorF xs ys zs k : Nat) : Int)) := Lib.hid (by rw [x1, x2]; rfl)
      clear hc1 hc2 hc3 v1 v2 v3 v12 x1 x2
      go_wp2
      go_region
      all_goals go_wp2
      all_goals go_roundw
      case rel =>
        refine ⟨k + 1, by omega, by go_num, ?_, ?_⟩
        · have := HBk.out.setCell k (.int .u8 ((xorF xs ys zs k : Nat) : Int))
          rw [bupto_set, ← HF.out] at this
          exact this
        · exact (HBel.out.setCell (by show w.heap.size ≤ g; exact HS.out.1) _).drew
      case measure => simp [intOf]; omega
    · have hk' : k = n := by omega
      subst hk'
      rw [bupto_all] at HBk
      have hsrc := brow_src HBk.out
      have hl : (blist k (xorF xs ys zs)).length = k := blist_len _ _
      have hbs : Bs (blist k (xorF xs ys zs)) := blist_bs (xorF_lt HX.out.1 HY.out.1 HZ.out.1)
      obtain ⟨VA, hVA⟩ : ∃ V, V = updN 0#32 xs := ⟨_, rfl⟩
      obtain ⟨VB, hVB⟩ : ∃ V, V = updN 0#32 ys := ⟨_, rfl⟩
      obtain ⟨VC, hVC⟩ : ∃ V, V = updN 0#32 zs := ⟨_, rfl⟩
      obtain ⟨VX, hVX⟩ : ∃ V, V = updN 0#32 (blist k (xorF xs ys zs)) := ⟨_, rfl⟩
      obtain ⟨VY, hVY⟩ : ∃ V, V = VA ^^^ VB := ⟨_, rfl⟩
      have hsum : VX = VY ^^^ VC := by
        have := sum_xor3 xs ys zs HX.out.1 HY.out.1 HZ.out.1 (H2.out.trans H1.out.symm) (H3.out.trans H1.out.symm)
        rw [H1.out] at this
        rw [hVX, hVY, hVA, hVB, hVC, this]
      have x1 := b_xor VA VB
      have x2 := b_xor VY VC
      rw [← hVY] at x1
      rw [← hsum] at x2
      have KX : Hid (∀ W, Below wr.heap.size wr W → Calls Tryd.prog 9 #[.slice (some ⟨g, 0, none⟩) k k] W fun e w' => e = .returned (.int .u32 (VX.toNat : Int)) ∧ Below wr.heap.size wr w') := Lib.hid fun W hW => by
        have h := sum_any (some ⟨g, 0, none⟩) k _ W (by rw [hl]; omega) hbs (hsrc.below hW)
        rw [hl, ← hVX] at h
        exact h.mono fun e w' ⟨he, h⟩ => ⟨he, hW.trans (h.mono hW.size)⟩
      have KS : ∀ (A : Option Addr) (cap : Nat) (us : List Nat) (V : BitVec 32), Bs us → Src w A us → us.length = k → V = updN 0#32 us → Hid (∀ W, Below wr.heap.size wr W → Calls Tryd.prog 9 #[.slice A k cap] W fun e w' => e = .returned (.int .u32 (V.toNat : Int)) ∧ Below wr.heap.size wr w') := fun A cap us V hb hs hl hV => Lib.hid fun W hW => by
        have h := sum_any A cap us W (by omega) hb ((hs.below HBel.out).below hW)
        rw [hl, ← hV] at h
        exact h.mono fun e w' ⟨he, h⟩ => ⟨he, hW.trans (h.mono hW.size)⟩
      have KA := KS ao ca xs VA HX.out.1 HX.out.2 H1.out hVA
      have KB := KS bo cb ys VB HY.out.1 HY.out.2 H2.out hVB
      have KC := KS co cc zs VC HZ.out.1 HZ.out.2 H3.out hVC
      clear KS hsrc hl hbs hVA hVB hVC hVX hVY hsum
      have HW := Lib.hid (Below.refl wr.heap.size wr)
      go_wp2_with fail
      refine (KX.out _ HW.out).mono ?_
      rintro e w3 ⟨rfl, hw3⟩
      have HW := Lib.hid hw3
      clear hw3
      go_wp2_with fail
      refine (KA.out _ HW.out).mono ?_
      rintro e w4 ⟨rfl, hw4⟩
      have HW := Lib.hid hw4
      clear hw4
      go_wp2_with fail
      refine (KB.out _ HW.out).mono ?_
      rintro e w5 ⟨rfl, hw5⟩
      have HW := Lib.hid hw5
      clear hw5
      go_wp2_with fail
      refine (KC.out _ HW.out).mono ?_
      rintro e w6 ⟨rfl, hw6⟩
      have HW := Lib.hid hw6
      clear hw6
      go_wp2_with fail
      go_ret
      exact ⟨by simp, HBel.out.trans (HW.out.mono HBel.out.size)⟩

theorem walk (ao bo co : Option Addr) (ca cb cc : Nat) (xs ys zs : List Nat) (hx : Bs xs) (hy : Bs ys) (hz : Bs zs) (hm : xs.length ≤ 9223372036854775807 ∧ ys.length ≤ 9223372036854775807 ∧ zs.length ≤ 9223372036854775807) (w : World) (sx : Src w ao xs) (sy : Src w bo ys) (sz : Src w co zs) (hT : Tab w) :
    Calls Tryd.prog 7 #[.slice ao xs.length ca, .slice bo ys.length cb, .slice co zs.length cc] w fun e w' => e = .returned (.bool true) ∧ Below w.heap.size w w' := by
  by_cases h1 : 3000 < xs.length
  · exact walk_bad ao bo co _ ca _ cb _ cc hm (.inl h1) w hT
  by_cases h2 : ys.length = xs.length
  · by_cases h3 : zs.length = xs.length
    · have h := walk_good ao bo co ca cb cc xs.length xs ys zs hx hy hz rfl h2 h3 (by omega) w sx sy sz hT
      rw [h2, h3]
      exact h
    · exact walk_bad ao bo co _ ca _ cb _ cc hm (.inr (.inr ⟨by omega, h2, h3⟩)) w hT
  · exact walk_bad ao bo co _ ca _ cb _ cc hm (.inr (.inl ⟨by omega, h2⟩)) w hT

set_option maxRecDepth 100000 in
theorem lifted (os : Os) (started : os.Started) (H : Type) (enc : TypeId × Value → H) :
    ReturnsInHanded {} Tryd.checked os 7 .any (fun w args => (Rows.crcXorSpec.pre enc Tryd.prog Tryd.f7 Rows.crcXorRow.domain false w args ∧ laidMetH Tryd.prog laidL w) ∧ sizedMet enc Tryd.prog Tryd.f7 (OpenSpec.ofChange Rows.crcXorSpec) false w args)
      (Rows.crcXorSpec.post enc Tryd.prog Tryd.f7 false true false false) := by
  refine returnsInHanded_of_change_and (C := Tryd.checked) (X := fun w _ => laidMetH Tryd.prog laidL w) (fun _ _ _ hh h => h.of_heap hh) own started (by kernel_rfl) Tryd.func7
    (ChangeSpec.witness_shaped (enc := enc) (C := Tryd.checked) (os := os) (X := fun w _ => laidMetH Tryd.prog laidL w) false (World.laidAll Tryd.prog os laidL) #[.slice none 0 0, .slice none 0 0, .slice none 0 0] 8 (World.laidAll_os _ _ _)
      (World.shaped_of_ZipB (by kernel_rfl) (by kernel_rfl)) (by kernel_rfl) (by kernel_rfl) (by kernel_rfl)
      (by rw [MakeChecks.laidMetH_plain _ _ _ (by kernel_rfl)]; exact laidMet_laidAll _ (by kernel_rfl) (by kernel_rfl))) ?_
  intro W base args ds gs before hval0 hW hcnd _ hL _
  have hval : ∀ (j : Nat) t v, Tryd.f7.params[j]? = some t → args[j]? = some v → Value.okWide Tryd.prog W .any base t v := hval0
  have hW' := hW
  obtain ⟨p, q, hA0, hV, rfl, hfz, hnd⟩ := hW
  have hA : DataW.TrodAll enc Tryd.prog W 0 (fun _ => true) true Tryd.f7.params.toList args.toList ds p := hA0
  rw [Tryd.params7] at hA hval
  obtain ⟨v0, vs0, d0, ds0, p0, q0, hargs, rfl, rfl, h0, r0⟩ := trodAll_cons hA
  obtain ⟨v1, vs1, d1, ds1, p1, q1, rfl, rfl, rfl, h1, r1⟩ := trodAll_cons r0
  obtain ⟨v2, vs2, d2, ds2, p2, q2, rfl, rfl, rfl, h2, r2⟩ := trodAll_cons r1
  obtain ⟨rfl, rfl, rfl⟩ := trodAll_nil r2
  obtain rfl : args = #[v0, v1, v2] := by cases args; simp_all
  obtain ⟨rfl, rfl⟩ := trodVars_none hV
  obtain ⟨a0, len0, cap0, rfl⟩ := okWide_slice Tryd.underlying22 (hval 0 22 v0 rfl rfl)
  have k0 := h0
  have lt0 : ∀ x ∈ p0, x.block < W.heap.size := by obtain ⟨m, hm⟩ := k0; exact DataW.trod_lt m _ _ _ hm
  obtain ⟨xs0, rfl, hb0, hs0, hlc0, hcm0⟩ : ∃ xs : List Nat, xs.length = len0 ∧ Bs xs ∧ Src W a0 xs ∧ len0 ≤ cap0 ∧ cap0 ≤ maxLen := by
    obtain ⟨fuel, hf⟩ := h0
    exact src_open (by simpa [Value.cells] using hf)
  obtain ⟨a1, len1, cap1, rfl⟩ := okWide_slice Tryd.underlying22 (hval 1 22 v1 rfl rfl)
  have k1 := h1
  have lt1 : ∀ x ∈ p1, x.block < W.heap.size := by obtain ⟨m, hm⟩ := k1; exact DataW.trod_lt m _ _ _ hm
  obtain ⟨xs1, rfl, hb1, hs1, hlc1, hcm1⟩ : ∃ xs : List Nat, xs.length = len1 ∧ Bs xs ∧ Src W a1 xs ∧ len1 ≤ cap1 ∧ cap1 ≤ maxLen := by
    obtain ⟨fuel, hf⟩ := h1
    exact src_open (by simpa [Value.cells] using hf)
  obtain ⟨a2, len2, cap2, rfl⟩ := okWide_slice Tryd.underlying22 (hval 2 22 v2 rfl rfl)
  have k2 := h2
  have lt2 : ∀ x ∈ p2, x.block < W.heap.size := by obtain ⟨m, hm⟩ := k2; exact DataW.trod_lt m _ _ _ hm
  obtain ⟨xs2, rfl, hb2, hs2, hlc2, hcm2⟩ : ∃ xs : List Nat, xs.length = len2 ∧ Bs xs ∧ Src W a2 xs ∧ len2 ≤ cap2 ∧ cap2 ≤ maxLen := by
    obtain ⟨fuel, hf⟩ := h2
    exact src_open (by simpa [Value.cells] using hf)
  unfold maxLen at hcm0 hcm1 hcm2
  clear hA0 hval0
  refine (walk a0 a1 a2 cap0 cap1 cap2 xs0 xs1 xs2 hb0 hb1 hb2 ⟨by omega, by omega, by omega⟩ W hs0 hs1 hs2 (tab_of hL)).mono fun e W' ⟨he, bel⟩ => ?_
  subst he
  exact ⟨_, rfl, _, _, _, [], _, [], hW', trodAll_mk1 (shut_bool Tryd.underlying4 _), (trodAll_cons_mk (Below.trod laidOut (by kernel_rfl) (of_decide_eq_true (by kernel_rfl)) k0 bel lt0) (trodAll_cons_mk (Below.trod laidOut (by kernel_rfl) (of_decide_eq_true (by kernel_rfl)) k1 bel lt1) (trodAll_cons_mk (Below.trod laidOut (by kernel_rfl) (of_decide_eq_true (by kernel_rfl)) k2 bel lt2) trodAll_mk0))), rfl, bel.frame _, fun h => by cases h⟩

theorem over : Rows.CrcXorSaid :=
  OpenClaim.holds_of_wide 7 Tryd.f7 rfl rfl rfl rfl rfl rfl rfl ⟨rfl, rfl, rfl, rfl, rfl⟩ rfl rfl rfl rfl rfl (by kernel_rfl) Tryd.func7 (by kernel_rfl)
    (of_decide_eq_true (by kernel_rfl)) (by unfold Func.isWrapper; first | (rw [if_pos (by decide +kernel)]; kernel_rfl) | (rw [if_neg (by decide +kernel)]; exact ⟨rfl, rfl⟩))
    (fun os started H enc _ => lifted os started H enc)

theorem proved : Rows.CrcXorCardSaid :=
  Claim7.holds_tied_plain_at .later [] [.data] true (true, "20957510d71f0a5438c86a55afcdcc118aef857bddc52df28076e0f755965a9c") false over (fun _ h => by cases h) (by kernel_rfl) (fun _ h => by cases h) crcXor_row_tie rfl ⟨rfl, rfl⟩ (by kernel_rfl) rfl
    (fun f fn hf hfn => by
      obtain rfl : f = 7 := Option.some.inj ((show Tryd.prog.funcNamed "etui/etuilaw02.CrcXor" = some 7 by kernel_rfl).symm.trans hf) |>.symm
      obtain rfl : fn = Tryd.f7 := (Option.some.inj (Tryd.func7.symm.trans hfn)).symm
      exact ⟨by kernel_rfl, fun j t ht => by
        rw [Tryd.params7] at ht
        have hm : t ∈ [22] := by
          have := Array.mem_of_getElem? ht
          simp at this ⊢
          omega
        have hall : ([22].all fun u => !Tryd.prog.wantsStandIn u) = true := by kernel_rfl
        exact (show Tryd.prog.wantsStandIn t = false by simpa using List.all_eq_true.1 hall t hm)⟩)
    (by kernel_rfl)
#print axioms proved
end Go.Proofs.YtbepppbpllljdaaDoor.crcXor
