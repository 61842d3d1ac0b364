/-
  CrcFlips: for every row of bytes, every place and every burst the law returns true and its arguments read as before: no condition beyond the library's table as its initialiser lays it (tied).
-/
import Derived.Test.YtbepppbpllljdaaDoorR
namespace Go.Proofs.YtbepppbpllljdaaDoor.crcFlips
open Go.ChangeShapes Go.WideShapes Go.ChangeAt Go.RowKit CrcPlain
set_option linter.unusedVariables false

theorem walk_bad (ao : Option Addr) (cap n : Nat) (a : Int) (v : BitVec 32) (hm : n ≤ 9223372036854775807)
    (h : 3000 < n ∨ (n ≤ 3000 ∧ n < 5) ∨ (n ≤ 3000 ∧ 5 ≤ n ∧ a < 0) ∨ (n ≤ 3000 ∧ 5 ≤ n ∧ 0 ≤ a ∧ 8 * ((n : Int) - 4) ≤ a) ∨ (n ≤ 3000 ∧ 5 ≤ n ∧ 0 ≤ a ∧ a < 8 * ((n : Int) - 4) ∧ v = 0#32)) (w : World) (hT : Tab w) :
    Calls Tryd.prog 5 #[.slice ao n cap, .int .i64 a, .int .u32 (v.toNat : Int)] w fun e w' => e = .returned (.bool true) ∧ Below w.heap.size w w' := by
  have HA := Lib.hid (alive_any w hT)
  clear hT
  rcases h with h1 | ⟨h1, h2⟩ | ⟨h1, h2, h3⟩ | ⟨h1, h2, h3, h4⟩ | ⟨h1, h2, h3, h4, rfl⟩
  · go_enter Tryd.func5, Tryd.ntmps5
    go_wp2_with (go_at_call 8; refine HA.out.mono ?_; rintro e w1 ⟨rfl, hb1⟩; have HB := Lib.hid hb1; clear hb1)
    go_ret
    exact ⟨rfl, HB.out⟩
  · have d1 : decide (3000 < n) = false := by simp; omega
    go_enter Tryd.func5, Tryd.ntmps5
    go_wp2_with (go_at_call 8; refine HA.out.mono ?_; rintro e w1 ⟨rfl, hb1⟩; have HB := Lib.hid hb1; clear hb1)
    go_ret
    exact ⟨rfl, HB.out⟩
  · have d1 : decide (3000 < n) = false := by simp; omega
    have d2 : decide (n < 5) = false := by simp; omega
    go_enter Tryd.func5, Tryd.ntmps5
    go_wp2_with (go_at_call 8; refine HA.out.mono ?_; rintro e w1 ⟨rfl, hb1⟩; have HB := Lib.hid hb1; clear hb1)
    go_ret
    exact ⟨rfl, HB.out⟩
  · have d1 : decide (3000 < n) = false := by simp; omega
    have d2 : decide (n < 5) = false := by simp; omega
    have d3 : decide (a < 0) = false := by simp; omega
    go_enter Tryd.func5, Tryd.ntmps5
    go_wp2_with (go_at_call 8; refine HA.out.mono ?_; rintro e w1 ⟨rfl, hb1⟩; have HB := Lib.hid hb1; clear hb1)
    go_ret
    exact ⟨rfl, HB.out⟩
  · have d1 : decide (3000 < n) = false := by simp; omega
    have d2 : decide (n < 5) = false := by simp; omega
    have d3 : decide (a < 0) = false := by simp; omega
    have d4 : decide (8 * ((n : Int) - 4) ≤ a) = false := by simp; omega
    go_enter Tryd.func5, Tryd.ntmps5
    go_wp2_with (go_at_call 8; refine HA.out.mono ?_; rintro e w1 ⟨rfl, hb1⟩; have HB := Lib.hid hb1; clear hb1)
    go_ret
    exact ⟨rfl, HB.out⟩

theorem bit_of (v : BitVec 32) (k : Nat) : bits BinOp.and IntKind.u32 ((v.toNat : Int) / 2 ^ k) 1 = if v.getLsbD k then 1 else 0 := by
  have h1 : v.toNat / 2 ^ k ≤ v.toNat := Nat.div_le_self _ _
  have h2 := v.isLt
  rw [show ((v.toNat : Int) / 2 ^ k) = ((v.toNat / 2 ^ k : Nat) : Int) from by simp, show (1 : Int) = ((1 : Nat) : Int) from rfl, u32_and_nat _ _ (by omega) (by omega), nat_mask1, BitVec.getLsbD, Nat.testBit_eq_decide_div_mod_eq]
  rcases Nat.mod_two_eq_zero_or_one (v.toNat / 2 ^ k) with h | h <;> simp [h]

set_option maxHeartbeats 1600000 in
theorem walk_good (b off cap n at_ : Nat) (v : BitVec 32) (xs : List Nat) (hx : Bs xs) (hl : xs.length = n) (h1 : n ≤ 3000) (h2 : 5 ≤ n) (h3 : at_ < 8 * (n - 4)) (hv : v ≠ 0#32) (w : World)
    (hc : ∀ j, j < n → w.cell? ⟨b, off + j, none⟩ = some (.int .u8 ((xs.getD j 0 : Nat) : Int))) (hT : Tab w) :
    Calls Tryd.prog 5 #[.slice (some ⟨b, off, none⟩) n cap, .int .i64 at_, .int .u32 (v.toNat : Int)] w fun e w' => e = .returned (.bool true) ∧ Below w.heap.size w w' := by
  have HA := Lib.hid (alive_any w hT)
  have HX := Lib.hid hx
  have HL := Lib.hid hl
  have HC := Lib.hid hc
  have HV := Lib.hid hv
  have d1 : decide (3000 < n) = false := by simp; omega
  have d2 : decide (n < 5) = false := by simp; omega
  have d3 : decide (8 * ((n : Int) - 4) ≤ (at_ : Int)) = false := by simp; omega
  have d4 : ((v.toNat : Int) == 0) = false := by
    have : v.toNat ≠ 0 := fun e => hv (BitVec.eq_of_toNat_eq (by rw [e]; rfl))
    simp; omega
  obtain ⟨i0, hi, hz0, hz1, hz2⟩ := info_parts Tryd.info5
  have HI := Lib.hid (And.intro hi (And.intro hz0 (And.intro hz1 hz2)))
  clear hT hx hl hc hv hi hz0 hz1 hz2
  go_enter Tryd.func5, Tryd.ntmps5
  go_wp2_with fail
  refine HA.out.mono ?_
  rintro e w1 ⟨rfl, hb1⟩
  have HB := Lib.hid hb1
  clear hb1
  go_wp2_with (at_builtin; refine wpList_append_own _ rfl (.tmp 35) (.tmp 36) 22 rfl w1.heap.size 5 i0 (.int .u8 0) 1 1 Tryd.underlying22 HI.out.1 HI.out.2.1 HI.out.2.2.1 HI.out.2.2.2 rfl (by decide) (.slice (some ⟨w1.heap.size, 0, none⟩) 0 0) 0 [] rfl (own_empty w1) ⟨b, off, none⟩ n cap (u8s xs) rfl ?c0 ?c1 (u8s_one xs) ?c3 ?c4 ?c5 ?c2)
  case c0 => rw [u8s_len, HL.out]; simp
  case c1 =>
    intro j u hu
    have hj : j < xs.length := by
      have := (List.getElem?_eq_some_iff.1 hu).1
      rwa [u8s_len] at this
    have h := HB.out.cell (p := ⟨b, off + j, none⟩) (by have := HC.out j (by have := HL.out; omega); exact World.block_lt_of_cell? w _ this)
    rw [u8s_at xs j hj] at hu
    have hcj := HC.out j (by have := HL.out; omega)
    rw [Addr.add_lit, World.cell?_alloc_lt _ _ _ (by have := World.block_lt_of_cell? w _ hcj; have := HB.out.size; show b < _; have h9 : b < w.heap.size := World.block_lt_of_cell? w _ hcj; omega), h, hcj, ← hu]
  case c3 => unfold maxLen; omega
  case c4 => omega
  case c5 => simp
  case c2 =>
    intro v' w2 hown hgrow _
    have hown : w2.ownsRow w1.heap.size 5 1 v' n (u8s xs) := by simpa using hown
    obtain ⟨g, cc, rfl, hg⟩ := own_shape hown (by omega)
    have hO : Own w2 w1.heap.size g cc n (fl xs at_ v 0) := by
      have e : blist n (fl xs at_ v 0) = xs := by
        have := blist_self xs
        rw [HL.out] at this
        exact this
      unfold Own
      rw [e]
      exact hown
    have HS : Hid (w.heap.size ≤ g ∧ Own w2 w1.heap.size g cc n (fl xs at_ v 0) ∧ Below w.heap.size w w2) := Lib.hid ⟨Nat.le_trans HB.out.size hg, hO, (HB.out.alloc HB.out.size _).grown hgrow (by have := HB.out.size; simp; omega) fun k hk => by cases hk; exact HB.out.size⟩
    clear hown hgrow hg hO
    go_wp2
    clear d1 d2 d3 d4
    go_loopw [8] (fun i wr => ∃ k : Nat, k ≤ 32 ∧ i = .int .i64 k ∧ Own wr w1.heap.size g cc n (fl xs at_ v k) ∧ Below w.heap.size w wr) (fun i _ => 32 - (intOf i).toNat)
    case atStart => exact ⟨0, by omega, rfl, HS.out.2.1, HS.out.2.2⟩
    case round =>
      obtain ⟨k, hk, rfl, hown, hbel⟩ := hrel
      have HO := Lib.hid hown
      have HBel := Lib.hid hbel
      clear hown hbel
      by_cases hlt : k < 32
      · have hkk : (k : Int) < 32 := by omega
        have hbit := bit_of v k
        obtain ⟨q, hq⟩ : ∃ q, q = (at_ + k) / 8 := ⟨_, rfl⟩
        obtain ⟨r, hr⟩ : ∃ r, r = (at_ + k) % 8 := ⟨_, rfl⟩
        have hqn : q < n := by omega
        by_cases hb : v.getLsbD k = true
        · rw [if_pos hb] at hbit
          have hcell := HO.out.cell q hqn
          have hfree := HO.out.free q
          have hlt8 : r < 8 := by omega
          obtain ⟨c, hcv⟩ : ∃ c, c = fl xs at_ v k q := ⟨_, rfl⟩
          obtain ⟨P, hP⟩ : ∃ P, P = 2 ^ r := ⟨_, rfl⟩
          have hP8 : P < 256 := by
            rw [hP]
            exact Nat.pow_lt_pow_right (show 1 < 2 by omega) hlt8
          have hc8 : c < 256 := by rw [hcv]; exact fl_lt xs HX.out at_ v k q
          have e1 : ((at_ : Int) + k) / 8 = (q : Int) := by omega
          have e2 : ((at_ : Int) + k) % 8 = (r : Int) := by omega
          have e3 : (2 : Int) ^ r % 256 = (P : Int) := by
            rw [show (2 : Int) ^ r = ((2 ^ r : Nat) : Int) from by simp, ← hP]
            omega
          have e4 := u8_xor_nat c P hc8 hP8
          have HF : Hid (∀ i, i < n → fl xs at_ v (k + 1) i = if i = q then c ^^^ P else fl xs at_ v k i) := Lib.hid fun i hi => by
            rw [fl]
            dsimp only
            rw [← hq, ← hr, hcv, hP]
            by_cases h : i = q
            · subst h; rw [if_pos ⟨hb, rfl⟩, if_pos rfl]
            · rw [if_neg (fun e => h e.2), if_neg h]
          rw [← hcv] at hcell
          clear hq hr hcv hP hP8 hc8 hb
          go_wp2
          go_roundw
          case rel => exact ⟨k + 1, by omega, by go_num, HO.out.set q (c ^^^ P) HF.out, HBel.out.setCell (by show w.heap.size ≤ g; exact HS.out.1) _⟩
          case measure => simp [intOf]; omega
        · rw [if_neg hb] at hbit
          have HF : Hid (fl xs at_ v (k + 1) = fl xs at_ v k) := Lib.hid (by
            funext i
            rw [fl]
            dsimp only
            rw [if_neg (fun e => hb e.1)])
          clear hq hr hb
          go_wp2
          go_roundw
          case rel => exact ⟨k + 1, by omega, by go_num, by rw [HF.out]; exact HO.out, HBel.out⟩
          case measure => simp [intOf]; omega
      · have hk' : k = 32 := by omega
        subst hk'
        have hsrc := HO.out.src
        have hlen : (blist n (fl xs at_ v 32)).length = n := blist_len _ _
        have hbs : Bs (blist n (fl xs at_ v 32)) := blist_bs fun q => fl_lt xs HX.out at_ v 32 q
        obtain ⟨V1, hV1⟩ : ∃ V, V = updN 0#32 (blist n (fl xs at_ v 32)) := ⟨_, rfl⟩
        obtain ⟨V2, hV2⟩ : ∃ V, V = updN 0#32 xs := ⟨_, rfl⟩
        have hne : V1 ≠ V2 := by
          rw [hV1, hV2]
          exact flips_ne xs n at_ v HL.out (by omega) HV.out
        have hnn : V1.toNat ≠ V2.toNat := fun e => hne (BitVec.eq_of_toNat_eq e)
        have t1 : ((V1.toNat : Int) == (V2.toNat : Int)) = false := by simp; omega
        have t2 : ((V1.toNat : Int) != (V2.toNat : Int)) = true := by simp; omega
        have K1 := Lib.hid (show Calls Tryd.prog 9 #[.slice (some ⟨g, 0, none⟩) n cc] wr fun e w' => e = .returned (.int .u32 (V1.toNat : Int)) ∧ Below wr.heap.size wr w' from by
          have h := sum_any (some ⟨g, 0, none⟩) cc _ wr (by rw [hlen]; omega) hbs hsrc
          rw [hlen, ← hV1] at h
          exact h)
        have K2 : Hid (∀ W, Below w.heap.size w W → Calls Tryd.prog 9 #[.slice (some ⟨b, off, none⟩) n cap] W fun e w' => e = .returned (.int .u32 (V2.toNat : Int)) ∧ Below W.heap.size W w') := Lib.hid fun W hW => by
          have hs : Src w (some ⟨b, off, none⟩) xs := .inr ⟨b, off, rfl, fun j hj => HC.out j (by have := HL.out; omega)⟩
          have h := sum_any (some ⟨b, off, none⟩) cap xs W (by have := HL.out; omega) HX.out (hs.below hW)
          rw [HL.out, ← hV2] at h
          exact h
        clear hsrc hlen hbs hV1 hV2 hne hnn
        go_wp2_with fail
        refine K1.out.mono ?_
        rintro e w3 ⟨rfl, hw3⟩
        have HB3 := Lib.hid (HBel.out.trans (hw3.mono HBel.out.size))
        clear hw3
        go_wp2_with fail
        refine (K2.out _ HB3.out).mono ?_
        rintro e w4 ⟨rfl, hw4⟩
        have HB4 := Lib.hid (HB3.out.trans (hw4.mono HB3.out.size))
        clear hw4
        go_wp2_with fail
        go_ret
        exact ⟨by first | rfl | simp, HB4.out⟩

theorem walk (ao : Option Addr) (cap : Nat) (xs : List Nat) (a1 a2 : Int) (w2 : (Lit.int .u32 a2).wf = true) (hm : xs.length ≤ 9223372036854775807) (hx : Bs xs) (w : World) (hs : Src w ao xs) (hT : Tab w) :
    Calls Tryd.prog 5 #[.slice ao xs.length cap, .int .i64 a1, .int .u32 a2] w fun e w' => e = .returned (.bool true) ∧ Below w.heap.size w w' := by
  obtain ⟨v, rfl⟩ := u32_of w2
  by_cases h1 : 3000 < xs.length
  · exact walk_bad ao cap _ a1 v hm (.inl h1) w hT
  by_cases h2 : xs.length < 5
  · exact walk_bad ao cap _ a1 v hm (.inr (.inl ⟨by omega, h2⟩)) w hT
  by_cases h3 : a1 < 0
  · exact walk_bad ao cap _ a1 v hm (.inr (.inr (.inl ⟨by omega, by omega, h3⟩))) w hT
  by_cases h4 : 8 * ((xs.length : Int) - 4) ≤ a1
  · exact walk_bad ao cap _ a1 v hm (.inr (.inr (.inr (.inl ⟨by omega, by omega, by omega, h4⟩)))) w hT
  by_cases h5 : v = 0#32
  · exact walk_bad ao cap _ a1 v hm (.inr (.inr (.inr (.inr ⟨by omega, by omega, by omega, by omega, h5⟩)))) w hT
  obtain ⟨at_, rfl⟩ := Int.eq_ofNat_of_zero_le (show 0 ≤ a1 by omega)
  rcases hs with h | ⟨b, off, rfl, hc⟩
  · rw [h] at h2; simp at h2
  · exact walk_good b off cap xs.length at_ v xs hx rfl (by omega) (by omega) (by omega) h5 w hc hT

set_option maxRecDepth 100000 in
theorem lifted (os : Os) (started : os.Started) (H : Type) (enc : TypeId × Value → H) :
    ReturnsInHanded {} Tryd.checked os 5 .any (fun w args => (Rows.crcFlipsSpec.pre enc Tryd.prog Tryd.f5 Rows.crcFlipsRow.domain false w args ∧ laidMetH Tryd.prog laidL w) ∧ sizedMet enc Tryd.prog Tryd.f5 (OpenSpec.ofChange Rows.crcFlipsSpec) false w args)
      (Rows.crcFlipsSpec.post enc Tryd.prog Tryd.f5 false true false false) := by
  refine returnsInHanded_of_change_and (C := Tryd.checked) (X := fun w _ => laidMetH Tryd.prog laidL w) (fun _ _ _ hh h => h.of_heap hh) own started (by kernel_rfl) Tryd.func5
    (ChangeSpec.witness_shaped (enc := enc) (C := Tryd.checked) (os := os) (X := fun w _ => laidMetH Tryd.prog laidL w) false (World.laidAll Tryd.prog os laidL) #[.slice none 0 0, .int .i64 0, .int .u32 0] 8 (World.laidAll_os _ _ _)
      (World.shaped_of_ZipB (by kernel_rfl) (by kernel_rfl)) (by kernel_rfl) (by kernel_rfl) (by kernel_rfl)
      (by rw [MakeChecks.laidMetH_plain _ _ _ (by kernel_rfl)]; exact laidMet_laidAll _ (by kernel_rfl) (by kernel_rfl))) ?_
  intro W base args ds gs before hval0 hW hcnd _ hL _
  have hval : ∀ (j : Nat) t v, Tryd.f5.params[j]? = some t → args[j]? = some v → Value.okWide Tryd.prog W .any base t v := hval0
  have hW' := hW
  obtain ⟨p, q, hA0, hV, rfl, hfz, hnd⟩ := hW
  have hA : DataW.TrodAll enc Tryd.prog W 0 (fun _ => true) true Tryd.f5.params.toList args.toList ds p := hA0
  rw [Tryd.params5] at hA hval
  obtain ⟨v0, vs0, d0, ds0, p0, q0, hargs, rfl, rfl, h0, r0⟩ := trodAll_cons hA
  obtain ⟨v1, vs1, d1, ds1, p1, q1, rfl, rfl, rfl, h1, r1⟩ := trodAll_cons r0
  obtain ⟨v2, vs2, d2, ds2, p2, q2, rfl, rfl, rfl, h2, r2⟩ := trodAll_cons r1
  obtain ⟨rfl, rfl, rfl⟩ := trodAll_nil r2
  obtain rfl : args = #[v0, v1, v2] := by cases args; simp_all
  obtain ⟨rfl, rfl⟩ := trodVars_none hV
  obtain ⟨a0, len0, cap0, rfl⟩ := okWide_slice Tryd.underlying22 (hval 0 22 v0 rfl rfl)
  have k0 := h0
  have lt0 : ∀ x ∈ p0, x.block < W.heap.size := by obtain ⟨m, hm⟩ := k0; exact DataW.trod_lt m _ _ _ hm
  obtain ⟨xs0, rfl, hb0, hs0, hlc0, hcm0⟩ : ∃ xs : List Nat, xs.length = len0 ∧ Bs xs ∧ Src W a0 xs ∧ len0 ≤ cap0 ∧ cap0 ≤ maxLen := by
    obtain ⟨fuel, hf⟩ := h0
    exact src_open (by simpa [Value.cells] using hf)
  obtain ⟨a1, rfl, rfl, rfl, w1⟩ := open_int Tryd.underlying3 (hval 1 3 v1 rfl rfl) h1
  obtain ⟨a2, rfl, rfl, rfl, w2⟩ := open_int Tryd.underlying23 (hval 2 23 v2 rfl rfl) h2
  unfold maxLen at hcm0
  clear hA0 hval0
  refine (walk a0 cap0 xs0 a1 a2 w2 (by omega) hb0 W hs0 (tab_of hL)).mono fun e W' ⟨he, bel⟩ => ?_
  subst he
  exact ⟨_, rfl, _, _, _, [], _, [], hW', trodAll_mk1 (shut_bool Tryd.underlying4 _), (trodAll_cons_mk (Below.trod laidOut (by kernel_rfl) (of_decide_eq_true (by kernel_rfl)) k0 bel lt0) (trodAll_cons_mk (shut_int Tryd.underlying3 w1) (trodAll_cons_mk (shut_int Tryd.underlying23 w2) trodAll_mk0))), rfl, bel.frame _, fun h => by cases h⟩

theorem over : Rows.CrcFlipsSaid :=
  OpenClaim.holds_of_wide 5 Tryd.f5 rfl rfl rfl rfl rfl rfl rfl ⟨rfl, rfl, rfl, rfl, rfl⟩ rfl rfl rfl rfl rfl (by kernel_rfl) Tryd.func5 (by kernel_rfl)
    (of_decide_eq_true (by kernel_rfl)) (by unfold Func.isWrapper; first | (rw [if_pos (by decide +kernel)]; kernel_rfl) | (rw [if_neg (by decide +kernel)]; exact ⟨rfl, rfl⟩))
    (fun os started H enc _ => lifted os started H enc)

theorem proved : Rows.CrcFlipsCardSaid :=
  Claim7.holds_tied_plain_at .later [] [.data] true (true, "20957510d71f0a5438c86a55afcdcc118aef857bddc52df28076e0f755965a9c") false over (fun _ h => by cases h) (by kernel_rfl) (fun _ h => by cases h) crcFlips_row_tie rfl ⟨rfl, rfl⟩ (by kernel_rfl) rfl
    (fun f fn hf hfn => by
      obtain rfl : f = 5 := Option.some.inj ((show Tryd.prog.funcNamed "etui/etuilaw02.CrcFlips" = some 5 by kernel_rfl).symm.trans hf) |>.symm
      obtain rfl : fn = Tryd.f5 := (Option.some.inj (Tryd.func5.symm.trans hfn)).symm
      exact ⟨by kernel_rfl, fun j t ht => by
        rw [Tryd.params5] at ht
        have hm : t ∈ [22, 3, 23] := by
          have := Array.mem_of_getElem? ht
          simp at this ⊢
          omega
        have hall : ([22, 3, 23].all fun u => !Tryd.prog.wantsStandIn u) = true := by kernel_rfl
        exact (show Tryd.prog.wantsStandIn t = false by simpa using List.all_eq_true.1 hall t hm)⟩)
    (by kernel_rfl)
#print axioms proved
end Go.Proofs.YtbepppbpllljdaaDoor.crcFlips
