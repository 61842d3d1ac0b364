import Derived.Test.YtnnkegpnjedneaaDoorX11
import Derived.Deep.LoopGhost
/-
  InflateStored: for every row of rows of bytes the law returns true and its arguments read as before: no condition beyond the program's table as its initialiser lays it (tied).
-/
namespace Go.Proofs.YtnnkegpnjedneaaDoor.inflateStored
open Go.ChangeShapes Go.WideShapes Go.ChangeAt Go.RowKit
set_option maxRecDepth 100000

theorem xor8 : ∀ x, x < 256 → bits BinOp.xor IntKind.u8 IntKind.u8.max ((x : Nat) : Int) = ((255 - x : Nat) : Int) := by decide +kernel

theorem walk_out (a : Option Addr) (n c : Nat) (w : World) (hT : Tab w) (hm : n ≤ 9223372036854775807) (h : 20 < n ∨ n = 0) :
    Calls Tryd.prog 7 #[.slice a n c] w fun e w' => e = .returned (.bool true) ∧ Below w.heap.size w w' := by
  have HA := Lib.hid (alive_any w hT)
  clear hT
  rcases h with h | rfl
  · have h' : (20 : Int) < n := by omega
    clear h
    go_enter Tryd.func7, Tryd.ntmps7
    go_wp2_with fail
    refine HA.out.mono ?_
    rintro e w1 ⟨rfl, hb1⟩
    have HB := Lib.hid hb1
    clear hb1
    go_wp2
    go_ret
    exact ⟨by simp, HB.out⟩
  · go_enter Tryd.func7, Tryd.ntmps7
    go_wp2_with fail
    refine HA.out.mono ?_
    rintro e w1 ⟨rfl, hb1⟩
    have HB := Lib.hid hb1
    clear hb1
    go_wp2
    go_ret
    exact ⟨by simp, HB.out⟩

set_option maxHeartbeats 6400000 in
theorem walk_in (b off n c : Nat) (f : Nat → List Nat) (A : Nat → Option Addr) (C : Nat → Nat) (w : World) (hT : Tab w) (h1 : 1 ≤ n) (h2 : n ≤ 20) (hL : ∀ i, i < n → Elt w ⟨b, off + i, none⟩ (A i) (C i) (f i)) :
    Calls Tryd.prog 7 #[.slice (some ⟨b, off, none⟩) n c] w fun e w' => e = .returned (.bool true) ∧ Below w.heap.size w w' := by
  have HA := Lib.hid (alive_any w hT)
  have HT := Lib.hid hT
  have HL := Lib.hid hL
  have e1 : (n : Int) ≤ 20 := by omega
  have e2 : ((n : Int) == 0) = false := by simp; omega
  have e3 : (n == 0) = false := by simp; omega
  clear hT hL
  go_enter Tryd.func7, Tryd.ntmps7
  go_wp2_with fail
  refine HA.out.mono ?_
  rintro e w1 ⟨rfl, hb1⟩
  have B1 := Lib.hid hb1
  have HS := Lib.hid (Twb.start w1)
  obtain ⟨B, hB⟩ : ∃ B, B = w1.heap.size := ⟨_, rfl⟩
  rw [← hB] at HS
  have HB := Lib.hid hB
  clear hb1
  go_wp2
  rw [← hB] at ⊢
  clear hB
  go_loopg [3, 4, 5] 21 (fun gm v1 v2 vi wr => ∃ (i : Nat) (ao1 : Option Addr) (c1 : Nat) (ao2 : Option Addr) (c2 n1 n2 : Nat), i ≤ n ∧ 21 - i ≤ gm ∧ v1 = .slice ao1 n1 c1 ∧ v2 = .slice ao2 n2 c2 ∧ vi = .int .i64 (i : Nat) ∧ n1 ≤ 3005 * i ∧ n2 ≤ 3000 * i ∧ Hid (n1 = (pre f n i).length) ∧ Hid (n2 = (fla f i).length) ∧ Hid (∀ j, j < i → (f j).length ≤ 3000) ∧ Hid (Twb B w1 wr (.slice ao1 n1 c1) (pre f n i) (.slice ao2 n2 c2) (fla f i)))
  case atStart => exact ⟨0, _, _, _, _, 0, 0, by omega, by omega, rfl, rfl, rfl, by omega, by omega, Lib.hid rfl, Lib.hid rfl, Lib.hid (fun j hj => absurd hj (by omega)), HS⟩
  case round =>
    clear HS
    obtain ⟨i, ao1, c1, ao2, c2, n1, n2, hi, hgm, rfl, rfl, rfl, hn1, hn2, HN1, HN, HF, HX⟩ := hrel
    have HBW := Lib.hid (show ∀ W, Below B w1 W → Below w.heap.size w W from fun W hW => B1.out.trans ((show Below w1.heap.size w1 W from HB.out ▸ hW).mono B1.out.size))
    by_cases hlt : i < n
    · have h0 : (i : Int) < n := by omega
      have hi0 : (0 : Int) ≤ i := by omega
      obtain ⟨m, hm⟩ : ∃ m, m = (f i).length := ⟨_, rfl⟩
      have HM := Lib.hid hm
      obtain ⟨ae, hae⟩ : ∃ ae, ae = A i := ⟨_, rfl⟩
      obtain ⟨ke, hke⟩ : ∃ ke, ke = C i := ⟨_, rfl⟩
      have hE0 := HL.out i hlt
      have hbf := Lib.hid hE0.bs
      have hml : m ≤ 9223372036854775807 := by have := hE0.len; unfold maxLen at this; omega
      have ELT : Hid (∀ W, Below B w1 W → W.cell? ⟨b, off + i, none⟩ = some (.slice ae m ke) ∧ BySl W (.slice ae m ke) (f i)) := Lib.hid fun W hW => by
        have k := hE0.below (HBW.out W hW)
        rw [hm, hae, hke]
        exact ⟨k.cell, k.by_⟩
      have ce := (ELT.out wr HX.out.below).1
      have E3 := Lib.hid (show (fla f i ++ f i).length = n2 + m by rw [List.length_append, ← HN.out, ← hm])
      clear hae hke hE0
      by_cases hm3 : 3000 < m
      · have hm4 : (3000 : Int) < m := by omega
        clear hm
        go_wp2
        refine bodyPost_ret (results_tmp rfl _ _ _) rfl ⟨rfl, HBW.out _ HX.out.below⟩
      · have hm4 : ¬ (3000 : Int) < m := by omega
        have HF2 := Lib.hid (show ∀ j, j < i + 1 → (f j).length ≤ 3000 from fun j hj => by
          rcases Nat.lt_or_eq_of_le (Nat.le_of_lt_succ hj) with h | rfl
          · exact HF.out j h
          · omega)
        obtain ⟨x0, hx0⟩ : ∃ x, x = m % 256 := ⟨_, rfl⟩
        obtain ⟨x1, hx1⟩ : ∃ x, x = m / 256 := ⟨_, rfl⟩
        obtain ⟨y0, hy0⟩ : ∃ y, y = 255 - x0 := ⟨_, rfl⟩
        obtain ⟨y1, hy1⟩ : ∃ y, y = 255 - x1 := ⟨_, rfl⟩
        have q0 : (m : Int) % 256 = (x0 : Int) := by omega
        have q1 : (m : Int) / 256 = (x1 : Int) := by omega
        have z0 := xor8 x0 (by omega)
        have z1 := xor8 x1 (by omega)
        rw [← hy0] at z0
        rw [← hy1] at z1
        rw [hx0] at hy0
        rw [hx1] at hy1
        have Z0 := Lib.hid (show bits BinOp.xor IntKind.u8 (if IntKind.u8.signed = true then -1 else IntKind.u8.max) (x0 : Int) = (y0 : Nat) from z0)
        have Z1 := Lib.hid (show bits BinOp.xor IntKind.u8 (if IntKind.u8.signed = true then -1 else IntKind.u8.max) (x1 : Int) = (y1 : Nat) from z1)
        have HX0 := Lib.hid hx0
        have HX1 := Lib.hid hx1
        have HY0 := Lib.hid hy0
        have HY1 := Lib.hid hy1
        have b0 : x0 < 256 := by omega
        have b1 : x1 < 256 := by omega
        clear hx0 hx1 hy0 hy1 hm
        by_cases hla : i + 1 = n
        · have hla' := hla
          have d1 : ((i : Int) == (n : Int) - 1) = true := by simp; omega
          have X0 := Lib.hid (HX.out.grow ((Below.refl wr.heap.size wr).more (Nat.le_refl _) (.cells #[.int .u8 1, .int .u8 (x0 : Nat), .int .u8 (x1 : Nat), .int .u8 (y0 : Nat), .int .u8 (y1 : Nat)] 5)))
          have LIT := Lib.hid (by_lit wr (hd 1 m) #[.int .u8 1, .int .u8 (x0 : Nat), .int .u8 (x1 : Nat), .int .u8 (y0 : Nat), .int .u8 (y1 : Nat)] 5 _ rfl rfl (by rw [HX0.out, HX1.out, HY0.out, HY1.out]; rfl))
          have E1 := Lib.hid (show (pre f n i ++ hd 1 m).length = n1 + 5 by rw [List.length_append, ← HN1.out]; rfl)
          have E2 := Lib.hid (show (pre f n i ++ hd 1 m ++ f i).length = n1 + 5 + m by rw [List.length_append, E1.out, ← HM.out])
          have EP := Lib.hid (show pre f n (i + 1) = pre f n i ++ hd 1 m ++ f i by rw [pre, if_pos hla, ← HM.out, List.append_assoc])
          go_wp2_with (first
            | (rw [Z0.out, Z1.out]; refine wpList_append_x rfl (.tmp 40) (.tmp 54) rfl B (.slice ao1 n1 c1) (.slice (some ⟨wr.heap.size, 0, none⟩) 5 5) (pre f n i) (hd 1 m) rfl rfl X0.out.own1 LIT.out X0.out.size (by rw [← HN1.out]; simp [hd]; omega) ?_; intro ao3 c3 w3 hA; have X3 := Lib.hid (show Twb B w1 w3 (.slice ao3 (n1 + 5) c3) (pre f n i ++ hd 1 m) (.slice ao2 n2 c2) (fla f i) from by rw [← E1.out]; exact X0.out.app1 hA); rw [E1.out]; have hE3 := ELT.out w3 X3.out.below; have ce := hE3.1; have S3 := Lib.hid hE3.2; clear hA hE3)
            | (refine wpList_append_x rfl (.tmp 56) (.tmp 60) rfl B (.slice ao3 (n1 + 5) c3) (.slice ae m ke) (pre f n i ++ hd 1 m) (f i) rfl rfl X3.out.own1 S3.out X3.out.size (by rw [E1.out, ← HM.out]; omega) ?_; intro ao4 c4 w4 hA; have X4 := Lib.hid (show Twb B w1 w4 (.slice ao4 (n1 + 5 + m) c4) (pre f n i ++ hd 1 m ++ f i) (.slice ao2 n2 c2) (fla f i) from by rw [← E2.out]; exact X3.out.app1 hA); rw [E2.out]; have hE4 := ELT.out w4 X4.out.below; have ce := hE4.1; have S4 := Lib.hid hE4.2; clear hA hE4)
            | (refine wpList_append_x rfl (.tmp 62) (.tmp 66) rfl B (.slice ao2 n2 c2) (.slice ae m ke) (fla f i) (f i) rfl rfl X4.out.own2 S4.out X4.out.size (by rw [← HN.out, ← HM.out]; omega) ?_; intro ao5 c5 w5 hA; have X5 := Lib.hid (show Twb B w1 w5 (.slice ao4 (n1 + 5 + m) c4) (pre f n i ++ hd 1 m ++ f i) (.slice ao5 (n2 + m) c5) (fla f i ++ f i) from by rw [← E3.out]; exact X4.out.app2 hA); rw [E3.out]; clear hA))
          go_roundg (21 - (i + 1))
          case measure => omega
          case rel =>
            refine ⟨i + 1, ao4, c4, ao5, c5, n1 + 5 + m, n2 + m, by omega, Nat.le_refl _, rfl, rfl, rfl, by omega, by omega, Lib.hid ?_, Lib.hid ?_, Lib.hid ?_, Lib.hid ?_⟩
            · rw [EP.out]; exact E2.out.symm
            · exact E3.out.symm
            · exact HF2.out
            · rw [EP.out]; exact X5.out
        · have hla' := hla
          have d1 : ((i : Int) == (n : Int) - 1) = false := by simp; omega
          have X0 := Lib.hid (HX.out.grow ((Below.refl wr.heap.size wr).more (Nat.le_refl _) (.cells #[.int .u8 0, .int .u8 (x0 : Nat), .int .u8 (x1 : Nat), .int .u8 (y0 : Nat), .int .u8 (y1 : Nat)] 5)))
          have LIT := Lib.hid (by_lit wr (hd 0 m) #[.int .u8 0, .int .u8 (x0 : Nat), .int .u8 (x1 : Nat), .int .u8 (y0 : Nat), .int .u8 (y1 : Nat)] 5 _ rfl rfl (by rw [HX0.out, HX1.out, HY0.out, HY1.out]; rfl))
          have E1 := Lib.hid (show (pre f n i ++ hd 0 m).length = n1 + 5 by rw [List.length_append, ← HN1.out]; rfl)
          have E2 := Lib.hid (show (pre f n i ++ hd 0 m ++ f i).length = n1 + 5 + m by rw [List.length_append, E1.out, ← HM.out])
          have EP := Lib.hid (show pre f n (i + 1) = pre f n i ++ hd 0 m ++ f i by rw [pre, if_neg hla, ← HM.out, List.append_assoc])
          go_wp2_with (first
            | (rw [Z0.out, Z1.out]; refine wpList_append_x rfl (.tmp 40) (.tmp 54) rfl B (.slice ao1 n1 c1) (.slice (some ⟨wr.heap.size, 0, none⟩) 5 5) (pre f n i) (hd 0 m) rfl rfl X0.out.own1 LIT.out X0.out.size (by rw [← HN1.out]; simp [hd]; omega) ?_; intro ao3 c3 w3 hA; have X3 := Lib.hid (show Twb B w1 w3 (.slice ao3 (n1 + 5) c3) (pre f n i ++ hd 0 m) (.slice ao2 n2 c2) (fla f i) from by rw [← E1.out]; exact X0.out.app1 hA); rw [E1.out]; have hE3 := ELT.out w3 X3.out.below; have ce := hE3.1; have S3 := Lib.hid hE3.2; clear hA hE3)
            | (refine wpList_append_x rfl (.tmp 56) (.tmp 60) rfl B (.slice ao3 (n1 + 5) c3) (.slice ae m ke) (pre f n i ++ hd 0 m) (f i) rfl rfl X3.out.own1 S3.out X3.out.size (by rw [E1.out, ← HM.out]; omega) ?_; intro ao4 c4 w4 hA; have X4 := Lib.hid (show Twb B w1 w4 (.slice ao4 (n1 + 5 + m) c4) (pre f n i ++ hd 0 m ++ f i) (.slice ao2 n2 c2) (fla f i) from by rw [← E2.out]; exact X3.out.app1 hA); rw [E2.out]; have hE4 := ELT.out w4 X4.out.below; have ce := hE4.1; have S4 := Lib.hid hE4.2; clear hA hE4)
            | (refine wpList_append_x rfl (.tmp 62) (.tmp 66) rfl B (.slice ao2 n2 c2) (.slice ae m ke) (fla f i) (f i) rfl rfl X4.out.own2 S4.out X4.out.size (by rw [← HN.out, ← HM.out]; omega) ?_; intro ao5 c5 w5 hA; have X5 := Lib.hid (show Twb B w1 w5 (.slice ao4 (n1 + 5 + m) c4) (pre f n i ++ hd 0 m ++ f i) (.slice ao5 (n2 + m) c5) (fla f i ++ f i) from by rw [← E3.out]; exact X4.out.app2 hA); rw [E3.out]; clear hA))
          go_roundg (21 - (i + 1))
          case measure => omega
          case rel =>
            refine ⟨i + 1, ao4, c4, ao5, c5, n1 + 5 + m, n2 + m, by omega, Nat.le_refl _, rfl, rfl, rfl, by omega, by omega, Lib.hid ?_, Lib.hid ?_, Lib.hid ?_, Lib.hid ?_⟩
            · rw [EP.out]; exact E2.out.symm
            · exact E3.out.symm
            · exact HF2.out
            · rw [EP.out]; exact X5.out
    · obtain rfl : i = n := by omega
      have hff : ∀ j, j < i → Bs (f j) ∧ (f j).length ≤ 3000 := fun j hj => ⟨(HL.out j hj).bs, HF.out j hj⟩
      have HI := Lib.hid (infl_pre (lim := n2) hff (by omega) (by rw [← HN.out]; omega))
      have hpb := Lib.hid (pre_bs f i i hff)
      have hpl := pre_len f i i
      rw [← HN1.out, ← HN.out] at hpl
      have HPL := Lib.hid hpl
      clear hff hlt hgm hn1 hpl
      have n6 : n1 ≤ 100000 := by have := HPL.out; omega
      have n7 : n2 ≤ 100000 := by omega
      have own1 := HX.out.own1
      have own2 := HX.out.own2
      rw [← HN1.out] at own1
      rw [← HN.out] at own2
      have S1 := Lib.hid (show BySl wr (.slice ao1 n1 c1) (pre f i i) from BySl.own (by rw [← HN1.out]; exact own1))
      have S2 := Lib.hid (show BySl wr (.slice ao2 n2 c2) (fla f i) from BySl.own (by rw [← HN.out]; exact own2))
      have BW := Lib.hid (HBW.out _ HX.out.below)
      clear own1 own2
      go_wp2_with fail
      have hu : n1 = (8 * (pre f i i).length + 7) / 8 := by rw [← HN1.out]; omega
      have hi1 : infl (pre f i i) ((n2 : Int)).toNat = .ok () ⟨8 * (pre f i i).length, fla f i, n2, i⟩ := by
        have := HI.out
        rw [← HN.out] at this
        exact this
      refine (Inflate_ok (n := n2) S1.out hpb.out (by rw [← HN1.out]; exact n6) (by omega) (HT.out.below BW.out) hi1 hu HN.out).mono ?_
      rintro e w2 ⟨ao3, c3, rfl, bel, a1'⟩
      have bx := (Below.refl w2.heap.size w2).more (Nat.le_refl _) (.cells #[.slice ao3 n2 c3, .int .i64 (n1 : Nat), .int .i64 (n2 : Nat), .int .i64 (i : Nat)] 35)
      have A1 := Lib.hid a1'
      have S3 := Lib.hid (S2.out.grow (bel.on bx))
      have B3 := Lib.hid (BW.out.on (bel.on bx))
      clear bel a1' hu hi1
      go_wp2_with fail
      refine (same_any A1.out.by S3.out (by rw [← HN.out]; omega)).mono ?_
      rintro e w4 ⟨he, nq, hw⟩
      rw [decide_eq_true rfl] at he
      subst he
      have by_ := below_drewN (Below.refl (box4 w2 (.slice ao3 n2 c3) n1 n2 i).heap.size (box4 w2 (.slice ao3 n2 c3) n1 n2 i)) nq
      rw [← hw] at by_
      obtain ⟨x0, x1, x2, x3⟩ := (A1.out.below by_).c
      have B4 := Lib.hid (B3.out.on by_)
      clear hw by_ bx A1 B3
      go_wp2
      go_ret
      exact ⟨rfl, B4.out⟩

theorem walk (a : Option Addr) (n c : Nat) (f : Nat → List Nat) (A : Nat → Option Addr) (C : Nat → Nat) (w : World) (hT : Tab w) (h : LstB w a n f A C) (hm : n ≤ 9223372036854775807) :
    Calls Tryd.prog 7 #[.slice a n c] w fun e w' => e = .returned (.bool true) ∧ Below w.heap.size w w' := by
  by_cases h0 : 20 < n ∨ n = 0
  · exact walk_out a n c w hT hm h0
  · rcases h with h | ⟨b, off, rfl, h⟩
    · exact absurd (Or.inr h) h0
    · exact walk_in b off n c f A C w hT (by omega) (by omega) h

set_option maxRecDepth 100000 in
theorem lifted (os : Os) (started : os.Started) (H : Type) (enc : TypeId × Value → H) :
    ReturnsInHanded {} Tryd.checked os 7 .any (fun w args => (Rows.inflateStoredSpec.pre enc Tryd.prog Tryd.f7 Rows.inflateStoredRow.domain false w args ∧ laidMetH Tryd.prog laidL w) ∧ sizedMet enc Tryd.prog Tryd.f7 (OpenSpec.ofChange Rows.inflateStoredSpec) false w args)
      (Rows.inflateStoredSpec.post enc Tryd.prog Tryd.f7 false true false false) := by
  refine returnsInHanded_of_change_and (C := Tryd.checked) (X := fun w _ => laidMetH Tryd.prog laidL w) (fun _ _ _ hh h => h.of_heap hh) own started (by kernel_rfl) Tryd.func7
    (ChangeSpec.witness_shaped (enc := enc) (C := Tryd.checked) (os := os) (X := fun w _ => laidMetH Tryd.prog laidL w) false (World.laidAll Tryd.prog os laidL) #[.slice none 0 0] 8 (World.laidAll_os _ _ _)
      (World.shaped_of_ZipB (by kernel_rfl) (by kernel_rfl)) (by kernel_rfl) (by kernel_rfl) (by kernel_rfl)
      (by rw [MakeChecks.laidMetH_plain _ _ _ (by kernel_rfl)]; exact laidMet_laidAll _ (by kernel_rfl) (by kernel_rfl))) ?_
  intro W base args ds gs before hval0 hW hcnd _ hL _
  have hval : ∀ (j : Nat) t v, Tryd.f7.params[j]? = some t → args[j]? = some v → Value.okWide Tryd.prog W .any base t v := hval0
  have hW' := hW
  obtain ⟨p, q, hA0, hV, rfl, hfz, hnd⟩ := hW
  have hA : DataW.TrodAll enc Tryd.prog W 0 (fun _ => true) true Tryd.f7.params.toList args.toList ds p := hA0
  rw [Tryd.params7] at hA hval
  obtain ⟨v0, vs0, d0, ds0, p0, q0, hargs, rfl, rfl, h0, r0⟩ := trodAll_cons hA
  obtain ⟨rfl, rfl, rfl⟩ := trodAll_nil r0
  obtain rfl : args = #[v0] := by cases args; simp_all
  obtain ⟨rfl, rfl⟩ := trodVars_none hV
  obtain ⟨a0, len0, cap0, rfl⟩ := okWide_slice Tryd.underlying40 (hval 0 40 v0 rfl rfl)
  have k0 := h0
  have lt0 : ∀ x ∈ p0, x.block < W.heap.size := by obtain ⟨m, hm⟩ := k0; exact DataW.trod_lt m _ _ _ hm
  obtain ⟨f0, A0, C0, hl0, hcm0⟩ : ∃ f A C, LstB W a0 len0 f A C ∧ len0 ≤ maxLen := by
    obtain ⟨fuel, hf⟩ := h0
    exact lst_open (by simpa [Value.cells] using hf)
  unfold maxLen at hcm0
  clear hA0 hval0
  refine (walk a0 len0 cap0 f0 A0 C0 W (tab_of hL) hl0 (by omega)).mono fun e W' ⟨he, bel⟩ => ?_
  subst he
  exact ⟨_, rfl, _, _, _, [], _, [], hW', trodAll_mk1 (shut_bool Tryd.underlying4 _), (trodAll_cons_mk (Below.trod laidOut (by kernel_rfl) (of_decide_eq_true (by kernel_rfl)) k0 bel lt0) trodAll_mk0), rfl, bel.frame _, fun h => by cases h⟩

theorem over : Rows.InflateStoredSaid :=
  OpenClaim.holds_of_wide 7 Tryd.f7 rfl rfl rfl rfl rfl rfl rfl ⟨rfl, rfl, rfl, rfl, rfl⟩ rfl rfl rfl rfl rfl (by kernel_rfl) Tryd.func7 (by kernel_rfl)
    (of_decide_eq_true (by kernel_rfl)) (by unfold Func.isWrapper; first | (rw [if_pos (by decide +kernel)]; kernel_rfl) | (rw [if_neg (by decide +kernel)]; exact ⟨rfl, rfl⟩))
    (fun os started H enc _ => lifted os started H enc)

theorem proved : Rows.InflateStoredCardSaid :=
  Claim7.holds_tied_plain_at .later [] [.data] true (true, "92355ac838773404caa423fded1d207c8b642718b7fb2225f8dda74b268a5197") true over (fun _ h => by cases h) (by kernel_rfl) (fun _ h => by cases h) inflateStored_row_tie rfl ⟨rfl, rfl⟩ (by kernel_rfl) rfl
    (fun f fn hf hfn => by
      obtain rfl : f = 7 := Option.some.inj ((show Tryd.prog.funcNamed "etui/etuilaw06.InflateStored" = some 7 by kernel_rfl).symm.trans hf) |>.symm
      obtain rfl : fn = Tryd.f7 := (Option.some.inj (Tryd.func7.symm.trans hfn)).symm
      exact ⟨by kernel_rfl, fun j t ht => by
        rw [Tryd.params7] at ht
        have hm : t ∈ [40] := by
          have := Array.mem_of_getElem? ht
          simp at this ⊢
          omega
        have hall : ([40].all fun u => !Tryd.prog.wantsStandIn u) = true := by kernel_rfl
        exact (show Tryd.prog.wantsStandIn t = false by simpa using List.all_eq_true.1 hall t hm)⟩)
    (by kernel_rfl)
#print axioms proved
end Go.Proofs.YtnnkegpnjedneaaDoor.inflateStored

