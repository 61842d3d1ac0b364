import Derived.Test.YtnnkegpnjedneaaDoorX9
/-
  InflateCuts: for every row of bytes, every cut and all that is behind the law returns true and its arguments read as before: no condition beyond the program's table as its initialiser lays it (tied).
-/
namespace Go.Proofs.YtnnkegpnjedneaaDoor.inflateCuts
open Go.ChangeShapes Go.WideShapes Go.ChangeAt Go.RowKit
set_option maxRecDepth 100000

theorem walk_long (ao : Option Addr) (L c : Nat) (k : Int) (bo : Option Addr) (M c2 : Nat) (w : World) (hT : Tab w) (hL : L ≤ 9223372036854775807) (hM : M ≤ 9223372036854775807) (hl : 2000 < L ∨ (L ≤ 2000 ∧ 200 < M)) :
    Calls Tryd.prog 6 #[.slice ao L c, .int .i64 k, .slice bo M c2] w fun e w' => e = .returned (.bool true) ∧ Below w.heap.size w w' := by
  have HA := Lib.hid (alive_any w hT)
  clear hT
  rcases hl with hl | ⟨hl, hl2⟩
  · have hl' : (2000 : Int) < L := by omega
    clear hl
    go_enter Tryd.func6, Tryd.ntmps6
    go_wp2_with fail
    refine HA.out.mono ?_
    rintro e w1 ⟨rfl, hb1⟩
    have HB := Lib.hid hb1
    clear hb1
    go_wp2
    go_ret
    exact ⟨by simp, HB.out⟩
  · have d1 : decide ((2000 : Int) < L) = false := by simp; omega
    have d2 : decide (2000 < L) = false := by simp; omega
    have hl3 : (200 : Int) < M := by omega
    clear hl hl2
    go_enter Tryd.func6, Tryd.ntmps6
    go_wp2_with fail
    refine HA.out.mono ?_
    rintro e w1 ⟨rfl, hb1⟩
    have HB := Lib.hid hb1
    clear hb1
    go_wp2
    go_ret
    exact ⟨by simp, HB.out⟩

theorem walk_bad (ao : Option Addr) (c : Nat) (xs : List Nat) (k : Int) (bo : Option Addr) (M c2 : Nat) (er : Nat) (w : World) (hT : Tab w) (h : BySl w (.slice ao xs.length c) xs) (hb : Bs xs) (hl : xs.length ≤ 2000) (hl2 : M ≤ 200) (hi : infl xs 1048576 = .bad er) :
    Calls Tryd.prog 6 #[.slice ao xs.length c, .int .i64 k, .slice bo M c2] w fun e w' => e = .returned (.bool true) ∧ Below w.heap.size w w' := by
  have HA := Lib.hid (alive_any w hT)
  have HT := Lib.hid hT
  have HS := Lib.hid h
  have HB := Lib.hid hb
  have HI := Lib.hid hi
  have her := infl_nz hb hi
  have d3 : ((er : Int) != 0) = true := by simp; omega
  have e1 : (xs.length : Int) ≤ 2000 := by omega
  have e2 : (M : Int) ≤ 200 := by omega
  clear hT h hb hi her
  go_enter Tryd.func6, Tryd.ntmps6
  go_wp2_with fail
  refine HA.out.mono ?_
  rintro e w1 ⟨rfl, hb1⟩
  have B1 := Lib.hid hb1
  clear hb1
  go_wp2_with fail
  refine (Inflate_bad (limit := 1048576) (HS.out.grow B1.out) HB.out (by omega) (by omega) (HT.out.below B1.out) HI.out).mono ?_
  rintro e w2 ⟨rfl, bel⟩
  have B2 := Lib.hid ((B1.out.on bel).more (Nat.le_refl _) (.cells #[.slice none 0 0, .int .i64 0, .int .i64 0, .int .i64 0] 35))
  clear bel
  go_wp2
  go_ret
  exact ⟨by simp, B2.out⟩

theorem walk_out (ao : Option Addr) (c : Nat) (xs : List Nat) (k : Int) (bo : Option Addr) (M c2 : Nat) (t : Sta) (w : World) (hT : Tab w) (h : BySl w (.slice ao xs.length c) xs) (hb : Bs xs) (hl : xs.length ≤ 2000) (hl2 : M ≤ 200) (hi : infl xs 1048576 = .ok () t) (hk : k < 0 ∨ (0 ≤ k ∧ (((t.at_ + 7) / 8 : Nat) : Int) ≤ k)) :
    Calls Tryd.prog 6 #[.slice ao xs.length c, .int .i64 k, .slice bo M c2] w fun e w' => e = .returned (.bool true) ∧ Below w.heap.size w w' := by
  have HA := Lib.hid (alive_any w hT)
  have HT := Lib.hid hT
  have HS := Lib.hid h
  have HB := Lib.hid hb
  obtain ⟨at_, out, st, bl⟩ := t
  have HI := Lib.hid hi
  have e1 : (xs.length : Int) ≤ 2000 := by omega
  have e2 : (M : Int) ≤ 200 := by omega
  simp only at hk
  obtain ⟨u, hu⟩ : ∃ u, u = (at_ + 7) / 8 := ⟨_, rfl⟩
  have HU := Lib.hid hu
  rw [← hu] at hk
  clear hT h hb hi hu
  rcases hk with hk | ⟨hk0, hk⟩
  · go_enter Tryd.func6, Tryd.ntmps6
    go_wp2_with fail
    refine HA.out.mono ?_
    rintro e w1 ⟨rfl, hb1⟩
    have B1 := Lib.hid hb1
    clear hb1
    go_wp2_with fail
    refine (Inflate_ok (limit := 1048576) (HS.out.grow B1.out) HB.out (by omega) (by omega) (HT.out.below B1.out) HI.out HU.out rfl).mono ?_
    rintro e w2 ⟨ao1, c1, rfl, bel, _⟩
    have B2 := Lib.hid ((B1.out.on bel).more (Nat.le_refl _) (.cells #[.slice ao1 out.length c1, .int .i64 (u : Nat), .int .i64 (st : Nat), .int .i64 (bl : Nat)] 35))
    clear bel
    go_wp2
    go_ret
    exact ⟨by simp, B2.out⟩
  · have d1 : decide (k < 0) = false := by simp; omega
    go_enter Tryd.func6, Tryd.ntmps6
    go_wp2_with fail
    refine HA.out.mono ?_
    rintro e w1 ⟨rfl, hb1⟩
    have B1 := Lib.hid hb1
    clear hb1
    go_wp2_with fail
    refine (Inflate_ok (limit := 1048576) (HS.out.grow B1.out) HB.out (by omega) (by omega) (HT.out.below B1.out) HI.out HU.out rfl).mono ?_
    rintro e w2 ⟨ao1, c1, rfl, bel, _⟩
    have B2 := Lib.hid ((B1.out.on bel).more (Nat.le_refl _) (.cells #[.slice ao1 out.length c1, .int .i64 (u : Nat), .int .i64 (st : Nat), .int .i64 (bl : Nat)] 35))
    clear bel
    go_wp2
    go_ret
    exact ⟨by simp, B2.out⟩

set_option maxHeartbeats 3200000 in
theorem walk_ok (ao : Option Addr) (c : Nat) (xs : List Nat) (k : Nat) (bo : Option Addr) (c2 : Nat) (ys : List Nat) (t : Sta) (w : World) (hT : Tab w) (h : BySl w (.slice ao xs.length c) xs) (hb : Bs xs) (h' : BySl w (.slice bo ys.length c2) ys) (hb' : Bs ys) (hl : xs.length ≤ 2000) (hl2 : ys.length ≤ 200) (hi : infl xs 1048576 = .ok () t) (hk : k < (t.at_ + 7) / 8) :
    Calls Tryd.prog 6 #[.slice ao xs.length c, .int .i64 (k : Nat), .slice bo ys.length c2] w fun e w' => e = .returned (.bool true) ∧ Below w.heap.size w w' := by
  have HA := Lib.hid (alive_any w hT)
  have HT := Lib.hid hT
  have HB := Lib.hid hb
  have HI := Lib.hid hi
  obtain ⟨p1, p2, p3, p4, p5, p6⟩ := infl_pos hb hi
  obtain ⟨b, off, rfl, _, hLc⟩ := h.bs_some (by omega)
  have HS := Lib.hid h
  have HS' := Lib.hid h'
  have HIK := Lib.hid ((infl_used hb hi k).2 hk)
  obtain ⟨at_, out, st, bl⟩ := t
  simp only at p1 p2 p3 p4 p5 p6 hk
  obtain ⟨u, hu⟩ : ∃ u, u = (at_ + 7) / 8 := ⟨_, rfl⟩
  rw [← hu] at hk
  have hbt : Bs (xs.take u) := fun x hx => hb x (List.mem_of_mem_take hx)
  have hba : Bs (xs.take u ++ ys) := fun x hx => (List.mem_append.1 hx).elim (hbt x) (hb' x)
  have HBA := Lib.hid hba
  have HIA := Lib.hid (infl_more hba ((infl_used hb hi u).1 (Nat.le_of_eq hu.symm)))
  obtain ⟨n, hn⟩ : ∃ n, n = out.length := ⟨_, rfl⟩
  obtain ⟨L, hL⟩ : ∃ L, L = xs.length := ⟨_, rfl⟩
  obtain ⟨M, hM⟩ : ∃ M, M = ys.length := ⟨_, rfl⟩
  have HU := Lib.hid hu
  have HN := Lib.hid hn
  have HL := Lib.hid hL
  have HM := Lib.hid hM
  rw [← hL] at hl hLc p3 ⊢
  rw [← hM] at hl2 ⊢
  rw [← hn] at p6
  have k1 : 1 ≤ u := by omega
  have k2 : u ≤ L := by omega
  have htl : (xs.take u).length = u := by rw [List.length_take, ← hL]; omega
  have HTL := Lib.hid htl
  obtain ⟨N, hN⟩ : ∃ N, N = u + M := ⟨_, rfl⟩
  have HNL := Lib.hid (show (xs.take u ++ ys).length = N by rw [List.length_append, htl, ← hM, hN])
  have n3 : u ≤ N := by omega
  have n4 : N ≤ 4000 := by omega
  have e1 : (L : Int) ≤ 2000 := by omega
  have e2 : (M : Int) ≤ 200 := by omega
  clear hT h hb hi p1 p3 p4 p5 hu hn hL h' hb' hM hbt hba htl hN
  go_enter Tryd.func6, Tryd.ntmps6
  go_wp2_with fail
  refine HA.out.mono ?_
  rintro e w1 ⟨rfl, hb1⟩
  have B1 := Lib.hid hb1
  clear hb1
  go_wp2_with fail
  have hS1 := HS.out.grow B1.out
  rw [← HL.out] at hS1
  refine (Inflate_ok (limit := 1048576) hS1 HB.out (by rw [← HL.out]; omega) (by omega) (HT.out.below B1.out) HI.out HU.out HN.out).mono ?_
  rintro e w2 ⟨ao1, c1, rfl, bel, a1'⟩
  have A1 := Lib.hid a1'
  have B2 := Lib.hid ((B1.out.on bel).more (Nat.le_refl _) (.cells #[.slice ao1 n c1, .int .i64 (u : Nat), .int .i64 (st : Nat), .int .i64 (bl : Nat)] 35))
  clear bel a1' hS1 B1
  go_wp2_with fail
  have hS2 := (HS.out.grow B2.out).take k (by rw [← HL.out]; omega)
  refine (Inflate_bad (limit := 1048576) hS2 (fun x hx => HB.out x (List.mem_of_mem_take hx)) (by rw [List.length_take, ← HL.out]; omega) (by omega) (HT.out.below B2.out) HIK.out).mono ?_
  rintro e w3 ⟨rfl, bel⟩
  have bx := (Below.refl w3.heap.size w3).more (Nat.le_refl _) (.cells #[.slice none 0 0, .int .i64 0, .int .i64 0, .int .i64 0] 35)
  have A1' := Lib.hid (A1.out.below (bel.on bx))
  have B3 := Lib.hid (B2.out.on (bel.on bx))
  obtain ⟨x0, x1, x2, x3⟩ := (A1.out.below bel).c
  generalize hq1 : w2.heap.size = q1 at *
  have hq1' : q1 < w3.heap.size := World.block_lt_of_cell? w3 _ x0
  clear bel hS2 A1 B2 bx
  go_wp2_with fail
  have hS3 := (HS.out.grow B3.out).take u (by rw [← HL.out]; exact k2)
  refine (copy_any hS3 (by rw [HTL.out]; omega)).mono ?_
  rintro e w4 ⟨ao3, cc3, rfl, own3, bel⟩
  rw [HTL.out] at own3 ⊢
  have B4 := B3.out.on bel
  have BX := Lib.hid bel
  have OWN := Lib.hid own3
  have hS4 := HS'.out.grow B4
  rw [← HM.out] at hS4
  have HS4 := Lib.hid hS4
  have hq4 := bel.size
  clear bel own3 hS3 hS4 B4
  go_wp2_with (
     (refine wpList_append_x rfl (.tmp 52) (.tmp 53) rfl _ (.slice ao3 u cc3) (.slice bo M c2) (xs.take u) ys rfl rfl (by rw [HTL.out]; exact OWN.out) HS4.out hq4 (by rw [HTL.out, ← HM.out]; omega) ?_; intro ao5 cc5 w5 hA; rw [HNL.out] at hA ⊢; have HA5 := Lib.hid hA; clear hA))
  have own5 := HA5.out.own
  rw [HNL.out] at own5
  have S5 : BySl w5 (.slice ao5 N cc5) (xs.take u ++ ys) := BySl.own (by rw [HNL.out]; exact own5)
  have HS5 := Lib.hid S5
  have bel5 := Apd.kept (xs := xs.take u) (by rw [HTL.out]; exact OWN.out) BX.out HA5.out
  have A15 := A1'.out.below bel5
  have B5 := Lib.hid (B3.out.on bel5)
  clear x0 x1 x2 x3 BX OWN HS4 hq4 HA5 own5 S5 A1' B3 bel5
  refine (Inflate_ok (limit := 1048576) HS5.out HBA.out (by rw [HNL.out]; omega) (by omega) (HT.out.below B5.out) HIA.out HU.out HN.out).mono ?_
  rintro e w6 ⟨ao6, c6, rfl, bel, a6'⟩
  have bx := (Below.refl w6.heap.size w6).more (Nat.le_refl _) (.cells #[.slice ao6 n c6, .int .i64 (u : Nat), .int .i64 (st : Nat), .int .i64 (bl : Nat)] 35)
  have A6 := Lib.hid a6'
  have A16 := Lib.hid (A15.below (bel.on bx))
  have B6 := Lib.hid (B5.out.on (bel.on bx))
  obtain ⟨x0, x1, x2, x3⟩ := (A15.below bel).c
  have hq1' : q1 < w6.heap.size := World.block_lt_of_cell? w6 _ x0
  clear A15 B5 HS5 bel a6'
  go_wp2_with fail
  refine (same_any A16.out.by A6.out.by (by rw [← HN.out]; omega)).mono ?_
  rintro e w7 ⟨he, nq, hw⟩
  rw [decide_eq_true rfl] at he
  subst he
  have by_ := below_drewN (Below.refl (box4 w6 (.slice ao6 n c6) u st bl).heap.size (box4 w6 (.slice ao6 n c6) u st bl)) nq
  rw [← hw] at by_
  have A7 := A6.out.below by_
  have A17 := A16.out.below by_
  have B7 := Lib.hid (B6.out.on by_)
  clear x0 x1 x2 x3 hw by_ bx A6 A16 B6 hq1'
  obtain ⟨x0, x1, x2, x3⟩ := A7.c
  obtain ⟨y0, y1, y2, y3⟩ := A17.c
  clear A7 A17
  go_wp2
  go_ret
  exact ⟨rfl, B7.out⟩

theorem walk (ao : Option Addr) (c : Nat) (xs : List Nat) (k : Int) (bo : Option Addr) (c2 : Nat) (ys : List Nat) (w : World) (hT : Tab w) (h : BySl w (.slice ao xs.length c) xs) (hb : Bs xs) (h' : BySl w (.slice bo ys.length c2) ys) (hb' : Bs ys) (hlm : xs.length ≤ 9223372036854775807) (hlm2 : ys.length ≤ 9223372036854775807) :
    Calls Tryd.prog 6 #[.slice ao xs.length c, .int .i64 k, .slice bo ys.length c2] w fun e w' => e = .returned (.bool true) ∧ Below w.heap.size w w' := by
  by_cases h1 : 2000 < xs.length ∨ (xs.length ≤ 2000 ∧ 200 < ys.length)
  · exact walk_long ao xs.length c k bo ys.length c2 w hT (by omega) (by omega) h1
  · cases hi : infl xs 1048576 with
    | bad er => exact walk_bad ao c xs k bo ys.length c2 er w hT h hb (by omega) (by omega) hi
    | ok _ t =>
      by_cases hk : k < 0 ∨ (0 ≤ k ∧ (((t.at_ + 7) / 8 : Nat) : Int) ≤ k)
      · exact walk_out ao c xs k bo ys.length c2 t w hT h hb (by omega) (by omega) hi hk
      · obtain ⟨ka, kb⟩ := not_or.1 hk
        obtain ⟨j, rfl⟩ := Int.eq_ofNat_of_zero_le (Int.not_lt.1 ka)
        have kc : j < (t.at_ + 7) / 8 := Nat.lt_of_not_le fun h0 => kb ⟨Int.natCast_nonneg j, Int.ofNat_le.2 h0⟩
        exact walk_ok ao c xs j bo c2 ys t w hT h hb h' hb' (by omega) (by omega) hi kc

set_option maxRecDepth 100000 in
theorem lifted (os : Os) (started : os.Started) (H : Type) (enc : TypeId × Value → H) :
    ReturnsInHanded {} Tryd.checked os 6 .any (fun w args => (Rows.inflateCutsSpec.pre enc Tryd.prog Tryd.f6 Rows.inflateCutsRow.domain false w args ∧ laidMetH Tryd.prog laidL w) ∧ sizedMet enc Tryd.prog Tryd.f6 (OpenSpec.ofChange Rows.inflateCutsSpec) false w args)
      (Rows.inflateCutsSpec.post enc Tryd.prog Tryd.f6 false true false false) := by
  refine returnsInHanded_of_change_and (C := Tryd.checked) (X := fun w _ => laidMetH Tryd.prog laidL w) (fun _ _ _ hh h => h.of_heap hh) own started (by kernel_rfl) Tryd.func6
    (ChangeSpec.witness_shaped (enc := enc) (C := Tryd.checked) (os := os) (X := fun w _ => laidMetH Tryd.prog laidL w) false (World.laidAll Tryd.prog os laidL) #[.slice none 0 0, .int .i64 0, .slice none 0 0] 8 (World.laidAll_os _ _ _)
      (World.shaped_of_ZipB (by kernel_rfl) (by kernel_rfl)) (by kernel_rfl) (by kernel_rfl) (by kernel_rfl)
      (by rw [MakeChecks.laidMetH_plain _ _ _ (by kernel_rfl)]; exact laidMet_laidAll _ (by kernel_rfl) (by kernel_rfl))) ?_
  intro W base args ds gs before hval0 hW hcnd _ hL _
  have hval : ∀ (j : Nat) t v, Tryd.f6.params[j]? = some t → args[j]? = some v → Value.okWide Tryd.prog W .any base t v := hval0
  have hW' := hW
  obtain ⟨p, q, hA0, hV, rfl, hfz, hnd⟩ := hW
  have hA : DataW.TrodAll enc Tryd.prog W 0 (fun _ => true) true Tryd.f6.params.toList args.toList ds p := hA0
  rw [Tryd.params6] at hA hval
  obtain ⟨v0, vs0, d0, ds0, p0, q0, hargs, rfl, rfl, h0, r0⟩ := trodAll_cons hA
  obtain ⟨v1, vs1, d1, ds1, p1, q1, rfl, rfl, rfl, h1, r1⟩ := trodAll_cons r0
  obtain ⟨v2, vs2, d2, ds2, p2, q2, rfl, rfl, rfl, h2, r2⟩ := trodAll_cons r1
  obtain ⟨rfl, rfl, rfl⟩ := trodAll_nil r2
  obtain rfl : args = #[v0, v1, v2] := by cases args; simp_all
  obtain ⟨rfl, rfl⟩ := trodVars_none hV
  obtain ⟨a0, len0, cap0, rfl⟩ := okWide_slice Tryd.underlying22 (hval 0 22 v0 rfl rfl)
  have k0 := h0
  have lt0 : ∀ x ∈ p0, x.block < W.heap.size := by obtain ⟨m, hm⟩ := k0; exact DataW.trod_lt m _ _ _ hm
  obtain ⟨xs0, rfl, hb0, hs0, hlc0, hcm0⟩ : ∃ xs : List Nat, xs.length = len0 ∧ Bs xs ∧ BySl W (.slice a0 len0 cap0) xs ∧ len0 ≤ cap0 ∧ cap0 ≤ maxLen := by
    obtain ⟨fuel, hf⟩ := h0
    exact by_open (by simpa [Value.cells] using hf)
  obtain ⟨a1, rfl, rfl, rfl, w1⟩ := open_int Tryd.underlying3 (hval 1 3 v1 rfl rfl) h1
  obtain ⟨a2, len2, cap2, rfl⟩ := okWide_slice Tryd.underlying22 (hval 2 22 v2 rfl rfl)
  have k2 := h2
  have lt2 : ∀ x ∈ p2, x.block < W.heap.size := by obtain ⟨m, hm⟩ := k2; exact DataW.trod_lt m _ _ _ hm
  obtain ⟨xs2, rfl, hb2, hs2, hlc2, hcm2⟩ : ∃ xs : List Nat, xs.length = len2 ∧ Bs xs ∧ BySl W (.slice a2 len2 cap2) xs ∧ len2 ≤ cap2 ∧ cap2 ≤ maxLen := by
    obtain ⟨fuel, hf⟩ := h2
    exact by_open (by simpa [Value.cells] using hf)
  unfold maxLen at hcm0 hcm2
  clear hA0 hval0
  refine (walk a0 cap0 xs0 a1 a2 cap2 xs2 W (tab_of hL) hs0 hb0 hs2 hb2 (by omega) (by omega)).mono fun e W' ⟨he, bel⟩ => ?_
  subst he
  exact ⟨_, rfl, _, _, _, [], _, [], hW', trodAll_mk1 (shut_bool Tryd.underlying4 _), (trodAll_cons_mk (Below.trod laidOut (by kernel_rfl) (of_decide_eq_true (by kernel_rfl)) k0 bel lt0) (trodAll_cons_mk (shut_int Tryd.underlying3 w1) (trodAll_cons_mk (Below.trod laidOut (by kernel_rfl) (of_decide_eq_true (by kernel_rfl)) k2 bel lt2) trodAll_mk0))), rfl, bel.frame _, fun h => by cases h⟩

theorem over : Rows.InflateCutsSaid :=
  OpenClaim.holds_of_wide 6 Tryd.f6 rfl rfl rfl rfl rfl rfl rfl ⟨rfl, rfl, rfl, rfl, rfl⟩ rfl rfl rfl rfl rfl (by kernel_rfl) Tryd.func6 (by kernel_rfl)
    (of_decide_eq_true (by kernel_rfl)) (by unfold Func.isWrapper; first | (rw [if_pos (by decide +kernel)]; kernel_rfl) | (rw [if_neg (by decide +kernel)]; exact ⟨rfl, rfl⟩))
    (fun os started H enc _ => lifted os started H enc)

theorem proved : Rows.InflateCutsCardSaid :=
  Claim7.holds_tied_plain_at .later [] [.data] true (true, "92355ac838773404caa423fded1d207c8b642718b7fb2225f8dda74b268a5197") true over (fun _ h => by cases h) (by kernel_rfl) (fun _ h => by cases h) inflateCuts_row_tie rfl ⟨rfl, rfl⟩ (by kernel_rfl) rfl
    (fun f fn hf hfn => by
      obtain rfl : f = 6 := Option.some.inj ((show Tryd.prog.funcNamed "etui/etuilaw06.InflateCuts" = some 6 by kernel_rfl).symm.trans hf) |>.symm
      obtain rfl : fn = Tryd.f6 := (Option.some.inj (Tryd.func6.symm.trans hfn)).symm
      exact ⟨by kernel_rfl, fun j t ht => by
        rw [Tryd.params6] at ht
        have hm : t ∈ [22, 3] := by
          have := Array.mem_of_getElem? ht
          simp at this ⊢
          first | exact this | exact this.symm | (rcases this with rfl | rfl | rfl <;> simp) | (rcases this with rfl | rfl <;> simp)
        have hall : ([22, 3].all fun u => !Tryd.prog.wantsStandIn u) = true := by kernel_rfl
        exact (show Tryd.prog.wantsStandIn t = false by simpa using List.all_eq_true.1 hall t hm)⟩)
    (by kernel_rfl)
#print axioms proved
end Go.Proofs.YtnnkegpnjedneaaDoor.inflateCuts

