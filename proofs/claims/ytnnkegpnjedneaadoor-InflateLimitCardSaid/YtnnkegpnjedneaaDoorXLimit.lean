import Derived.Test.YtnnkegpnjedneaaDoorX9
/-
  InflateLimit: for every row of bytes and every limit the law returns true and its arguments read as before: no condition beyond the program's table as its initialiser lays it (tied).
-/
namespace Go.Proofs.YtnnkegpnjedneaaDoor.inflateLimit
open Go.ChangeShapes Go.WideShapes Go.ChangeAt Go.RowKit
set_option maxRecDepth 100000

theorem walk_long (ao : Option Addr) (L c : Nat) (a1 : Int) (w : World) (hT : Tab w) (hL : L ≤ 9223372036854775807) (hl : 2000 < L ∨ (L ≤ 2000 ∧ 1048576 < a1)) :
    Calls Tryd.prog 5 #[.slice ao L c, .int .i64 a1] w fun e w' => e = .returned (.bool true) ∧ Below w.heap.size w w' := by
  have HA := Lib.hid (alive_any w hT)
  clear hT
  rcases hl with hl | ⟨hl, hl2⟩
  · have hl' : (2000 : Int) < L := by omega
    clear hl
    go_enter Tryd.func5, Tryd.ntmps5
    go_wp2_with fail
    refine HA.out.mono ?_
    rintro e w1 ⟨rfl, hb1⟩
    have HB := Lib.hid hb1
    clear hb1
    go_wp2
    go_ret
    exact ⟨by simp, HB.out⟩
  · have d1 : decide ((2000 : Int) < L) = false := by simp; omega
    have d2 : decide (2000 < L) = false := by simp; omega
    clear hl
    go_enter Tryd.func5, Tryd.ntmps5
    go_wp2_with fail
    refine HA.out.mono ?_
    rintro e w1 ⟨rfl, hb1⟩
    have HB := Lib.hid hb1
    clear hb1
    go_wp2
    go_ret
    exact ⟨by simp, HB.out⟩

theorem walk_bad (ao : Option Addr) (c : Nat) (xs : List Nat) (a1 : Int) (er : Nat) (w : World) (hT : Tab w) (h : BySl w (.slice ao xs.length c) xs) (hb : Bs xs) (hl : xs.length ≤ 2000) (hl2 : a1 ≤ 1048576) (hi : infl xs a1.toNat = .bad er) :
    Calls Tryd.prog 5 #[.slice ao xs.length c, .int .i64 a1] w fun e w' => e = .returned (.bool true) ∧ Below w.heap.size w w' := by
  have HA := Lib.hid (alive_any w hT)
  have HT := Lib.hid hT
  have HS := Lib.hid h
  have HB := Lib.hid hb
  have HI := Lib.hid hi
  have her := infl_nz hb hi
  have d3 : ((er : Int) != 0) = true := by simp; omega
  have hp := hT.pos
  have hl' : (xs.length : Int) ≤ 2000 := by omega
  clear hT h hb hi her
  go_enter Tryd.func5, Tryd.ntmps5
  go_wp2_with fail
  refine HA.out.mono ?_
  rintro e w1 ⟨rfl, hb1⟩
  have B1 := Lib.hid hb1
  clear hb1
  go_wp2_with fail
  refine (Inflate_any (HS.out.grow B1.out) HB.out (by omega) a1 a1.toNat rfl (by omega) (HT.out.below B1.out) (Nat.lt_of_lt_of_le hp B1.out.size)).mono ?_
  rintro e w2 ⟨bel, h2⟩
  rw [HI.out] at h2
  obtain rfl := h2
  have B2 := Lib.hid (B1.out.on bel)
  clear bel
  go_wp2
  go_ret
  exact ⟨by simp, B2.out.more (Nat.le_refl _) _⟩

set_option maxHeartbeats 3200000 in
theorem walk_ok (ao : Option Addr) (c : Nat) (xs : List Nat) (a1 : Int) (t : Sta) (w : World) (hT : Tab w) (h : BySl w (.slice ao xs.length c) xs) (hb : Bs xs) (hl : xs.length ≤ 2000) (hl2 : a1 ≤ 1048576) (hi : infl xs a1.toNat = .ok () t) :
    Calls Tryd.prog 5 #[.slice ao xs.length c, .int .i64 a1] w fun e w' => e = .returned (.bool true) ∧ Below w.heap.size w w' := by
  have HA := Lib.hid (alive_any w hT)
  have HT := Lib.hid hT
  have HB := Lib.hid hb
  have HI := Lib.hid hi
  have hp := hT.pos
  obtain ⟨p1, p2, p3, p4, p5, p6⟩ := infl_pos hb hi
  obtain ⟨b, off, rfl, _, hLc⟩ := h.bs_some (by omega)
  have HS := Lib.hid h
  have hu1 := infl_used hb hi ((t.at_ + 7) / 8)
  have HI2 := Lib.hid ((infl_need (fun x hx => hb x (List.mem_of_mem_take hx)) (hu1.1 (Nat.le_refl _)) (m := t.out.length) p6).1 (Nat.le_refl _))
  have HI3 := Lib.hid fun (h0 : 0 < t.out.length) => (infl_need hb hi (m := t.out.length - 1) (by omega)).2 (by omega)
  obtain ⟨at_, out, st, bl⟩ := t
  simp only at p1 p2 p3 p4 p5 p6
  obtain ⟨u, hu⟩ : ∃ u, u = (at_ + 7) / 8 := ⟨_, rfl⟩
  obtain ⟨n, hn⟩ : ∃ n, n = out.length := ⟨_, rfl⟩
  obtain ⟨L, hL⟩ : ∃ L, L = xs.length := ⟨_, rfl⟩
  have HU := Lib.hid hu
  have HN := Lib.hid hn
  have HL := Lib.hid hL
  rw [← hL] at hl hLc p3 ⊢
  rw [← hn] at p6
  have u1 : 1 ≤ u := by omega
  have u2 : u ≤ L := by omega
  have s1 : st ≤ 8 * L := by omega
  have s2 : bl ≤ 8 * L := by omega
  have n1 : n ≤ 1048576 := by omega
  have hmx : ((n : Int) ≤ max a1 0) := by omega
  have d1 : decide (max a1 0 < (n : Int)) = false := by simp; omega
  clear hT h hb hi p1 p3 p4 p5 hu hn hu1 hL
  go_enter Tryd.func5, Tryd.ntmps5
  go_wp2_with fail
  refine HA.out.mono ?_
  rintro e w1 ⟨rfl, hb1⟩
  have B1 := Lib.hid hb1
  clear hb1
  go_wp2_with fail
  have hS1 := HS.out.grow B1.out
  rw [← HL.out] at hS1
  refine (Inflate_ok hS1 HB.out (by rw [← HL.out]; omega) (by omega) (HT.out.below B1.out) HI.out HU.out HN.out).mono ?_
  rintro e w2 ⟨ao1, c1, rfl, bel, a1'⟩
  have A1 := Lib.hid a1'
  have B2 := Lib.hid ((B1.out.on bel).more (Nat.le_refl _) (.cells #[.slice ao1 n c1, .int .i64 (u : Nat), .int .i64 (st : Nat), .int .i64 (bl : Nat)] 35))
  clear bel a1' hS1 B1
  go_wp2_with fail
  have hS2 := (HS.out.grow B2.out).take u (by rw [← HL.out]; exact u2)
  have hi2 : infl (xs.take u) ((n : Int)).toNat = .ok () ⟨at_, out, st, bl⟩ := by rw [HU.out, HN.out]; exact HI2.out
  refine (Inflate_ok hS2 (fun x hx => HB.out x (List.mem_of_mem_take hx)) (by rw [List.length_take, ← HL.out]; omega) (by omega) (HT.out.below B2.out) hi2 HU.out HN.out).mono ?_
  rintro e w3 ⟨ao2, c2, rfl, bel, a2'⟩
  have bx := (Below.refl w3.heap.size w3).more (Nat.le_refl _) (.cells #[.slice ao2 n c2, .int .i64 (u : Nat), .int .i64 (st : Nat), .int .i64 (bl : Nat)] 35)
  have A2 := Lib.hid a2'
  have A1' := Lib.hid (A1.out.below (bel.on bx))
  have B3 := Lib.hid (B2.out.on (bel.on bx))
  obtain ⟨x0, x1, x2, x3⟩ := (A1.out.below bel).c
  generalize hq1 : w2.heap.size = q1 at *
  have hq1' : q1 < w3.heap.size := World.block_lt_of_cell? w3 _ x0
  clear bel a2' hS2 A1 B2 bx hi2
  go_wp2_with fail
  refine (same_any A1'.out.by A2.out.by (by rw [← HN.out]; omega)).mono ?_
  rintro e w4 ⟨he, nq, hw⟩
  rw [decide_eq_true rfl] at he
  subst he
  have bx := below_drewN (Below.refl (box4 w3 (.slice ao2 n c2) u st bl).heap.size (box4 w3 (.slice ao2 n c2) u st bl)) nq
  rw [← hw] at bx
  obtain ⟨x0, x1, x2, x3⟩ := (A1'.out.below bx).c
  obtain ⟨y0, y1, y2, y3⟩ := (A2.out.below bx).c
  have B4 := Lib.hid (B3.out.on bx)
  clear hw bx A1' A2 B3 hq1'
  by_cases hn0 : n = 0
  · subst hn0
    go_wp2
    go_ret
    exact ⟨rfl, B4.out⟩
  · have hi3 : infl xs (((n : Int) - 1)).toNat = .bad 14 := by
      rw [show ((n : Int) - 1).toNat = out.length - 1 by rw [← HN.out]; omega]
      exact HI3.out (by rw [← HN.out]; omega)
    have H3 := Lib.hid hi3
    have d4 : ((n : Int) == 0) = false := by simp; omega
    have d5 : (n == 0) = false := by simp; omega
    clear hi3
    go_wp2_with fail
    have hS4 := HS.out.grow B4.out
    rw [← HL.out] at hS4
    refine (Inflate_bad hS4 HB.out (by rw [← HL.out]; omega) (by omega) (HT.out.below B4.out) H3.out).mono ?_
    rintro e w5 ⟨rfl, bel⟩
    have B5 := Lib.hid ((B4.out.on bel).more (Nat.le_refl _) (.cells #[.slice none 0 0, .int .i64 0, .int .i64 0, .int .i64 0] 35))
    clear bel hS4
    go_wp2
    go_ret
    exact ⟨rfl, B5.out⟩

theorem walk (ao : Option Addr) (c : Nat) (xs : List Nat) (a1 : Int) (w : World) (hT : Tab w) (h : BySl w (.slice ao xs.length c) xs) (hb : Bs xs) (hlm : xs.length ≤ 9223372036854775807) :
    Calls Tryd.prog 5 #[.slice ao xs.length c, .int .i64 a1] w fun e w' => e = .returned (.bool true) ∧ Below w.heap.size w w' := by
  by_cases h1 : 2000 < xs.length ∨ (xs.length ≤ 2000 ∧ 1048576 < a1)
  · exact walk_long ao xs.length c a1 w hT (by omega) h1
  · cases hi : infl xs a1.toNat with
    | bad er => exact walk_bad ao c xs a1 er w hT h hb (by omega) (by omega) hi
    | ok _ t => exact walk_ok ao c xs a1 t w hT h hb (by omega) (by omega) hi

set_option maxRecDepth 100000 in
theorem lifted (os : Os) (started : os.Started) (H : Type) (enc : TypeId × Value → H) :
    ReturnsInHanded {} Tryd.checked os 5 .any (fun w args => (Rows.inflateLimitSpec.pre enc Tryd.prog Tryd.f5 Rows.inflateLimitRow.domain false w args ∧ laidMetH Tryd.prog laidL w) ∧ sizedMet enc Tryd.prog Tryd.f5 (OpenSpec.ofChange Rows.inflateLimitSpec) false w args)
      (Rows.inflateLimitSpec.post enc Tryd.prog Tryd.f5 false true false false) := by
  refine returnsInHanded_of_change_and (C := Tryd.checked) (X := fun w _ => laidMetH Tryd.prog laidL w) (fun _ _ _ hh h => h.of_heap hh) own started (by kernel_rfl) Tryd.func5
    (ChangeSpec.witness_shaped (enc := enc) (C := Tryd.checked) (os := os) (X := fun w _ => laidMetH Tryd.prog laidL w) false (World.laidAll Tryd.prog os laidL) #[.slice none 0 0, .int .i64 0] 8 (World.laidAll_os _ _ _)
      (World.shaped_of_ZipB (by kernel_rfl) (by kernel_rfl)) (by kernel_rfl) (by kernel_rfl) (by kernel_rfl)
      (by rw [MakeChecks.laidMetH_plain _ _ _ (by kernel_rfl)]; exact laidMet_laidAll _ (by kernel_rfl) (by kernel_rfl))) ?_
  intro W base args ds gs before hval0 hW hcnd _ hL _
  have hval : ∀ (j : Nat) t v, Tryd.f5.params[j]? = some t → args[j]? = some v → Value.okWide Tryd.prog W .any base t v := hval0
  have hW' := hW
  obtain ⟨p, q, hA0, hV, rfl, hfz, hnd⟩ := hW
  have hA : DataW.TrodAll enc Tryd.prog W 0 (fun _ => true) true Tryd.f5.params.toList args.toList ds p := hA0
  rw [Tryd.params5] at hA hval
  obtain ⟨v0, vs0, d0, ds0, p0, q0, hargs, rfl, rfl, h0, r0⟩ := trodAll_cons hA
  obtain ⟨v1, vs1, d1, ds1, p1, q1, rfl, rfl, rfl, h1, r1⟩ := trodAll_cons r0
  obtain ⟨rfl, rfl, rfl⟩ := trodAll_nil r1
  obtain rfl : args = #[v0, v1] := by cases args; simp_all
  obtain ⟨rfl, rfl⟩ := trodVars_none hV
  obtain ⟨a0, len0, cap0, rfl⟩ := okWide_slice Tryd.underlying22 (hval 0 22 v0 rfl rfl)
  have k0 := h0
  have lt0 : ∀ x ∈ p0, x.block < W.heap.size := by obtain ⟨m, hm⟩ := k0; exact DataW.trod_lt m _ _ _ hm
  obtain ⟨xs0, rfl, hb0, hs0, hlc0, hcm0⟩ : ∃ xs : List Nat, xs.length = len0 ∧ Bs xs ∧ BySl W (.slice a0 len0 cap0) xs ∧ len0 ≤ cap0 ∧ cap0 ≤ maxLen := by
    obtain ⟨fuel, hf⟩ := h0
    exact by_open (by simpa [Value.cells] using hf)
  obtain ⟨a1, rfl, rfl, rfl, w1⟩ := open_int Tryd.underlying3 (hval 1 3 v1 rfl rfl) h1
  unfold maxLen at hcm0
  clear hA0 hval0
  refine (walk a0 cap0 xs0 a1 W (tab_of hL) hs0 hb0 (by omega)).mono fun e W' ⟨he, bel⟩ => ?_
  subst he
  exact ⟨_, rfl, _, _, _, [], _, [], hW', trodAll_mk1 (shut_bool Tryd.underlying4 _), (trodAll_cons_mk (Below.trod laidOut (by kernel_rfl) (of_decide_eq_true (by kernel_rfl)) k0 bel lt0) (trodAll_cons_mk (shut_int Tryd.underlying3 w1) trodAll_mk0)), rfl, bel.frame _, fun h => by cases h⟩

theorem over : Rows.InflateLimitSaid :=
  OpenClaim.holds_of_wide 5 Tryd.f5 rfl rfl rfl rfl rfl rfl rfl ⟨rfl, rfl, rfl, rfl, rfl⟩ rfl rfl rfl rfl rfl (by kernel_rfl) Tryd.func5 (by kernel_rfl)
    (of_decide_eq_true (by kernel_rfl)) (by unfold Func.isWrapper; first | (rw [if_pos (by decide +kernel)]; kernel_rfl) | (rw [if_neg (by decide +kernel)]; exact ⟨rfl, rfl⟩))
    (fun os started H enc _ => lifted os started H enc)

theorem proved : Rows.InflateLimitCardSaid :=
  Claim7.holds_tied_plain_at .later [] [.data] true (true, "92355ac838773404caa423fded1d207c8b642718b7fb2225f8dda74b268a5197") true over (fun _ h => by cases h) (by kernel_rfl) (fun _ h => by cases h) inflateLimit_row_tie rfl ⟨rfl, rfl⟩ (by kernel_rfl) rfl
    (fun f fn hf hfn => by
      obtain rfl : f = 5 := Option.some.inj ((show Tryd.prog.funcNamed "etui/etuilaw06.InflateLimit" = some 5 by kernel_rfl).symm.trans hf) |>.symm
      obtain rfl : fn = Tryd.f5 := (Option.some.inj (Tryd.func5.symm.trans hfn)).symm
      exact ⟨by kernel_rfl, fun j t ht => by
        rw [Tryd.params5] at ht
        have hm : t ∈ [22, 3] := by
          have := Array.mem_of_getElem? ht
          simp at this ⊢
          omega
        have hall : ([22, 3].all fun u => !Tryd.prog.wantsStandIn u) = true := by kernel_rfl
        exact (show Tryd.prog.wantsStandIn t = false by simpa using List.all_eq_true.1 hall t hm)⟩)
    (by kernel_rfl)
#print axioms proved
end Go.Proofs.YtnnkegpnjedneaaDoor.inflateLimit

