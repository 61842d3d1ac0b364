import Derived.Test.YtnnkegpnjedneaaDoorX16
/-
  InflateAnswers: for every row of bytes and every limit the law returns true and its arguments read as before: no condition beyond the program's table as its initialiser lays it (tied).
-/
namespace Go.Proofs.YtnnkegpnjedneaaDoor.inflateAnswers
open Go.ChangeShapes Go.WideShapes Go.ChangeAt Go.RowKit
set_option maxRecDepth 100000

/-- Of a fault both tell the same. -/
theorem same_bad {w : World} {v : Value} {xs : List Nat} {a1 : Int} {er : Nat} (h : BySl w v xs) (hb : Bs xs) (hl : xs.length ≤ 400) (hl2 : a1 ≤ 20000) (hT : Tab w) (hi : infl xs a1.toNat = .bad er) :
    Calls Tryd.prog 12 #[v, .int .i64 a1] w fun e w' => e = .returned (.bool true) ∧ Below w.heap.size w w' := by
  have HI := Lib.hid (Inflate_bad h hb (by omega) (by omega) hT hi)
  have HRI := Lib.hid fun W (hW : Below w.heap.size w W) => rInflate_any (h.grow hW) hb (by omega) a1 a1.toNat rfl (by omega)
  have HE := Lib.hid hi
  have her := infl_nz hb hi
  have d1 : ((er : Int) != 0) = true := by simp; omega
  have d2 : ((er : Int) != er) = false := by simp
  clear h hb hT hi her
  go_enter Tryd.func12, Tryd.ntmps12
  go_wp2_with fail
  refine HI.out.mono ?_
  rintro e w1 ⟨rfl, bel⟩
  have B1 := Lib.hid (bel.more (Nat.le_refl _) (.cells #[.slice none 0 0, .int .i64 0, .int .i64 0, .int .i64 0] 35))
  have HX : Hid (Blk (w1.alloc (.cells #[.slice none 0 0, .int .i64 0, .int .i64 0, .int .i64 0] 35)) w1.heap.size 35 #[.slice none 0 0, .int .i64 0, .int .i64 0, .int .i64 0]) := Lib.hid (Blk.made _ _ _)
  clear bel HI
  go_wp2_with fail
  refine (HRI.out _ B1.out).mono ?_
  rintro e w2 ⟨bel, p, rv, ov, s, nb, er2, rfl, hq, hor⟩
  obtain rfl : er2 = er := by
    rcases hor with ⟨h1, _⟩ | ⟨_, h1, _⟩
    · rw [HE.out] at h1; cases h1; rfl
    · rw [HE.out] at h1; cases h1
  have B2 := Lib.hid (B1.out.on bel)
  have hx := HX.out.below bel
  have x0 := (hx.cell 0).trans (show _ = some (.slice none 0 0) from rfl)
  have x1 := (hx.cell 1).trans (show _ = some (.int .i64 0) from rfl)
  have x2 := (hx.cell 2).trans (show _ = some (.int .i64 0) from rfl)
  have x3 := (hx.cell 3).trans (show _ = some (.int .i64 0) from rfl)
  clear bel hq hor hx HRI HX
  go_wp2
  go_ret
  exact ⟨rfl, B2.out⟩

set_option maxHeartbeats 1600000 in
/-- And of bytes. -/
theorem same_ok {w : World} {v : Value} {xs : List Nat} {a1 : Int} {t : Sta} (h : BySl w v xs) (hb : Bs xs) (hl : xs.length ≤ 400) (hl2 : a1 ≤ 20000) (hT : Tab w) (hi : infl xs a1.toNat = .ok () t) :
    Calls Tryd.prog 12 #[v, .int .i64 a1] w fun e w' => e = .returned (.bool true) ∧ Below w.heap.size w w' := by
  obtain ⟨p1, p2, p3, p4, p5, p6⟩ := infl_pos hb hi
  obtain ⟨at_, out, st, bl⟩ := t
  simp only at p1 p2 p3 p4 p5 p6
  obtain ⟨u, hu⟩ : ∃ u, u = (at_ + 7) / 8 := ⟨_, rfl⟩
  obtain ⟨n, hn⟩ : ∃ n, n = out.length := ⟨_, rfl⟩
  have HI := Lib.hid (Inflate_ok h hb (by omega) (by omega) hT hi hu hn)
  have HRI := Lib.hid fun W (hW : Below w.heap.size w W) => rInflate_any (h.grow hW) hb (by omega) a1 a1.toNat rfl (by omega)
  have HE := Lib.hid hi
  have HN := Lib.hid hn
  have eu : ((at_ : Int) + 7) / 8 = u := by omega
  have hab : at_ ≤ 100000 := by omega
  have hnb : n ≤ 20000 := by omega
  clear h hb hT hi p1 p2 p3 p4 p5 p6 hu hn
  go_enter Tryd.func12, Tryd.ntmps12
  go_wp2_with fail
  refine HI.out.mono ?_
  rintro e w1 ⟨ao1, c1, rfl, bel, a1'⟩
  have A1 := Lib.hid a1'
  have B1 := Lib.hid (bel.more (Nat.le_refl _) (.cells #[.slice ao1 n c1, .int .i64 (u : Nat), .int .i64 (st : Nat), .int .i64 (bl : Nat)] 35))
  clear bel a1' HI
  go_wp2_with fail
  refine (HRI.out _ B1.out).mono ?_
  rintro e w2 ⟨bel, p, rv, ov, s, nb, er2, rfl, hq, hor⟩
  obtain ⟨rfl, rfl, rfl⟩ : er2 = 0 ∧ s = ⟨at_, out, st, bl⟩ ∧ nb = bl := by
    rcases hor with ⟨h1, _⟩ | ⟨h0, h1, h2⟩
    · rw [HE.out] at h1; cases h1
    · rw [HE.out] at h1; cases h1; exact ⟨h0, rfl, h2⟩
  have B2 := Lib.hid (B1.out.on bel)
  have A2 := Lib.hid (A1.out.below bel)
  obtain ⟨x0, x1, x2, x3⟩ := A2.out.c
  obtain ⟨ao2, c2, rfl⟩ := hq.shape
  have y2 := hq.cells.c2
  have y1 := hq.cells.c1
  have y5 := hq.cells.c5
  have y6 := hq.cells.c6
  simp only at y1 y2 y5 y6
  rw [← HN.out] at y2
  have HSM : Hid (∀ k, Calls Tryd.prog 13 #[.slice ao1 n c1, .slice ao2 n c2] (w2.drewN k) fun e w' => e = .returned (.bool true) ∧ ∃ m, w' = (w2.drewN k).drewN m) := Lib.hid fun k => by
    have hq' := (hq.drewN k).1.own
    have ha' := (A2.out.below (below_drewN (Below.refl _ _) k)).by
    have := same_any ha' (BySl.own hq') (by rw [← HN.out]; omega)
    simp only [decide_true] at this
    rw [← HN.out] at this
    exact this
  clear bel hq hor HRI A1
  generalize hq1 : w1.heap.size = q1 at *
  go_wp2
  go_quiet ((go_at_call 13; exact Calls.quiet_of (HSM.out _)))
  go_wp2
  go_ret
  exact ⟨rfl, below_drewN B2.out _⟩

theorem walk_long (ao : Option Addr) (L c : Nat) (a1 : Int) (w : World) (hT : Tab w) (hL : L ≤ 9223372036854775807) (hl : 400 < L ∨ (L ≤ 400 ∧ 20000 < a1)) :
    Calls Tryd.prog 3 #[.slice ao L c, .int .i64 a1] w fun e w' => e = .returned (.bool true) ∧ Below w.heap.size w w' := by
  have HA := Lib.hid (alive_any w hT)
  clear hT
  rcases hl with hl | ⟨hl, hl2⟩
  · have hl' : (400 : Int) < L := by omega
    clear hl
    go_enter Tryd.func3, Tryd.ntmps3
    go_wp2_with fail
    refine HA.out.mono ?_
    rintro e w1 ⟨rfl, hb1⟩
    have HB := Lib.hid hb1
    clear hb1
    go_wp2
    go_ret
    exact ⟨by simp, HB.out⟩
  · have d1 : decide ((400 : Int) < L) = false := by simp; omega
    have d2 : decide (400 < L) = false := by simp; omega
    clear hl
    go_enter Tryd.func3, Tryd.ntmps3
    go_wp2_with fail
    refine HA.out.mono ?_
    rintro e w1 ⟨rfl, hb1⟩
    have HB := Lib.hid hb1
    clear hb1
    go_wp2
    go_ret
    exact ⟨by simp, HB.out⟩

theorem walk (ao : Option Addr) (c : Nat) (xs : List Nat) (a1 : Int) (w : World) (hT : Tab w) (h : BySl w (.slice ao xs.length c) xs) (hb : Bs xs) (hlm : xs.length ≤ 9223372036854775807) :
    Calls Tryd.prog 3 #[.slice ao xs.length c, .int .i64 a1] w fun e w' => e = .returned (.bool true) ∧ Below w.heap.size w w' := by
  by_cases h1 : 400 < xs.length ∨ (xs.length ≤ 400 ∧ 20000 < a1)
  · exact walk_long ao xs.length c a1 w hT (by omega) h1
  · have HA := Lib.hid (alive_any w hT)
    have HT := Lib.hid hT
    have HS := Lib.hid h
    have HB := Lib.hid hb
    have HSAME := Lib.hid fun (W : World) (v : Value) (hW : BySl W v xs) (hTW : Tab W) => (show Calls Tryd.prog 12 #[v, .int .i64 a1] W fun e w' => e = .returned (.bool true) ∧ Below W.heap.size W w' from by
      cases hi : infl xs a1.toNat with
      | bad er => exact same_bad hW hb (by omega) (by omega) hTW hi
      | ok u t => exact same_ok hW hb (by omega) (by omega) hTW hi)
    obtain ⟨L, hL⟩ : ∃ L, L = xs.length := ⟨_, rfl⟩
    have HL := Lib.hid hL
    rw [← hL] at h1 HS hlm ⊢
    have d1 : decide ((400 : Int) < L) = false := by simp; omega
    have d2 : decide (400 < L) = false := by simp; omega
    have d3 : decide ((20000 : Int) < a1) = false := by simp; omega
    have hL4 : L ≤ 400 := by omega
    clear h1 hT h hb hlm hL
    go_enter Tryd.func3, Tryd.ntmps3
    go_wp2_with fail
    refine HA.out.mono ?_
    rintro e w1 ⟨rfl, hb1⟩
    have B1 := Lib.hid hb1
    clear hb1
    go_wp2_with fail
    refine (copy_any (HS.out.grow B1.out) (by rw [← HL.out]; omega)).mono ?_
    rintro e w2 ⟨ao2, c2, rfl, hown, bel⟩
    have B2 := Lib.hid (B1.out.on bel)
    have HO := Lib.hid hown
    have HTW := Lib.hid (HT.out.below B2.out)
    rw [← HL.out] at HO ⊢
    clear hown bel
    go_wp2_with fail
    refine (HSAME.out _ _ (BySl.own (by rw [← HL.out]; exact HO.out)) HTW.out).mono ?_
    rintro e w3 ⟨rfl, bel⟩
    have B3 := Lib.hid (B2.out.on bel)
    have HO3 : Hid (BySl w3 (.slice ao2 L c2) xs) := Lib.hid ((BySl.own (by rw [← HL.out]; exact HO.out) : BySl w2 (.slice ao2 L c2) xs).grow bel)
    clear bel
    go_wp2_with fail
    refine (same_any HO3.out (HS.out.grow B3.out) (by rw [← HL.out]; omega)).mono ?_
    rintro e w4 ⟨he, nq, rfl⟩
    rw [decide_eq_true rfl] at he
    subst he
    go_wp2
    go_ret
    exact ⟨rfl, below_drewN B3.out _⟩

set_option maxRecDepth 100000 in
theorem lifted (os : Os) (started : os.Started) (H : Type) (enc : TypeId × Value → H) :
    ReturnsInHanded {} Tryd.checked os 3 .any (fun w args => (Rows.inflateAnswersSpec.pre enc Tryd.prog Tryd.f3 Rows.inflateAnswersRow.domain false w args ∧ laidMetH Tryd.prog laidL w) ∧ sizedMet enc Tryd.prog Tryd.f3 (OpenSpec.ofChange Rows.inflateAnswersSpec) false w args)
      (Rows.inflateAnswersSpec.post enc Tryd.prog Tryd.f3 false true false false) := by
  refine returnsInHanded_of_change_and (C := Tryd.checked) (X := fun w _ => laidMetH Tryd.prog laidL w) (fun _ _ _ hh h => h.of_heap hh) own started (by kernel_rfl) Tryd.func3
    (ChangeSpec.witness_shaped (enc := enc) (C := Tryd.checked) (os := os) (X := fun w _ => laidMetH Tryd.prog laidL w) false (World.laidAll Tryd.prog os laidL) #[.slice none 0 0, .int .i64 0] 8 (World.laidAll_os _ _ _)
      (World.shaped_of_ZipB (by kernel_rfl) (by kernel_rfl)) (by kernel_rfl) (by kernel_rfl) (by kernel_rfl)
      (by rw [MakeChecks.laidMetH_plain _ _ _ (by kernel_rfl)]; exact laidMet_laidAll _ (by kernel_rfl) (by kernel_rfl))) ?_
  intro W base args ds gs before hval0 hW hcnd _ hL _
  have hval : ∀ (j : Nat) t v, Tryd.f3.params[j]? = some t → args[j]? = some v → Value.okWide Tryd.prog W .any base t v := hval0
  have hW' := hW
  obtain ⟨p, q, hA0, hV, rfl, hfz, hnd⟩ := hW
  have hA : DataW.TrodAll enc Tryd.prog W 0 (fun _ => true) true Tryd.f3.params.toList args.toList ds p := hA0
  rw [Tryd.params3] at hA hval
  obtain ⟨v0, vs0, d0, ds0, p0, q0, hargs, rfl, rfl, h0, r0⟩ := trodAll_cons hA
  obtain ⟨v1, vs1, d1, ds1, p1, q1, rfl, rfl, rfl, h1, r1⟩ := trodAll_cons r0
  obtain ⟨rfl, rfl, rfl⟩ := trodAll_nil r1
  obtain rfl : args = #[v0, v1] := by cases args; simp_all
  obtain ⟨rfl, rfl⟩ := trodVars_none hV
  obtain ⟨a0, len0, cap0, rfl⟩ := okWide_slice Tryd.underlying22 (hval 0 22 v0 rfl rfl)
  have k0 := h0
  have lt0 : ∀ x ∈ p0, x.block < W.heap.size := by obtain ⟨m, hm⟩ := k0; exact DataW.trod_lt m _ _ _ hm
  obtain ⟨xs0, rfl, hb0, hs0, hlc0, hcm0⟩ : ∃ xs : List Nat, xs.length = len0 ∧ Bs xs ∧ BySl W (.slice a0 len0 cap0) xs ∧ len0 ≤ cap0 ∧ cap0 ≤ maxLen := by
    obtain ⟨fuel, hf⟩ := h0
    exact by_open (by simpa [Value.cells] using hf)
  obtain ⟨a1, rfl, rfl, rfl, w1⟩ := open_int Tryd.underlying3 (hval 1 3 v1 rfl rfl) h1
  unfold maxLen at hcm0
  clear hA0 hval0
  refine (walk a0 cap0 xs0 a1 W (tab_of hL) hs0 hb0 (by omega)).mono fun e W' ⟨he, bel⟩ => ?_
  subst he
  exact ⟨_, rfl, _, _, _, [], _, [], hW', trodAll_mk1 (shut_bool Tryd.underlying4 _), (trodAll_cons_mk (Below.trod laidOut (by kernel_rfl) (of_decide_eq_true (by kernel_rfl)) k0 bel lt0) (trodAll_cons_mk (shut_int Tryd.underlying3 w1) trodAll_mk0)), rfl, bel.frame _, fun h => by cases h⟩

theorem over : Rows.InflateAnswersSaid :=
  OpenClaim.holds_of_wide 3 Tryd.f3 rfl rfl rfl rfl rfl rfl rfl ⟨rfl, rfl, rfl, rfl, rfl⟩ rfl rfl rfl rfl rfl (by kernel_rfl) Tryd.func3 (by kernel_rfl)
    (of_decide_eq_true (by kernel_rfl)) (by unfold Func.isWrapper; first | (rw [if_pos (by decide +kernel)]; kernel_rfl) | (rw [if_neg (by decide +kernel)]; exact ⟨rfl, rfl⟩))
    (fun os started H enc _ => lifted os started H enc)

theorem proved : Rows.InflateAnswersCardSaid :=
  Claim7.holds_tied_plain_at .later [] [.data] true (true, "92355ac838773404caa423fded1d207c8b642718b7fb2225f8dda74b268a5197") true over (fun _ h => by cases h) (by kernel_rfl) (fun _ h => by cases h) inflateAnswers_row_tie rfl ⟨rfl, rfl⟩ (by kernel_rfl) rfl
    (fun f fn hf hfn => by
      obtain rfl : f = 3 := Option.some.inj ((show Tryd.prog.funcNamed "etui/etuilaw06.InflateAnswers" = some 3 by kernel_rfl).symm.trans hf) |>.symm
      obtain rfl : fn = Tryd.f3 := (Option.some.inj (Tryd.func3.symm.trans hfn)).symm
      exact ⟨by kernel_rfl, fun j t ht => by
        rw [Tryd.params3] at ht
        have hm : t ∈ [22, 3] := by
          have := Array.mem_of_getElem? ht
          simp at this ⊢
          omega
        have hall : ([22, 3].all fun u => !Tryd.prog.wantsStandIn u) = true := by kernel_rfl
        exact (show Tryd.prog.wantsStandIn t = false by simpa using List.all_eq_true.1 hall t hm)⟩)
    (by kernel_rfl)
#print axioms proved
end Go.Proofs.YtnnkegpnjedneaaDoor.inflateAnswers

