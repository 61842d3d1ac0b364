/-
  HuffReads: for every row of lengths, every row of bytes and every place the law returns true and its arguments read as before. No condition.
-/
import Derived.Test.YthgehgdbplbcfaaAR
import Derived.Test.YthgehgdbplbcfaaRF
namespace Go.Proofs.Ythgehgdbplbcfaa.huffReads
open Go.ChangeShapes Go.WideShapes Go.ChangeAt Go.RowKit

theorem walk_out (ao : Option Addr) (L c : Nat) (bo : Option Addr) (L2 bc : Nat) (sk : Int) (w : World) (hl : 320 < L ∨ 300 < L2 ∨ sk < 0 ∨ 8 * (L2 : Int) < sk) :
    Calls Try.prog 4 #[.slice ao L c, .slice bo L2 bc, .int .i64 sk] w fun e w' => e = .returned (.bool true) ∧ Below w.heap.size w w' := by
  have HA := Lib.hid (alive_any w)
  by_cases h1 : 320 < L
  · have hl' : (320 : Int) < L := by omega
    clear hl
    go_enter Try.func4, Try.ntmps4
    go_wp2_with fail
    refine HA.out.mono ?_
    rintro e w1 ⟨rfl, hb1⟩
    have HB := Lib.hid hb1
    clear hb1
    go_wp2
    go_ret
    exact ⟨rfl, HB.out⟩
  · have d1 : decide ((320 : Int) < L) = false := by simp; omega
    by_cases h2 : 300 < L2
    · have hl' : (300 : Int) < L2 := by omega
      clear hl
      go_enter Try.func4, Try.ntmps4
      go_wp2_with fail
      refine HA.out.mono ?_
      rintro e w1 ⟨rfl, hb1⟩
      have HB := Lib.hid hb1
      clear hb1
      go_wp2
      go_ret
      exact ⟨rfl, HB.out⟩
    · have d2 : decide ((300 : Int) < L2) = false := by simp; omega
      by_cases h3 : sk < 0
      · clear hl
        go_enter Try.func4, Try.ntmps4
        go_wp2_with fail
        refine HA.out.mono ?_
        rintro e w1 ⟨rfl, hb1⟩
        have HB := Lib.hid hb1
        clear hb1
        go_wp2
        go_ret
        exact ⟨rfl, HB.out⟩
      · have h3' : 0 ≤ sk := by omega
        have h4 : 8 * (L2 : Int) < sk := by omega
        clear hl h3
        go_enter Try.func4, Try.ntmps4
        go_wp2_with fail
        refine HA.out.mono ?_
        rintro e w1 ⟨rfl, hb1⟩
        have HB := Lib.hid hb1
        clear hb1
        go_wp2
        go_ret
        exact ⟨rfl, HB.out⟩

theorem walk_err (ao : Option Addr) (c : Nat) (zs : List Int) (bo : Option Addr) (L2 bc : Nat) (sk : Int) (w : World) (er : Int) (he : er = 11 ∨ er = 10) (hl : zs.length ≤ 320) (hl2 : L2 ≤ 300) (h0 : 0 ≤ sk) (h8 : sk ≤ 8 * L2)
    (hN : ∀ W, Below w.heap.size w W → Calls Try.prog 12 #[.slice ao zs.length c] W fun e w' => e = .returned (.tuple #[.pointer none, .int .i64 er]) ∧ Below W.heap.size W w')
    (hR : ∀ W, Below w.heap.size w W → Calls Try.prog 13 #[.slice ao zs.length c] W fun e w' => e = .returned (.tuple #[.pointer none, .int .i64 er]) ∧ W = w') :
    Calls Try.prog 4 #[.slice ao zs.length c, .slice bo L2 bc, .int .i64 sk] w fun e w' => e = .returned (.bool true) ∧ Below w.heap.size w w' := by
  have HN := Lib.hid hN
  have HR := Lib.hid hR
  have hl' : (zs.length : Int) ≤ 320 := by omega
  have hl2' : (L2 : Int) ≤ 300 := by omega
  clear hN hR
  rcases he with rfl | rfl
  all_goals
    go_enter Try.func4, Try.ntmps4
    go_wp2_with fail
    refine (alive_any w).mono ?_
    rintro e w1 ⟨rfl, hb1⟩
    have HB := Lib.hid hb1
    clear hb1
    go_wp2_with fail
    refine (HN.out _ HB.out).mono ?_
    rintro e w2 ⟨rfl, hb2⟩
    have HB2 := Lib.hid (HB.out.trans (hb2.mono HB.out.size))
    clear hb2
    go_wp2_with fail
    refine (HR.out _ HB2.out).mono ?_
    rintro e w3 ⟨rfl, rfl⟩
    go_wp2
    go_ret
    exact ⟨rfl, HB2.out⟩

theorem walk (ao : Option Addr) (c : Nat) (zs : List Int) (bo : Option Addr) (bc : Nat) (bs : List Nat) (sk : Int) (w : World) (h : IS w ao zs) (hb : Bs bs) (h2 : BySl w (.slice bo bs.length bc) bs) :
    Calls Try.prog 4 #[.slice ao zs.length c, .slice bo bs.length bc, .int .i64 sk] w fun e w' => e = .returned (.bool true) ∧ Below w.heap.size w w' := by
  by_cases hl : zs.length ≤ 320 ∧ bs.length ≤ 300 ∧ 0 ≤ sk ∧ sk ≤ 8 * bs.length
  · obtain ⟨l1, l2, l3, l4⟩ := hl
    by_cases hv : Vd zs
    · by_cases hr : room (nat zs) ≤ 32768
      · obtain ⟨k, rfl⟩ := Int.eq_ofNat_of_zero_le l3
        exact reads_ok ao c zs bo bc bs k w h hv hr hb h2 l2 (by omega)
      · exact walk_err ao c zs bo bs.length bc sk w 10 (.inr rfl) l1 l2 l3 l4 (fun W hb => New_form ao c zs W (h.below hb) hv (by omega)) (fun W hb => rnew_form ao c zs W (h.below hb) hv (by omega))
    · exact walk_err ao c zs bo bs.length bc sk w 11 (.inl rfl) l1 l2 l3 l4 (fun W hb => New_range ao c zs W (h.below hb) hv) (fun W hb => rnew_range ao c zs W (h.below hb) hv)
  · exact walk_out ao zs.length c bo bs.length bc sk w (by omega)

set_option maxRecDepth 100000 in
theorem lifted (os : Os) (started : os.Started) (H : Type) (enc : TypeId × Value → H) :
    ReturnsInHanded {} Try.checked os 4 .any (Rows.huffReadsSpec.pre6 enc Try.prog Try.f4 Rows.huffReadsRow.domain false) (Rows.huffReadsSpec.post enc Try.prog Try.f4 false true false false) := by
  refine returnsInHanded_of_change_shaped (C := Try.checked) own started (by kernel_rfl) Try.func4
    (ChangeSpec.witness6 (enc := enc) (C := Try.checked) false ⟨#[], #[.slice none 0 0, .slice none 0 0, .int .i64 0], []⟩ 8 (by kernel_rfl) (by kernel_rfl) (by kernel_rfl) (by kernel_rfl)) ?_
  intro W base args ds gs before hval0 hW hcnd hsz hsh _
  have hval : ∀ (j : Nat) t v, Try.f4.params[j]? = some t → args[j]? = some v → Value.okWide Try.prog W .any base t v := hval0
  have hW' := hW
  obtain ⟨p, q, hA0, hV, rfl, hfz, hnd⟩ := hW
  have hA : DataW.TrodAll enc Try.prog W 0 (fun _ => true) true Try.f4.params.toList args.toList ds p := hA0
  rw [Try.params4] at hA hval
  obtain ⟨v0, vs0, d0, ds0, p0, q0, hargs, rfl, rfl, h0, r0⟩ := trodAll_cons hA
  obtain ⟨v1, vs1, d1, ds1, p1, q1, rfl, rfl, rfl, h1, r1⟩ := trodAll_cons r0
  obtain ⟨v2, vs2, d2, ds2, p2, q2, rfl, rfl, rfl, h2, r2⟩ := trodAll_cons r1
  obtain ⟨rfl, rfl, rfl⟩ := trodAll_nil r2
  obtain rfl : args = #[v0, v1, v2] := by cases args; simp_all
  obtain ⟨rfl, rfl⟩ := trodVars_none hV
  obtain ⟨a0, len0, cap0, rfl⟩ := okWide_slice Try.underlying22 (hval 0 22 v0 rfl rfl)
  have k0 := h0
  have lt0 : ∀ x ∈ p0, x.block < W.heap.size := by obtain ⟨m, hm⟩ := k0; exact DataW.trod_lt m _ _ _ hm
  obtain ⟨ks0, rfl, hs0, hlm0⟩ : ∃ ks : List Int, ks.length = len0 ∧ IS W a0 ks ∧ ks.length ≤ maxLen := by
    obtain ⟨fuel, hf⟩ := h0
    exact is_open (by simpa [Value.cells] using hf)
  obtain ⟨a1, len1, cap1, rfl⟩ := okWide_slice Try.underlying38 (hval 1 38 v1 rfl rfl)
  have k1 := h1
  have lt1 : ∀ x ∈ p1, x.block < W.heap.size := by obtain ⟨m, hm⟩ := k1; exact DataW.trod_lt m _ _ _ hm
  obtain ⟨xs1, rfl, hb1, hs1⟩ : ∃ xs : List Nat, xs.length = len1 ∧ Bs xs ∧ BySl W (.slice a1 len1 cap1) xs := by
    obtain ⟨fuel, hf⟩ := h1
    exact by_open (by simpa [Value.cells] using hf)
  obtain ⟨N2, rfl, rfl, rfl, w2⟩ := open_int Try.underlying3 (hval 2 3 v2 rfl rfl) h2
  clear hA0 hval0
  refine (walk a0 cap0 ks0 a1 cap1 xs1 N2 W hs0 hb1 hs1).mono fun e W' ⟨he, bel⟩ => ?_
  subst he
  exact ⟨_, rfl, _, _, _, [], _, [], hW', trodAll_mk1 (shut_bool Try.underlying4 _), (trodAll_cons_mk (Below.trod laidOut (by kernel_rfl) (of_decide_eq_true (by kernel_rfl)) k0 bel lt0) (trodAll_cons_mk (Below.trod laidOut (by kernel_rfl) (of_decide_eq_true (by kernel_rfl)) k1 bel lt1) (trodAll_cons_mk (shut_int Try.underlying3 w2) trodAll_mk0))), rfl, bel.frame _, fun h => by cases h⟩

theorem over : Rows.huffReadsRow.holds Try.pinned (OpenSpec.ofChange Rows.huffReadsSpec) :=
  OpenClaim.holds_of_wide 4 Try.f4 rfl rfl rfl rfl rfl rfl rfl ⟨rfl, rfl, rfl, rfl, rfl⟩ rfl rfl rfl rfl rfl (by kernel_rfl) Try.func4 (by kernel_rfl)
    (of_decide_eq_true (by kernel_rfl)) (by unfold Func.isWrapper; first | (rw [if_pos (by decide +kernel)]; kernel_rfl) | (rw [if_neg (by decide +kernel)]; exact ⟨rfl, rfl⟩))
    (fun os started H enc _ => lifted os started H enc)

theorem proved : Rows.HuffReadsSaid := over
#print axioms proved
end Go.Proofs.Ythgehgdbplbcfaa.huffReads
