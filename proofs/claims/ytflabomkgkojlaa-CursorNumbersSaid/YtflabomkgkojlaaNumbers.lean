/-
  CursorNumbers: for every row of bytes, whatever place, number and sign, the law returns true and its argument reads as before. No condition.
-/
import Derived.Test.YtflabomkgkojlaaR
import Derived.Test.YtflabomkgkojlaaS
namespace Go.Proofs.Ytflabomkgkojlaa.cursorNumbers
open Go.ChangeShapes Go.WideShapes Go.ChangeAt Go.RowKit

theorem walk (ao : Option Addr) (c : Nat) (xs : List Nat) (at_ n S : Int) (hS : 0 ≤ S ∧ S ≤ 4294967295) (w : World) (h : Sl w ao c xs) (hM : MaxL w) :
    Calls Try.prog 3 #[.slice ao xs.length c, .int .i64 at_, .int .i64 n, .int .u32 S] w fun e w' => e = .returned (.bool true) ∧ Below w.heap.size w w' := by
  by_cases h3 : 3000 < xs.length
  · exact walk_long ao c xs.length at_ n S h3 w hM
  · obtain ⟨s, rfl⟩ := Int.eq_ofNat_of_zero_le hS.1
    by_cases hcan : 0 ≤ at_ ∧ 0 ≤ n ∧ at_ + n ≤ xs.length
    · obtain ⟨a, rfl⟩ := Int.eq_ofNat_of_zero_le hcan.1
      obtain ⟨m, rfl⟩ := Int.eq_ofNat_of_zero_le hcan.2.1
      exact walk_can ao c xs a m s (by omega) (by omega) (by omega) w h hM
    · exact walk_no ao c xs at_ n (max at_ 0).toNat s (by omega) (by omega) (by omega) (by omega) w h hM

set_option maxRecDepth 100000 in
theorem lifted (os : Os) (started : os.Started) (H : Type) (enc : TypeId × Value → H) :
    ReturnsInHanded {} Try.checked os 3 .any (Rows.cursorNumbersSpec.pre6 enc Try.prog Try.f3 Rows.cursorNumbersRow.domain false) (Rows.cursorNumbersSpec.post enc Try.prog Try.f3 false true false false) := by
  refine returnsInHanded_of_change_shaped (C := Try.checked) own started (by kernel_rfl) Try.func3
    (ChangeSpec.witness6 (enc := enc) (C := Try.checked) false ⟨#[], #[.slice none 0 0, .int .i64 0, .int .i64 0, .int .u32 0], []⟩ 8 (by kernel_rfl) (by kernel_rfl) (by kernel_rfl) (by kernel_rfl)) ?_
  intro W base args ds gs before hval0 hW hcnd hsz hsh _
  have hM : MaxL W := lm185.s1_3 W hsh
  have hval : ∀ (j : Nat) t v, Try.f3.params[j]? = some t → args[j]? = some v → Value.okWide Try.prog W .any base t v := hval0
  have hW' := hW
  obtain ⟨p, q, hA0, hV, rfl, hfz, hnd⟩ := hW
  have hA : DataW.TrodAll enc Try.prog W 0 (fun _ => true) true Try.f3.params.toList args.toList ds p := hA0
  rw [Try.params3] at hA hval
  obtain ⟨v0, vs0, d0, ds0, p0, q0, hargs, rfl, rfl, h0, r0⟩ := trodAll_cons hA
  obtain ⟨v1, vs1, d1, ds1, p1, q1, rfl, rfl, rfl, h1, r1⟩ := trodAll_cons r0
  obtain ⟨v2, vs2, d2, ds2, p2, q2, rfl, rfl, rfl, h2, r2⟩ := trodAll_cons r1
  obtain ⟨v3, vs3, d3, ds3, p3, q3, rfl, rfl, rfl, h3, r3⟩ := trodAll_cons r2
  obtain ⟨rfl, rfl, rfl⟩ := trodAll_nil r3
  obtain rfl : args = #[v0, v1, v2, v3] := by cases args; simp_all
  obtain ⟨rfl, rfl⟩ := trodVars_none hV
  obtain ⟨a0, len0, cap0, rfl⟩ := okWide_slice Try.underlying22 (hval 0 22 v0 rfl rfl)
  have k0 := h0
  have lt0 : ∀ x ∈ p0, x.block < W.heap.size := by obtain ⟨m, hm⟩ := k0; exact DataW.trod_lt m _ _ _ hm
  obtain ⟨xs0, rfl, hs0⟩ : ∃ xs : List Nat, xs.length = len0 ∧ Sl W a0 cap0 xs := by
    obtain ⟨fuel, hf⟩ := h0
    exact sl_open (by simpa [Value.cells] using hf)
  obtain ⟨N1, rfl, rfl, rfl, w1⟩ := open_int Try.underlying3 (hval 1 3 v1 rfl rfl) h1
  obtain ⟨N2, rfl, rfl, rfl, w2⟩ := open_int Try.underlying3 (hval 2 3 v2 rfl rfl) h2
  obtain ⟨N3, rfl, rfl, rfl, w3⟩ := open_int Try.underlying23 (hval 3 23 v3 rfl rfl) h3
  clear hA0 hval0
  refine (walk a0 cap0 xs0 N1 N2 N3 (bounds_u32 w3) W hs0 hM).mono fun e W' ⟨he, bel⟩ => ?_
  subst he
  exact ⟨_, rfl, _, _, _, [], _, [], hW', trodAll_mk1 (shut_bool Try.underlying4 _), (trodAll_cons_mk (Below.trod laidOut (by kernel_rfl) (of_decide_eq_true (by kernel_rfl)) k0 bel lt0) (trodAll_cons_mk (shut_int Try.underlying3 w1) (trodAll_cons_mk (shut_int Try.underlying3 w2) (trodAll_cons_mk (shut_int Try.underlying23 w3) trodAll_mk0)))), rfl, bel.frame _, fun h => by cases h⟩

theorem over : Rows.cursorNumbersRow.holds Try.pinned (OpenSpec.ofChange Rows.cursorNumbersSpec) :=
  OpenClaim.holds_of_wide 3 Try.f3 rfl rfl rfl rfl rfl rfl rfl ⟨rfl, rfl, rfl, rfl, rfl⟩ rfl rfl rfl rfl rfl (by kernel_rfl) Try.func3 (by kernel_rfl)
    (of_decide_eq_true (by kernel_rfl)) (by unfold Func.isWrapper; first | (rw [if_pos (by decide +kernel)]; kernel_rfl) | (rw [if_neg (by decide +kernel)]; exact ⟨rfl, rfl⟩))
    (fun os started H enc _ => lifted os started H enc)

theorem proved : Rows.CursorNumbersSaid := over
#print axioms proved
end Go.Proofs.Ytflabomkgkojlaa.cursorNumbers
