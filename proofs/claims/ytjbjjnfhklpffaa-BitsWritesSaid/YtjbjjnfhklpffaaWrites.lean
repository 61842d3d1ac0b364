/-
  BitsWrites: for every row of calls, every number and every count of bits the law returns true and its arguments read as before: no condition.
-/
import Derived.Test.YtjbjjnfhklpffaaZa
import Derived.Test.YtjbjjnfhklpffaaZb
import Derived.WalkKit
import Derived.ProofKit
import Derived.OpenShut
import Derived.ShutString
import Derived.ChangeOld
import Derived.Below
import Derived.SizedLaws
namespace Go.Proofs.Ytjbjjnfhklpffaa.bitsWrites
open Go.ChangeShapes Go.WideShapes Go.ChangeAt Go.RowKit
open Go.ChangeMaps (open_string shut_string)
set_option linter.unusedVariables false

theorem own : ownKnob Try.prog.godebug = none := by kernel_rfl
theorem laidOut : laidOutB Try.prog = true := by kernel_rfl
theorem bytes5 : Try.prog.bytesOf 5 = 1 := by kernel_rfl

theorem weights_mem {H : Type} {P : Program} {e : TypeId} {d : DataW H} {n : Nat} : ∀ {l : List (DataW H)}, d ∈ l → n ∈ d.weights P e → n ∈ DataW.weightsAll P e l
  | x :: r, h, hn => by
    simp only [DataW.weightsAll, List.mem_append]
    rcases List.mem_cons.1 h with rfl | h
    · exact .inl hn
    · exact .inr (weights_mem h hn)

/-- What is read within the calls is within the reach. -/
theorem reach_b {H : Type} {len : Nat} {f : Nat → CD} {D : Nat → DataW H} {sp : List (DataW H)} (hz : ∀ n ∈ (DataW.slice ((List.range len).map D) sp).weights Try.prog 23, n ≤ reachBytes)
    (hD : ∀ i, i < len → ∃ d0 d1 d2 d3, D i = .agg [d0, d1, d2, d3] ∧ ((d3 = .nil ∧ (f i).b = []) ∨ ∃ el s2, d3 = .slice el s2 ∧ el.length = (f i).b.length)) : ∀ i, i < len → (f i).b.length ≤ 140737488351232 := by
  intro i hi
  obtain ⟨d0, d1, d2, d3, hDi, h3⟩ := hD i hi
  rcases h3 with ⟨_, h0⟩ | ⟨el, s2, rfl, hl⟩
  · rw [h0]; simp
  · have hm : (el.length + s2.length) * Try.prog.bytesOf 5 ∈ (DataW.slice ((List.range len).map D) sp).weights Try.prog 23 := by
      simp only [DataW.weights, Try.underlying23]
      refine List.mem_cons_of_mem _ (List.mem_append.2 (.inl (weights_mem (d := D i) (List.mem_map.2 ⟨i, List.mem_range.2 hi, rfl⟩) ?_)))
      rw [hDi]
      simp [DataW.weights, DataW.weightsEach, Try.underlying31, Try.underlying22]
    have := hz _ hm
    rw [bytes5] at this
    simp only [reachBytes] at this
    omega

theorem below_of {w w' : World} (h : Touch (U w.heap.size) w w') : Below w.heap.size w w' := h.below (Nat.le_refl _) fun _ hk => hk

theorem walk (a1 : Option Addr) (len1 cap1 : Nat) (v K : Int) (f : Nat → CD) (w : World) (hv : (Lit.int .u32 v).wf = true) (hm1 : len1 ≤ maxLen)
    (hcalls : CallsV w a1 len1 f) (hr : ∀ i, i < len1 → (f i).b.length ≤ 140737488351232) :
    Calls Try.prog 4 #[.slice a1 len1 cap1, .int .u32 v, .int .i64 K] w fun e w' => e = .returned (.bool true) ∧ Below w.heap.size w w' := by
  have hb := bounds_u32 hv
  obtain ⟨x, rfl⟩ := Int.eq_ofNat_of_zero_le hb.1
  have go : Calls Try.prog 4 #[.slice a1 len1 cap1, .int .u32 x, .int .i64 K] w (fun e w' => e = .returned (.bool true) ∧ Touch (U w.heap.size) w w') := by
    by_cases h1 : len1 = 0
    · subst h1
      exact writes_nocalls a1 cap1 x K w (by omega)
    · rcases hcalls with h | ⟨bc, oc, rfl, hbc, hca⟩
      · exact absurd h h1
      exact writes_some bc oc cap1 len1 x K f w (by omega) hm1 (.inr ⟨bc, oc, rfl, hbc, hca⟩) (.inr hbc) hr
  exact go.mono fun _ _ ⟨he, ht⟩ => ⟨he, below_of ht⟩

set_option maxRecDepth 100000 in
theorem lifted (os : Os) (started : os.Started) (H : Type) (enc : TypeId × Value → H) :
    ReturnsInHanded {} Try.checked os 4 .any (Rows.bitsWritesSpec.pre6 enc Try.prog Try.f4 Rows.bitsWritesRow.domain false) (Rows.bitsWritesSpec.post enc Try.prog Try.f4 false true false false) := by
  refine returnsInHanded_of_change_sized (C := Try.checked) own started (by kernel_rfl) Try.func4
    (ChangeSpec.witness6 (enc := enc) (C := Try.checked) false ⟨#[], #[.slice none 0 0, .int .u32 0, .int .i64 0], []⟩ 8 (by kernel_rfl) (by kernel_rfl) (by kernel_rfl) (by kernel_rfl)) ?_
  intro W base args ds gs before hval0 hW hcnd hsz0 _
  have hval : ∀ (j : Nat) t v, Try.f4.params[j]? = some t → args[j]? = some v → Value.okWide Try.prog W .any base t v := hval0
  have hsz : (DataW.weightsEach Try.prog (Try.f4.params.toList ++ Rows.bitsWritesSpec.plain.varTypes Try.prog) (ds ++ gs)).all (· ≤ reachBytes) = true := hsz0
  have hW' := hW
  obtain ⟨p, q, hA0, hV, rfl, hfz, hnd⟩ := hW
  have hA : DataW.TrodAll enc Try.prog W 0 (fun _ => true) true Try.f4.params.toList args.toList ds p := hA0
  rw [Try.params4] at hA hval hsz
  obtain ⟨v1, vs1, d1, ds1, p1, q1, hargs, rfl, rfl, h1, r1⟩ := trodAll_cons hA
  obtain ⟨v2, vs2, d2, ds2, p2, q2, rfl, rfl, rfl, h2, r2⟩ := trodAll_cons r1
  obtain ⟨v3, vs3, d3, ds3, p3, q3, rfl, rfl, rfl, h3, r3⟩ := trodAll_cons r2
  obtain ⟨rfl, rfl, rfl⟩ := trodAll_nil r3
  obtain rfl : args = #[v1, v2, v3] := by cases args; simp_all
  obtain ⟨rfl, rfl⟩ := trodVars_none hV
  obtain ⟨a1, len1, cap1, rfl⟩ := okWide_slice Try.underlying23 (hval 0 23 v1 rfl rfl)
  have k1 := h1
  have lt1 : ∀ x ∈ p1, x.block < W.heap.size := by obtain ⟨m, hm⟩ := k1; exact DataW.trod_lt m _ _ _ hm
  obtain ⟨f, hm1, hcv, hr⟩ : ∃ f : Nat → CD, len1 ≤ maxLen ∧ CallsV W a1 len1 f ∧ ∀ i, i < len1 → (f i).b.length ≤ 140737488351232 := by
    obtain ⟨fuel, hf⟩ := h1
    have hf' : DataW.trod enc Try.prog W 0 (fun _ => true) true fuel 23 [.slice a1 len1 cap1] = some (d1, p1) := by simpa [Value.cells] using hf
    rcases calls_open hf' with hcs | ⟨a, l, c, f, hcs, hl, hm, hv, D, sp, hd, hD⟩
    · simp at hcs
      obtain ⟨rfl, rfl, rfl⟩ := hcs
      exact ⟨fun _ => default, Nat.zero_le _, .inl rfl, fun i hi => absurd hi (by omega)⟩
    · simp at hcs
      obtain ⟨rfl, rfl, rfl⟩ := hcs
      refine ⟨f, by omega, hv, reach_b (D := D) (sp := sp) (fun n hn => ?_) hD⟩
      have hd' : d1 = .slice ((List.range len1).map D) sp := hd
      have := List.all_eq_true.1 hsz n (DataW.weights_mem_each (j := 0) (t := 23) (d := d1) rfl rfl n (by rw [hd']; exact hn))
      simpa using this
  obtain ⟨v, rfl, rfl, rfl, w2⟩ := open_int Try.underlying29 (hval 1 29 v2 rfl rfl) h2
  obtain ⟨K, rfl, rfl, rfl, w3⟩ := open_int Try.underlying3 (hval 2 3 v3 rfl rfl) h3
  clear hA0 hval0
  refine (walk a1 len1 cap1 v K f W w2 hm1 hcv hr).mono fun e W' ⟨he, bel⟩ => ?_
  subst he
  exact ⟨_, rfl, _, _, _, [], _, [], hW', trodAll_mk1 (shut_bool Try.underlying4 _), (trodAll_cons_mk (Below.trod laidOut (by kernel_rfl) (of_decide_eq_true (by kernel_rfl)) k1 bel lt1) (trodAll_cons_mk (shut_int Try.underlying29 w2) (trodAll_cons_mk (shut_int Try.underlying3 w3) trodAll_mk0))), rfl, bel.frame _, fun h => by cases h⟩

theorem over : Rows.bitsWritesRow.holds Try.pinned (OpenSpec.ofChange Rows.bitsWritesSpec) :=
  OpenClaim.holds_of_wide 4 Try.f4 rfl rfl rfl rfl rfl rfl rfl ⟨rfl, rfl, rfl, rfl, rfl⟩ rfl rfl rfl rfl rfl (by kernel_rfl) Try.func4 (by kernel_rfl)
    (of_decide_eq_true (by kernel_rfl)) (by unfold Func.isWrapper; first | (rw [if_pos (by decide +kernel)]; kernel_rfl) | (rw [if_neg (by decide +kernel)]; exact ⟨rfl, rfl⟩))
    (fun os started H enc _ => lifted os started H enc)

theorem proved : Rows.BitsWritesSaid := over
#print axioms proved
end Go.Proofs.Ytjbjjnfhklpffaa.bitsWrites
