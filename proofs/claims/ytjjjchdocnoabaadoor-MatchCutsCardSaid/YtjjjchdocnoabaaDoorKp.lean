/-
  From a row's condition to the walk's facts (the table of layer 7); a slice of bytes that came in, opened.
-/
import Derived.Test.YtjjjchdocnoabaaDoorFg
import Derived.Test.YtjjjchdocnoabaaDoorKf
import Derived.Test.YtjjjchdocnoabaaDoorKg
import Derived.Test.YtjjjchdocnoabaaDoorKh
import Derived.Test.YtjjjchdocnoabaaDoorCards
import Derived.Test.YtjjjchdocnoabaaDoorTie
import Derived.ProofKit
import Derived.OpenShut
import Derived.ShutString
import Derived.ChangeOld
import Derived.SizedLaws
import Derived.LaidMore
import Derived.Lay
import Derived.SevenTiedAt
import Derived.Stop.Joined
import Derived.Lib.LaidTab
import Derived.ChangeSame
namespace Go.Proofs.YtjjjchdocnoabaaDoor
open Go.ChangeShapes Go.WideShapes Go.ChangeAt Go.RowKit
set_option maxRecDepth 100000

theorem own : ownKnob Tryd.prog.godebug = none := by kernel_rfl
theorem laidOut : laidOutB Tryd.prog = true := by kernel_rfl
abbrev laidL : List (String × DataW Unit) := [("etui/match.efforts", Rows.laid_etui_match_efforts)]
theorem cells_of_pairs {H : Type} {enc : TypeId × Value → H} {P : Program} {w : World} {base : Nat} {sp : Nat → Bool} {held : Bool} {fuel : Nat} {t e ti : TypeId} {n : Nat} {k : IntKind} {cs : List Value} {zs : List (Int × Int)} {p : List MemPlace} {f0 f1 : Field}
    (ht : P.underlying t = some (.array n e)) (he : P.underlying e = some (.struct #[f0, f1])) (h0 : f0.type = ti ∧ f0.offset = 0) (h1 : f1.type = ti ∧ f1.offset = 1) (hti : P.underlying ti = some (.int k)) (hci : P.cellsOf ti = 1) (hce : P.cellsOf e = 2) (hct : P.cellsOf t = n * 2)
    (h : DataW.trod enc P w base sp held fuel t cs = some (.agg (zs.map fun z => .agg [.lit (.int k z.1), .lit (.int k z.2)]), p)) (i : Nat) (hi : i < n) :
    ∃ z, zs[i]? = some z ∧ cs[i * 2]? = some (.int k z.1) ∧ cs[i * 2 + 1]? = some (.int k z.2) := by
  cases fuel with
  | zero => simp [DataW.trod] at h
  | succ fuel =>
    simp only [DataW.trod, ht, hce, hct] at h
    split at h
    · rename_i hl
      obtain ⟨xs, hm, hx⟩ := Option.map_eq_some_iff.1 h
      have hxs : xs.map (·.1) = zs.map fun z => (DataW.agg [.lit (.int k z.1), .lit (.int k z.2)] : DataW H) := by
        have := congrArg Prod.fst hx
        simpa using this
      obtain ⟨b, hb, hf⟩ := Lib.mapM_at hm i i (by simp [hi])
      obtain ⟨y0, y1, m, hb2, hlen, hy0, hy1⟩ := trod_struct2 he hf
      rw [h0.1, h0.2, hci] at hy0
      rw [h1.1, h1.2, hci] at hy1
      obtain ⟨a0, hc0, rfl, _⟩ := DataW.trod_int hti hy0
      obtain ⟨a1, hc1, rfl, _⟩ := DataW.trod_int hti hy1
      have h2 : (xs.map (·.1))[i]? = some (DataW.agg [.lit (.int k a0), .lit (.int k a1)] : DataW H) := by simp [hb, hb2]
      rw [hxs] at h2
      simp only [List.getElem?_map, Option.map_eq_some_iff] at h2
      obtain ⟨z, hz, he2⟩ := h2
      simp only [DataW.agg.injEq, List.cons.injEq, DataW.lit.injEq, Lit.int.injEq, true_and, and_true] at he2
      refine ⟨z, hz, ?_, ?_⟩
      · rw [he2.1]
        have := congrArg (·[0]?) hc0
        simpa [List.getElem?_take, List.getElem?_drop] using this
      · rw [he2.2]
        have := congrArg (·[0]?) hc1
        simpa [List.getElem?_take, List.getElem?_drop] using this
    · cases h
def effs : List (Int × Int) := [(0, 0), (8, 0), (16, 0), (32, 0), (32, 8), (48, 16), (64, 32), (96, 64), (128, 128), (256, 258)]
theorem eff_z : ∀ i, i < 10 → ∀ z, effs[i]? = some z → z.1 = ((eff.getD (i * 2) 0 : Nat) : Int) ∧ z.2 = ((eff.getD (i * 2 + 1) 0 : Nat) : Int) := by
  intro i hi z hz
  have : i = 0 ∨ i = 1 ∨ i = 2 ∨ i = 3 ∨ i = 4 ∨ i = 5 ∨ i = 6 ∨ i = 7 ∨ i = 8 ∨ i = 9 := by omega
  rcases this with rfl | rfl | rfl | rfl | rfl | rfl | rfl | rfl | rfl | rfl <;> (cases hz; exact ⟨rfl, rfl⟩)
theorem tab_of {W : World} (h : laidMetH Tryd.prog laidL W) : TabM W := by
  rw [MakeChecks.laidMetH_plain _ _ _ (by kernel_rfl)] at h
  obtain ⟨ps, ⟨g', t', cs, fuel, p, q, hg', ht', hvar, hd, _, _⟩, _⟩ := h
  obtain rfl := Option.some.inj ((show Tryd.prog.globalNamed "etui/match.efforts" = some 0 by kernel_rfl).symm.trans hg')
  obtain rfl := Option.some.inj ((show (Tryd.prog.globals[0]?).map (·.type) = some 43 by kernel_rfl).symm.trans ht')
  have hc := fun i hi => cells_of_pairs (zs := effs) (k := .i64) (n := 10) Tryd.underlying43 Tryd.underlying42 ⟨rfl, rfl⟩ ⟨rfl, rfl⟩ Tryd.underlying3 (by kernel_rfl) (by kernel_rfl) (by kernel_rfl) hd i hi
  have hcell := fun j => World.var?_cell hg' hvar j
  intro j hj
  obtain ⟨z, hz, c0, c1⟩ := hc (j / 2) (by omega)
  obtain ⟨e0, e1⟩ := eff_z (j / 2) (by omega) z hz
  have hm : j = j / 2 * 2 ∨ j = j / 2 * 2 + 1 := by omega
  rcases hm with e | e
  · rw [e, hcell, ← e0]
    simpa using c0
  · rw [e, hcell, ← e1]
    simpa using c1

theorem by_open {H : Type} {enc : TypeId × Value → H} {w : World} {base : Nat} {spare : Nat → Bool} {held : Bool} {fuel : Nat} {a : Option Addr} {len cap : Nat} {y : DataW H × List MemPlace}
    (h : DataW.trod enc Tryd.prog w base spare held fuel 22 [.slice a len cap] = some y) : ∃ xs : List Nat, xs.length = len ∧ Bs xs ∧ BySl w (.slice a len cap) xs ∧ len ≤ cap ∧ cap ≤ maxLen := by
  rcases open_ints Tryd.underlying22 Tryd.underlying5 (by kernel_rfl) h with ⟨hcs, _⟩ | ⟨ad, l, c, zs, hcs, _, hl, hm, hz, _, hcell, hwf⟩
  · simp at hcs
    obtain ⟨rfl, rfl, rfl⟩ := hcs
    exact ⟨[], rfl, (fun x h => by cases h), .inl ⟨rfl, rfl⟩, Nat.le_refl _, Nat.zero_le _⟩
  · simp at hcs
    obtain ⟨rfl, rfl, rfl⟩ := hcs
    have hzl : len ≤ zs.length := by rw [hz]; split <;> omega
    have hbd : ∀ n ∈ zs, 0 ≤ n ∧ n < 256 := fun n hn => by have := bounds_u8 (hwf n hn); omega
    have hlen : ((zs.take len).map Int.toNat).length = len := by rw [List.length_map, List.length_take]; omega
    refine ⟨(zs.take len).map Int.toNat, hlen, ?_, .inr ⟨ad, cap, by rw [hlen], by omega, fun j u hu => ?_⟩, hl, hm⟩
    · intro x hx
      obtain ⟨z, hz1, rfl⟩ := List.mem_map.1 hx
      have := hbd z (List.mem_of_mem_take hz1)
      omega
    · have hj : j < len := by
        have := (List.getElem?_eq_some_iff.1 hu).1
        simp only [u8s, List.length_map] at this
        rw [← hlen]; simpa using this
      have hcj := hcell j (by omega)
      rw [hcj]
      have hm' := hbd (zs[j]'(by omega)) (List.getElem_mem _)
      simp [u8s, hj, show j < zs.length by omega, Int.toNat_of_nonneg hm'.1] at hu ⊢
      exact hu

end Go.Proofs.YtjjjchdocnoabaaDoor
