/-
  A row of calls that came in, opened.
-/
import Derived.Test.YtjbjjnfhklpffaaL
import Derived.Lib.SmallJoins
import Derived.Deep.Slices
import Derived.ProofKit
import Derived.OpenShut
import Derived.SizedLaws
namespace Go.Proofs.Ytjbjjnfhklpffaa
open Go.RowKit Go.ChangeShapes Go.WideShapes

/-- A call that is told: its cells' contents. -/
structure CD where
  what : Int
  n : Int
  v : Nat
  b : List Nat
  sv : Value

instance : Inhabited CD := ⟨⟨0, 0, 0, [], .slice none 0 0⟩⟩

structure CallAt (w : World) (A : Addr) (c : CD) : Prop where
  c0 : w.cell? (A.add 0) = some (.int .i64 c.what)
  c1 : w.cell? (A.add 1) = some (.int .i64 c.n)
  c2 : w.cell? (A.add 2) = some (.int .u32 c.v)
  c3 : w.cell? (A.add 3) = some c.sv
  hv : c.v < 4294967296
  hs : BySl w c.sv c.b
  hb : Bs c.b

section
variable {H : Type} {enc : TypeId × Value → H} {w : World} {base : Nat} {spare : Nat → Bool} {held : Bool}

theorem nat_of {k : Int} {zs : List Int} (hk : ∀ n ∈ zs, 0 ≤ n ∧ n < k) (j : Nat) (h : j < zs.length) : ((zs.map Int.toNat).getD j 0 : Int) = zs.getD j 0 := by
  have hm := hk (zs[j]) (List.getElem_mem h)
  simp [List.getD, h, Int.toNat_of_nonneg hm.1]

theorem bysl_open {fuel : Nat} {sv : Value} {y : DataW H × List MemPlace} (h : DataW.trod enc Try.prog w base spare held fuel 22 [sv] = some y) :
    ∃ B, BySl w sv B ∧ Bs B ∧ ((y.1 = .nil ∧ B = []) ∨ ∃ el sp, y.1 = .slice el sp ∧ el.length = B.length) := by
  rcases open_ints Try.underlying22 Try.underlying5 (by kernel_rfl) h with ⟨hcs, rfl⟩ | ⟨a, len, cap, zs, hcs, _, hl, hm, hz, rfl, hcell, hwf⟩
  · simp only [List.cons.injEq, and_true] at hcs
    exact ⟨[], .inl ⟨hcs, rfl⟩, Bs.nil, .inl ⟨rfl, rfl⟩⟩
  · simp only [List.cons.injEq, and_true] at hcs
    have hzl : len ≤ zs.length := by rw [hz]; split <;> omega
    have hbd : ∀ n ∈ zs, 0 ≤ n ∧ n < 256 := fun n hn => by have := bounds_u8 (hwf n hn); omega
    refine ⟨(zs.take len).map Int.toNat, .inr ⟨a, cap, ?_, ?_, ?_⟩, ?_, .inr ⟨_, _, rfl, ?_⟩⟩
    · rw [hcs, List.length_map, List.length_take, Nat.min_eq_left hzl]
    · rw [List.length_map, List.length_take]; omega
    · intro j u hu
      have hj : j < len := by
        have := (List.getElem?_eq_some_iff.1 hu).1
        rw [u8s_len, List.length_map, List.length_take] at this; omega
      rw [hcell j (by omega), ← hu]
      have hm := hbd (zs[j]'(by omega)) (List.getElem_mem _)
      simp [u8s, List.getD, hj, show j < zs.length by omega, Int.toNat_of_nonneg hm.1]
    · intro x hx
      obtain ⟨z, hz1, rfl⟩ := List.mem_map.1 hx
      have := hbd z (List.mem_of_mem_take hz1)
      omega
    · simp [lits]

theorem one_int {k : IntKind} {fuel : Nat} {t : TypeId} {v : Value} {x : DataW H × List MemPlace} (ht : Try.prog.underlying t = some (.int k)) (h : DataW.trod enc Try.prog w base spare held fuel t [v] = some x) : ∃ n, v = .int k n ∧ (Lit.int k n).wf = true := by
  obtain ⟨n, h1, _, h3⟩ := DataW.trod_int ht h
  simp only [List.cons.injEq, and_true] at h1
  exact ⟨n, h1, h3⟩

theorem Try.cells31 : Try.prog.cellsOf 31 = 4 := by kernel_rfl
theorem Try.cells3 : Try.prog.cellsOf 3 = 1 := by kernel_rfl
theorem Try.cells29 : Try.prog.cellsOf 29 = 1 := by kernel_rfl
theorem Try.cells22 : Try.prog.cellsOf 22 = 1 := by kernel_rfl

theorem call_open {fuel : Nat} {A : Addr} {cs : List Value} {D : DataW H × List MemPlace} (hc : w.cells? base A 4 = some cs) (h : DataW.trod enc Try.prog w base spare held fuel 31 cs = some D) :
    ∃ c, CallAt w A c ∧ ∃ d0 d1 d2 d3, D.1 = .agg [d0, d1, d2, d3] ∧ ((d3 = .nil ∧ c.b = []) ∨ ∃ el sp, d3 = .slice el sp ∧ el.length = c.b.length) := by
  obtain ⟨_, hl, hat⟩ := World.cells?_some hc
  match cs, hl with
  | [v0, v1, v2, v3], _ =>
    obtain ⟨y0, y1, y2, y3, n, rfl, _, h0, h1, h2, h3⟩ := Go.Joins.trod_struct4 Try.underlying31 h
    simp only [Try.cells3, Try.cells29, Try.cells22, List.drop_zero, List.drop_succ_cons, List.take_succ_cons, List.take_zero] at h0 h1 h2 h3
    obtain ⟨a, rfl, wa⟩ := one_int Try.underlying3 h0
    obtain ⟨b, rfl, wb⟩ := one_int Try.underlying3 h1
    obtain ⟨v, rfl, wv⟩ := one_int Try.underlying29 h2
    obtain ⟨B, hB, hbs, hd⟩ := bysl_open h3
    have hvb := bounds_u32 wv
    obtain ⟨vn, rfl⟩ := Int.eq_ofNat_of_zero_le hvb.1
    exact ⟨⟨a, b, vn, B, v3⟩, ⟨hat 0 (by omega), hat 1 (by omega), hat 2 (by omega), hat 3 (by omega), by simp only []; omega, hB, hbs⟩, _, _, _, _, rfl, hd⟩
end

/-- The calls that came in. -/
def CallsV (w : World) (a : Option Addr) (len : Nat) (f : Nat → CD) : Prop :=
  len = 0 ∨ ∃ b off, a = some ⟨b, off, none⟩ ∧ b < w.heap.size ∧ ∀ i, i < len → CallAt w ⟨b, off + i * 4, none⟩ (f i)

theorem calls_open {H : Type} {enc : TypeId × Value → H} {w : World} {base : Nat} {spare : Nat → Bool} {held : Bool} {fuel : Nat} {cs : List Value} {x : DataW H × List MemPlace} (h : DataW.trod enc Try.prog w base spare held fuel 23 cs = some x) :
    (cs = [.slice none 0 0]) ∨ ∃ a len cap f, cs = [.slice a len cap] ∧ len ≤ cap ∧ cap ≤ maxLen ∧ CallsV w a len f ∧
      ∃ (D : Nat → DataW H) (sp : List (DataW H)), x.1 = .slice ((List.range len).map D) sp ∧ ∀ i, i < len → ∃ d0 d1 d2 d3, D i = .agg [d0, d1, d2, d3] ∧ ((d3 = .nil ∧ (f i).b = []) ∨ ∃ el s2, d3 = .slice el s2 ∧ el.length = (f i).b.length) := by
  rcases Go.Deep.open_slice Try.underlying23 h with ⟨h0, _⟩ | ⟨a, len, cap, m, n, D, Pl, hcs, _, hl, hm, hmm, rfl, hi⟩
  · exact .inl h0
  · right
    have hlm : len ≤ m := by rw [hmm]; split <;> omega
    have hf : ∃ f : Nat → CD, ∀ i, i < len → CallAt w (a.add (i * 4)) (f i) ∧ ∃ d0 d1 d2 d3, D i = .agg [d0, d1, d2, d3] ∧ ((d3 = .nil ∧ (f i).b = []) ∨ ∃ el s2, d3 = .slice el s2 ∧ el.length = (f i).b.length) := by
      refine Go.Deep.choose_lt (α := CD) (p := fun i c => CallAt w (a.add (i * 4)) c ∧ ∃ d0 d1 d2 d3, D i = .agg [d0, d1, d2, d3] ∧ ((d3 = .nil ∧ c.b = []) ∨ ∃ el s2, d3 = .slice el s2 ∧ el.length = c.b.length)) fun i hil => ?_
      obtain ⟨cs', hc, ht⟩ := hi i (by omega)
      rw [Try.cells31] at hc
      exact call_open hc ht
    obtain ⟨f, hf⟩ := hf
    refine ⟨some a, len, cap, f, hcs, hl, hm, ?_, D, _, rfl, fun i hil => (hf i hil).2⟩
    by_cases h0 : len = 0
    · exact .inl h0
    · right
      have hc0 := (hf 0 (by omega)).1.c0
      obtain ⟨b, off, spot⟩ := a
      have hspot : spot = none := by simpa [Addr.add] using World.cell?_spot hc0
      subst hspot
      have hlt := World.block_lt_of_cell? w _ hc0
      refine ⟨b, off, rfl, by simpa [Addr.add] using hlt, fun i hil => ?_⟩
      have h := (hf i hil).1
      rw [Addr.add_lit] at h
      exact h

end Go.Proofs.Ytjbjjnfhklpffaa
