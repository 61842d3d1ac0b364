/-
  First; the reference's.
-/
import Derived.Test.YtflabomkgkojlaaF
import Derived.Shelf.Bytes.SlIndexWhole
namespace Go.Proofs.Ytflabomkgkojlaa
open Go.RowKit Go.Shelf

/-- The library's search, at this program's own numbers. -/
def lm_ren : Go.Shelf.Ren := ⟨fun | 185 => 23 | 187 => 30 | 115 => 31 | 253 => 32 | 224 => 33 | 254 => 34 | 255 => 39 | 291 => 40 | n => n, fun | 37 => 22 | 3 => 3 | 4 => 4 | 0 => 0 | 5 => 5 | 46 => 63 | 9 => 9 | 146 => 66 | 51 => 23 | n => n, fun | 1 => 0 | n => n⟩
theorem lm185 : Go.Proofs.LaysM.n185 Try.prog lm_ren := {
  mixed := by kernel_rfl,
  f115 := Try.func31.trans (congrArg some (by kernel_rfl)),
  f185 := Try.func23.trans (congrArg some (by kernel_rfl)),
  f187 := Try.func30.trans (congrArg some (by kernel_rfl)),
  f224 := Try.func33.trans (congrArg some (by kernel_rfl)),
  f253 := Try.func32.trans (congrArg some (by kernel_rfl)),
  f254 := Try.func34.trans (congrArg some (by kernel_rfl)),
  f255 := Try.func39.trans (congrArg some (by kernel_rfl)),
  f291 := Try.func40.trans (congrArg some (by kernel_rfl)),
  t0 := Try.underlying0,
  a0 := Try.isAgg0,
  z0 := Try.sizeOf0,
  v0 := Try.zeroValue0,
  t3 := Try.underlying3,
  a3 := Try.isAgg3,
  z3 := Try.sizeOf3,
  v3 := Try.zeroValue3,
  t4 := Try.underlying4,
  a4 := Try.isAgg4,
  z4 := Try.sizeOf4,
  v4 := Try.zeroValue4,
  t5 := Try.underlying5,
  a5 := Try.isAgg5,
  z5 := Try.sizeOf5,
  v5 := Try.zeroValue5,
  t9 := Try.underlying9,
  a9 := Try.isAgg9,
  z9 := Try.sizeOf9,
  v9 := Try.zeroValue9,
  t37 := Try.underlying22,
  a37 := Try.isAgg22,
  z37 := Try.sizeOf22,
  v37 := Try.zeroValue22,
  t46 := Try.underlying63,
  a46 := Try.isAgg63,
  z46 := Try.sizeOf63,
  v46 := Try.zeroValue63,
  t51 := Try.underlying23,
  a51 := Try.isAgg23,
  z51 := Try.sizeOf23,
  v51 := Try.zeroValue23,
  t146 := Try.underlying66,
  a146 := Try.isAgg66,
  z146 := Try.sizeOf66,
  v146 := Try.zeroValue66,
  g1 := by kernel_rfl,
  i0 := by kernel_rfl,
  i3 := by kernel_rfl,
  i4 := by kernel_rfl,
  i5 := by kernel_rfl,
  i9 := by kernel_rfl,
  i37 := by kernel_rfl,
  i46 := by kernel_rfl,
  i51 := by kernel_rfl,
  i146 := by kernel_rfl,
  m1 := by kernel_rfl,
  s1_3 := fun w h => Go.Proofs.cell_of_shapedOpen_int (zero := #[.int .i64 0]) (t := 3) h (of_decide_eq_true (by kernel_rfl)) (by kernel_rfl) rfl (by kernel_rfl) (by kernel_rfl) Try.underlying3 }

/-- The library's own bound holds some number. -/
def MaxL (w : World) : Prop := ∃ m, w.cell? ⟨0, 0, none⟩ = some (.int .i64 m)
theorem MaxL.below {w w' : World} (h : MaxL w) (hb : Below w.heap.size w w') : MaxL w' := by
  obtain ⟨m, hm⟩ := h
  exact ⟨m, (hb.cell (World.block_lt_of_cell? w _ hm)).trans hm⟩

theorem ints_bd {xs : List Nat} (hb : Bs xs) : ∀ x ∈ ints xs, 0 ≤ x ∧ x < 256 := by
  intro x hx
  obtain ⟨y, hy, rfl⟩ := List.mem_map.1 hx
  have := hb y hy
  omega
theorem ints_at (xs : List Nat) (j : Nat) : (ints xs).getD j 0 = ((xs.getD j 0 : Nat) : Int) := by
  simp only [ints, List.getD, List.getElem?_map]
  cases xs[j]? <;> simp

theorem index_any (ao ao2 : Option Addr) (c c2 : Nat) (xs : List Nat) (s : Nat) (w : World) (h : Sl w ao c xs) (h2 : Sl w ao2 c2 (le s 4)) (hm : xs.length ≤ 1000000000) (hM : MaxL w) :
    Calls Try.prog 23 #[.slice ao xs.length c, .slice ao2 4 c2] w fun e w' => e = .returned (.int .i64 (Lib.index (U xs) (U (le s 4)))) ∧ Drew w w' := by
  have hnl := le_len (s : Int) 4
  obtain ⟨b2, o2, rfl, _, hc2⟩ := h2.at_ (by omega)
  obtain ⟨m, hmm⟩ := hM
  cases ao with
  | none =>
    have h0 := h.nil rfl
    have h1 := h.le
    have hx : xs = [] := List.eq_nil_of_length_eq_zero (by omega)
    subst hx
    subst h0
    have K := Any.bytes_Index_nil { lm185 with } (some ⟨b2, o2, none⟩) 4 c2 w (by omega) (fun h => absurd h (by decide))
    exact K.mono fun e w' ⟨he, hw⟩ => ⟨by rw [he]; rfl, ⟨0, hw⟩⟩
  | some ad =>
    have K := Any.bytes_Index_at { lm185 with } ad ⟨b2, o2, none⟩ xs.length c 4 c2 (ints xs) (ints (le s 4)) m w (by simp [ints]) (by simp [ints, le_len]) (ints_bd h.bs) (ints_bd h2.bs)
      (fun i hi => by
        obtain ⟨b1, o1, e1, _, hc1⟩ := h.at_ (by omega)
        obtain rfl := Option.some.inj e1
        rw [Addr.add_lit, ints_at]
        exact hc1 i hi)
      (fun i hi => by
        rw [Addr.add_lit, ints_at]
        exact hc2 i (by omega))
      h.le (by omega) (by omega) hmm
    rw [bytesOf_ints, bytesOf_ints] at K
    exact K
end Go.Proofs.Ytflabomkgkojlaa
