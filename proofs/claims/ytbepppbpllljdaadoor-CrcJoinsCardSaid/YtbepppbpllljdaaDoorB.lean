/-
  The linear map that is told by its columns, applied to a row of bits.
-/
import Derived.Test.YtbepppbpllljdaaDoorA
namespace Go.Proofs.YtbepppbpllljdaaDoor
open Go.RowKit CrcPlain

/-- A row of n numbers of 32 bits. -/
def arr (n : Nat) (f : Nat → BitVec 32) : Array Value := ((List.range n).map fun i => Value.int .u32 ((f i).toNat : Int)).toArray
theorem arr_size (n : Nat) (f : Nat → BitVec 32) : (arr n f).size = n := by simp [arr]
theorem arr_at (n : Nat) (f : Nat → BitVec 32) (i : Nat) (h : i < n) : (arr n f)[i]? = some (.int .u32 ((f i).toNat : Int)) := by simp [arr, h]
theorem arr_one (n : Nat) (f : Nat → BitVec 32) : (arr n f).all (·.oneCell') = true := by
  rw [Array.all_eq_true_iff_forall_mem]
  intro v hv
  simp [arr] at hv
  obtain ⟨i, _, rfl⟩ := hv
  rfl
theorem arr_congr {n : Nat} {f g : Nat → BitVec 32} (h : ∀ i, i < n → f i = g i) : arr n f = arr n g := by
  unfold arr
  congr 1
  apply List.map_congr_left
  intro i hi
  rw [h i (List.mem_range.1 hi)]
theorem arr_zero (n : Nat) : Array.replicate n (Value.int .u32 0) = arr n fun _ => 0#32 := by
  apply Array.ext
  · simp [arr]
  · intro i h1 h2
    simp [arr]
theorem arr_set (n : Nat) (f : Nat → BitVec 32) (k : Nat) (x : BitVec 32) : (arr n f).setIfInBounds k (.int .u32 (x.toNat : Int)) = arr n fun i => if i = k then x else f i := by
  apply Array.ext
  · simp [arr]
  · intro i h1 h2
    rw [Array.getElem_setIfInBounds (by simpa [arr] using h2)]
    simp only [arr, List.getElem_toArray, List.getElem_map, List.getElem_range]
    by_cases h : k = i
    · subst h; simp
    · have h' : ¬ i = k := fun e => h e.symm
      simp [h, h']

theorem Tab.below {w w' : World} (h : Tab w) (hb : Below w.heap.size w w') : Tab w' := fun j hj => by
  have hc := h j hj
  exact (hb.cell (World.block_lt_of_cell? w _ hc)).trans hc
theorem Tab.alloc {w : World} (h : Tab w) (o : Obj) : Tab (w.alloc o) := h.below ((Below.refl _ _).alloc (Nat.le_refl _) _)

theorem and_pred (x : Nat) (h0 : x ≠ 0) (hx : x < 4294967296) : bits BinOp.and IntKind.u32 (x : Int) ((x : Int) - 1) = ((x &&& (x - 1) : Nat) : Int) := by
  rw [show (x : Int) - 1 = ((x - 1 : Nat) : Int) from by omega, u32_and_nat _ _ hx (by omega)]

set_option maxHeartbeats 400000 in
theorem of_any (m : Nat → BitVec 32) (x : Nat) (hx : x < 4294967296) (w : World) (hT : Tab w) :
    Calls Tryd.prog 24 #[.agg (arr 32 m), .int .u32 x] w fun e w' => e = .returned (.int .u32 ((cols m (BitVec.ofNat 32 x) 32).toNat : Int)) ∧ Below w.heap.size w w' := by
  have HT := Lib.hid (hT.alloc (.cells (arr 32 m) 48))
  have HC : Hid (∀ k, k < 32 → (w.alloc (.cells (arr 32 m) 48)).cell? ⟨w.heap.size, k, none⟩ = some (.int .u32 ((m k).toNat : Int))) := Lib.hid fun k hk => by
    rw [World.cell?_alloc_at _ _ _ _ rfl]; exact arr_at 32 m k hk
  clear hT
  go_enter Tryd.func24, Tryd.ntmps24
  go_wp2
  go_loop [1, 5] (fun xv mv => ∃ (y : Nat) (a : BitVec 32), y < 4294967296 ∧ xv = .int .u32 y ∧ mv = .int .u32 (a.toNat : Int) ∧ a ^^^ cols m (BitVec.ofNat 32 y) 32 = cols m (BitVec.ofNat 32 x) 32) (fun xv _ => (intOf xv).toNat)
  case atStart => exact ⟨x, 0#32, hx, rfl, rfl, by simp⟩
  case round =>
    obtain ⟨y, a, hy, rfl, rfl, hrel⟩ := hrel
    by_cases h0 : y = 0
    · subst h0
      have HR := Lib.hid hrel
      clear hrel
      go_wp2
      go_ret
      refine ⟨ret_int ?_, (Below.refl _ _).alloc (Nat.le_refl _) _⟩
      have := HR.out
      rw [show BitVec.ofNat 32 0 = 0#32 from rfl, cols_zero] at this
      rw [← this]; simp
    · obtain ⟨q, hq, hk⟩ := Lib.ctzFrom_spec 32 y (by omega) hy
      have ek : Lib.ctzFrom 32 y = Lib.ctz 32 y := by simp [Lib.ctz, h0]
      rw [ek] at hq hk
      have hz : ((y : Int) == 0) = false := by simp; omega
      have hz' : ((y : Int) != 0) = true := by simp; omega
      have h1 := and_pred y h0 hy
      have hlt : y &&& (y - 1) ≤ y - 1 := Nat.and_le_right
      have hcell := HC.out _ hk
      have HR := Lib.hid ((congrArg (a ^^^ ·) (cols_round m y _ q hy hk hq)).symm.trans hrel)
      have hx1 := b_xor a (m (Lib.ctz 32 y))
      have hge : (1 : Int) ≤ y := by omega
      clear hrel ek hq
      go_wp2_with (go_at_call 26; refine (tz_any y h0 hy _ HT.out).mono ?_; rintro e w' ⟨rfl, rfl⟩)
      go_round
      case rel => exact ⟨y &&& (y - 1), a ^^^ m (Lib.ctz 32 y), by omega, by first | rfl | go_num, rfl, by rw [BitVec.xor_assoc]; exact HR.out⟩
      case measure => simp [intOf]; omega
end Go.Proofs.YtbepppbpllljdaaDoor
