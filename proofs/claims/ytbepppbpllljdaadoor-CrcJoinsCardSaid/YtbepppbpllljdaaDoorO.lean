/-
  Rows of bytes of the call's own; the sum of three rows' Xor.
-/
import Derived.Test.YtbepppbpllljdaaDoorL
namespace Go.Proofs.YtbepppbpllljdaaDoor
open Go.RowKit CrcPlain

/-- A row of n bytes. -/
def brow (n : Nat) (f : Nat → Nat) : Array Value := ((List.range n).map fun i => Value.int .u8 ((f i : Nat) : Int)).toArray
def blist (n : Nat) (f : Nat → Nat) : List Nat := (List.range n).map f

theorem blist_len (n : Nat) (f : Nat → Nat) : (blist n f).length = n := by simp [blist]
theorem blist_at (n : Nat) (f : Nat → Nat) (i : Nat) (h : i < n) : (blist n f).getD i 0 = f i := by simp [blist, List.getD, h]
theorem blist_self (xs : List Nat) : blist xs.length (fun i => xs.getD i 0) = xs := by
  apply List.ext_getElem
  · simp [blist]
  · intro i h1 h2
    simp [blist, List.getD, h2]
theorem brow_at (n : Nat) (f : Nat → Nat) (i : Nat) (h : i < n) : (brow n f)[i]? = some (.int .u8 ((f i : Nat) : Int)) := by simp [brow, h]
theorem brow_zero (n : Nat) : zrow n = brow n fun _ => 0 := by
  apply Array.ext
  · simp [brow, zrow]
  · intro i h1 h2
    simp [brow, zrow]
theorem brow_congr {n : Nat} {f g : Nat → Nat} (h : ∀ i, i < n → f i = g i) : brow n f = brow n g := by
  unfold brow
  congr 1
  apply List.map_congr_left
  intro i hi
  rw [h i (List.mem_range.1 hi)]
theorem brow_set (n : Nat) (f : Nat → Nat) (k x : Nat) : (brow n f).setIfInBounds k (.int .u8 ((x : Nat) : Int)) = brow n fun i => if i = k then x else f i := by
  apply Array.ext
  · simp [brow]
  · intro i h1 h2
    rw [Array.getElem_setIfInBounds (by simpa [brow] using h2)]
    simp only [brow, List.getElem_toArray, List.getElem_map, List.getElem_range]
    by_cases h : k = i
    · subst h; simp
    · have h' : ¬ i = k := fun e => h e.symm
      simp [h, h']
theorem brow_src {w : World} {g n : Nat} {f : Nat → Nat} (h : Blk w g 5 (brow n f)) : Src w (some ⟨g, 0, none⟩) (blist n f) := by
  refine .inr ⟨_, _, rfl, fun j hj => ?_⟩
  rw [blist_len] at hj
  rw [Nat.zero_add, h.cell j, brow_at n f j hj, blist_at n f j hj]

/-- Told up to k, nought behind. -/
def bupto (f : Nat → Nat) (k : Nat) : Nat → Nat := fun i => if i < k then f i else 0
theorem bupto_zero (f : Nat → Nat) : bupto f 0 = fun _ => 0 := by funext i; simp [bupto]
theorem bupto_all (n : Nat) (f : Nat → Nat) : brow n (bupto f n) = brow n f := brow_congr fun i hi => by simp [bupto, hi]
theorem bupto_set (n : Nat) (f : Nat → Nat) (k : Nat) : (brow n (bupto f k)).setIfInBounds k (.int .u8 ((f k : Nat) : Int)) = brow n (bupto f (k + 1)) := by
  rw [brow_set]
  apply brow_congr
  intro i _
  unfold bupto
  by_cases h : i = k
  · subst h; simp
  · simp only [h, if_false]
    by_cases h1 : i < k
    · simp [h1, show i < k + 1 by omega]
    · simp [h1, show ¬ i < k + 1 by omega]

def xorF (xs ys zs : List Nat) : Nat → Nat := fun i => xs.getD i 0 ^^^ ys.getD i 0 ^^^ zs.getD i 0

theorem xorF_lt {xs ys zs : List Nat} (hx : Bs xs) (hy : Bs ys) (hz : Bs zs) (i : Nat) : xorF xs ys zs i < 256 :=
  Nat.xor_lt_two_pow (n := 8) (Nat.xor_lt_two_pow (n := 8) (hx.at i) (hy.at i)) (hz.at i)
theorem blist_bs {n : Nat} {f : Nat → Nat} (h : ∀ i, f i < 256) : Bs (blist n f) := fun x hx => by
  obtain ⟨i, _, rfl⟩ := List.mem_map.1 hx
  exact h i

theorem ofNat_xor3 (a b c : Nat) : BitVec.ofNat 32 (a ^^^ b ^^^ c) = BitVec.ofNat 32 a ^^^ BitVec.ofNat 32 b ^^^ BitVec.ofNat 32 c := by
  apply BitVec.eq_of_toNat_eq
  simp only [BitVec.toNat_xor, BitVec.toNat_ofNat, Nat.xor_mod_two_pow]

theorem feed_xor3 (o : BitVec 32) (xs ys zs : List Nat) (hx : Bs xs) (hy : Bs ys) (hz : Bs zs) (h2 : ys.length = xs.length) (h3 : zs.length = xs.length) (k : Nat) (hk : k ≤ xs.length) :
    feed o (bv ((blist xs.length (xorF xs ys zs)).take k)) = feed o (bv (xs.take k)) ^^^ feed o (bv (ys.take k)) ^^^ feed o (bv (zs.take k)) := by
  induction k with
  | zero =>
    simp [bv, feed]
  | succ k ih =>
    have ih := ih (by omega)
    rw [take_next _ k (by rw [blist_len]; omega), take_next xs k (by omega), take_next ys k (by omega), take_next zs k (by omega), blist_at _ _ k (by omega),
      feed_snoc _ _ _ (xorF_lt hx hy hz k), feed_snoc _ _ _ (hx.at k), feed_snoc _ _ _ (hy.at k), feed_snoc _ _ _ (hz.at k), ih, xorF, ofNat_xor3, ← hvs_xor, ← hvs_xor]
    congr 1
    ac_rfl

theorem sum_xor3 (xs ys zs : List Nat) (hx : Bs xs) (hy : Bs ys) (hz : Bs zs) (h2 : ys.length = xs.length) (h3 : zs.length = xs.length) :
    updN 0#32 (blist xs.length (xorF xs ys zs)) = updN 0#32 xs ^^^ updN 0#32 ys ^^^ updN 0#32 zs := by
  have h := feed_xor3 (~~~ 0#32) xs ys zs hx hy hz h2 h3 xs.length (Nat.le_refl _)
  rw [List.take_length, ← h2, List.take_length, ← (h3.trans h2.symm), List.take_length, h3, List.take_of_length_le (by rw [blist_len]; omega)] at h
  unfold updN
  rw [h]
  have e : ∀ a b c : BitVec 32, ~~~ (a ^^^ b ^^^ c) = ~~~ a ^^^ ~~~ b ^^^ ~~~ c := fun a b c => by
    apply BitVec.eq_of_getLsbD_eq
    intro i hi
    simp only [BitVec.getLsbD_not, BitVec.getLsbD_xor, hi]
    cases a.getLsbD i <;> cases b.getLsbD i <;> cases c.getLsbD i <;> rfl
  exact e _ _ _
end Go.Proofs.YtbepppbpllljdaaDoor
