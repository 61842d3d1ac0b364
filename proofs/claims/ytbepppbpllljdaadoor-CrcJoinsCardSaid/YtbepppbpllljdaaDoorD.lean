/-
  The linear map that does another one two times, and the map of one nought.
-/
import Derived.Test.YtbepppbpllljdaaDoorC
import Derived.Deep.Cut
namespace Go.Proofs.YtbepppbpllljdaaDoor
open Go.RowKit CrcPlain

theorem z48 : ∀ W, (zeroValue 48).run Tryd.prog W = .ok (.agg (Array.replicate 32 (.int .u32 0))) W := fun _ => by kernel_rfl
theorem z41 : ∀ W, (zeroValue 41).run Tryd.prog W = .ok (.agg (Array.replicate 256 (.int .u32 0))) W := fun _ => by kernel_rfl
theorem i48 {f : Nat → BitVec 32} : (Tryd.prog.info? 48).map (·.size) = some (arr 32 f).size := by rw [arr_size]; kernel_rfl
theorem i41 {f : Nat → BitVec 32} : (Tryd.prog.info? 41).map (·.size) = some (arr 256 f).size := by rw [arr_size]; kernel_rfl
theorem a23 : ∀ W, (isAgg 23).run Tryd.prog W = .ok false W := fun _ => by kernel_rfl
theorem s23 : ∀ W, (sizeOf 23).run Tryd.prog W = .ok 1 W := fun _ => by kernel_rfl
theorem z48' : ∀ W, (zeroValue 48).run Tryd.prog W = .ok (.agg (arr 32 fun _ => 0#32)) W := by rw [← arr_zero]; exact z48
theorem z41' : ∀ W, (zeroValue 41).run Tryd.prog W = .ok (.agg (arr 256 fun _ => 0#32)) W := by rw [← arr_zero]; exact z41

/-- A row whose first k are told, the others nought. -/
def upto (f : Nat → BitVec 32) (k : Nat) : Nat → BitVec 32 := fun i => if i < k then f i else 0#32
theorem upto_zero (f : Nat → BitVec 32) : upto f 0 = fun _ => 0#32 := by funext i; simp [upto]
theorem upto_all (n : Nat) (f : Nat → BitVec 32) : arr n (upto f n) = arr n f := arr_congr fun i hi => by simp [upto, hi]
theorem upto_set (n : Nat) (f : Nat → BitVec 32) (k : Nat) : (arr n (upto f k)).setIfInBounds k (.int .u32 ((f k).toNat : Int)) = arr n (upto f (k + 1)) := by
  rw [arr_set]
  apply arr_congr
  intro i _
  unfold upto
  by_cases h : i = k
  · subst h; simp
  · simp only [h, if_false]
    by_cases h1 : i < k
    · simp [h1, show i < k + 1 by omega]
    · simp [h1, show ¬ i < k + 1 by omega]

/-- Three rows of the call's own. -/
structure Three (w : World) (p q r : Nat) (A B C : Array Value) (wr : World) : Prop where
  a : Blk wr p 48 A
  b : Blk wr q 48 B
  c : Blk wr r 48 C
  below : Below w.heap.size w wr
  lo : w.heap.size ≤ p ∧ p < q ∧ q < r

theorem Three.grow {w wr w' : World} {p q r : Nat} {A B C : Array Value} (h : Three w p q r A B C wr) (hb : Below wr.heap.size wr w') : Three w p q r A B C w' :=
  ⟨h.a.below hb, h.b.below hb, h.c.below hb, h.below.trans (hb.mono h.below.size), h.lo⟩
theorem Three.setC {w wr : World} {p q r : Nat} {A B C : Array Value} (h : Three w p q r A B C wr) (i : Nat) (u : Value) : Three w p q r A B (C.setIfInBounds i u) (wr.setCell ⟨r, i, none⟩ u) := by
  have t : Touch (fun k => k = r) wr (wr.setCell ⟨r, i, none⟩ u) := (Touch.refl _ _).setCell _ _ (.inl rfl)
  have := h.lo
  exact ⟨h.a.touch t (by omega), h.b.touch t (by omega), h.c.setCell i u, h.below.setCell (by show w.heap.size ≤ r; omega) _, h.lo⟩
theorem Three.setB {w wr W : World} {p q r : Nat} {A B B' C : Array Value} (h : Three w p q r A B C wr) (hb : Blk W q 48 B') (t : Touch (fun k => k = q) wr W) : Three w p q r A B' C W := by
  have := h.lo
  exact ⟨h.a.touch t (by omega), hb, h.c.touch t (by omega), h.below.trans (t.below h.below.size fun k hk => by omega), h.lo⟩

set_option maxHeartbeats 400000 in
theorem twice_any (m : Nat → BitVec 32) (w : World) (hT : Tab w) :
    Calls Tryd.prog 25 #[.agg (arr 32 m)] w fun e w' => e = .returned (.agg (arr 32 fun i => cols m (m i) 32)) ∧ Below w.heap.size w w' := by
  have HT := Lib.hid hT
  clear hT
  go_enter Tryd.func25, Tryd.ntmps25
  go_upto_region 2 with (first
    | (refine wpList_box_row rfl 48 (.tmp 0) rfl (arr 32 m) rfl ?_; intro W hb ht hs; have HS := Lib.hid hs; clear hs)
    | (refine wpList_alloc_z rfl 48 rfl _ z48' ?_; intro W hb ht hs; have HS := Lib.hid hs; clear hs))
  rename_i W1 hb1 ht1 HS1 W2 hb2 ht2 HS2 K1 hK1 K0 hK0
  obtain ⟨p, hp⟩ : ∃ p, p = w.heap.size := ⟨_, rfl⟩
  obtain ⟨q, hq⟩ : ∃ q, q = W1.heap.size := ⟨_, rfl⟩
  obtain ⟨r, hr⟩ : ∃ r, r = W2.heap.size := ⟨_, rfl⟩
  have H3 : Hid (Three w p q r (arr 32 m) (arr 32 fun _ => 0#32) (arr 32 fun _ => 0#32) W) := by
    subst hp hq hr
    have h1 := HS1.out
    have h2 := HS2.out
    exact Lib.hid ⟨(hb1.touch ht2 (fun h => h)).touch ht (fun h => h), hb2.touch ht (fun h => h), hb, (ht1.trans (ht2.trans ht)).below (Nat.le_refl _) (fun _ h => h.elim), by omega, by omega, by omega⟩
  rw [← hp, ← hq, ← hr]
  clear hp hq hr hb1 ht1 HS1 hb2 ht2 HS2 hb ht HS
  go_wp2_with (refine wpList_load_row rfl 48 (.tmp 1) rfl p rfl 48 (arr 32 m) H3.out.a 32 23 Tryd.underlying48 i48 ?_)
  go_loopw [7] (fun i wr => ∃ k : Nat, k ≤ 32 ∧ i = .int .i64 k ∧ Three w p q r (arr 32 m) (arr 32 fun _ => 0#32) (arr 32 (upto (fun i => cols m (m i) 32) k)) wr) (fun i _ => 32 - (intOf i).toNat)
  case atStart => exact ⟨0, by omega, rfl, by rw [upto_zero]; exact H3.out⟩
  case round =>
    obtain ⟨k, hk, rfl, hrel⟩ := hrel
    have HR := Lib.hid hrel
    clear hrel
    by_cases hlt : k < 32
    · have hkk : (k : Int) < 32 := by omega
      go_wp2_with (first
        | (refine wpList_index_row rfl 48 (.tmp 6) (.tmp 7) rfl (arr 32 m) rfl .i64 k rfl 32 23 Tryd.underlying48 hlt a23 s23 _ (arr_at 32 m k hlt) ?_)
        | (refine wpList_load_row rfl 48 (.tmp 1) rfl p rfl 48 (arr 32 m) HR.out.a 32 23 Tryd.underlying48 i48 ?_)
        | (go_at_call 24; refine (of_any m (m k).toNat (m k).isLt _ (HT.out.below HR.out.below)).mono ?_; rintro e w' ⟨rfl, hbel⟩; have HG := Lib.hid (HR.out.grow hbel); have hcell := (HG.out.c.cell k).trans (arr_at 32 _ k hlt); have hfree := HG.out.c.free k))
      go_roundw
      case rel =>
        refine ⟨k + 1, by omega, by go_num, ?_⟩
        have := HG.out.setC k (.int .u32 ((cols m (m k) 32).toNat : Int))
        rw [upto_set 32 (fun i => cols m (m i) 32) k] at this
        simpa using this
      case measure => simp [intOf]; omega
    · have hk' : k = 32 := by omega
      subst hk'
      go_wp2_with (first
        | (refine wpList_load_row rfl 48 (.tmp 3) rfl r rfl 48 _ HR.out.c 32 23 Tryd.underlying48 i48 ?_)
        | (refine wpList_store_row rfl 48 (.tmp 2) (.tmp 17) rfl rfl q rfl _ rfl 48 _ HR.out.b i48 (by rw [arr_size, arr_size]) (arr_one 32 _) ?_; intro W4 hb4 ht4 hs4; have HB := Lib.hid (HR.out.setB hb4 ht4); clear hb4 ht4 hs4))
      refine bodyPost_ret (results_cell Tryd.results25 _ _ _ q rfl 48 _ HB.out.b 32 23 Tryd.underlying48 i48) rfl ⟨?_, HB.out.below⟩
      rw [upto_all]
end Go.Proofs.YtbepppbpllljdaaDoor
