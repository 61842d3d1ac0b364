/-
  The law's first look: a well-known sum.
-/
import Derived.Test.YtbepppbpllljdaaDoorI
import Derived.Deep.RegionWith
import Derived.Lib.SlBytesConst
namespace Go.Proofs.YtbepppbpllljdaaDoor
open Go.RowKit CrcPlain

def nine : List Nat := [49, 50, 51, 52, 53, 54, 55, 56, 57]

theorem nine_bs : Bs nine := by unfold Bs nine; decide
theorem Bs.take {a : List Nat} (ha : Bs a) (k : Nat) : Bs (a.take k) := fun x h => ha x (List.mem_of_mem_take h)
theorem Bs.drop {a : List Nat} (ha : Bs a) (k : Nat) : Bs (a.drop k) := fun x h => ha x (List.mem_of_mem_drop h)

/-- The nine bytes lie in block h. -/
def Nine (w : World) (h : Nat) : Prop := Src w (some ⟨h, 0, none⟩) nine

theorem Nine.cut {w : World} {h : Nat} (hn : Nine w h) (f n : Nat) (hfn : f + n ≤ 9) : Src w (some ⟨h, f, none⟩) ((nine.drop f).take n) := by
  rcases hn with hn | ⟨b, off, e, hc⟩
  · cases hn
  · simp only [Option.some.injEq, Addr.mk.injEq] at e
    obtain ⟨rfl, rfl, _⟩ := e
    have hl : nine.length = 9 := rfl
    refine .inr ⟨_, _, rfl, fun j hj => ?_⟩
    rw [List.length_take, List.length_drop] at hj
    have := hc (f + j) (by omega)
    rw [Nat.zero_add] at this
    rw [this]
    simp [List.getD, show j < n by omega]

theorem Nine.made (w : World) (fr : Nat × Nat) : Nine (w.alloc (.cells #[.int .u8 49, .int .u8 50, .int .u8 51, .int .u8 52, .int .u8 53, .int .u8 54, .int .u8 55, .int .u8 56, .int .u8 57] 5 fr)) w.heap.size := by
  refine .inr ⟨_, _, rfl, fun j hj => ?_⟩
  have hj' : j < 9 := hj
  rw [Nat.zero_add]
  rw [cell_of_row (w.alloc _) w.heap.size j #[.int .u8 49, .int .u8 50, .int .u8 51, .int .u8 52, .int .u8 53, .int .u8 54, .int .u8 55, .int .u8 56, .int .u8 57] 5 fr (by show (w.heap.push _)[w.heap.size]? = _; simp)]
  match j, hj' with
  | 0, _ => rfl
  | 1, _ => rfl
  | 2, _ => rfl
  | 3, _ => rfl
  | 4, _ => rfl
  | 5, _ => rfl
  | 6, _ => rfl
  | 7, _ => rfl
  | 8, _ => rfl

/-- The state of the look: the bytes, and the digest. -/
structure Al (w : World) (h p : Nat) (s : BitVec 32) (n : Nat) (W : World) : Prop where
  nine : Nine W h
  dg : Dg W p s n
  tab : Tab W
  below : Below w.heap.size w W
  lo : w.heap.size ≤ h ∧ h < p

section
variable {w W W' : World} {h p n : Nat} {s : BitVec 32}
theorem Al.drew (a : Al w h p s n W) : Al w h p s n W.drew := ⟨a.nine, a.dg, a.tab, a.below.drew, a.lo⟩
theorem Al.grow (a : Al w h p s n W) (hb : Below W.heap.size W W') : Al w h p s n W' :=
  ⟨Src.below a.nine hb, Blk.below a.dg hb, a.tab.below hb, a.below.trans (hb.mono a.below.size), a.lo⟩
theorem Al.wrote {s' : BitVec 32} {n' : Nat} (a : Al w h p s n W) (hT : Tab w) (hd : Dg W' p s' n') (ht : Touch (fun k => k = p) W W') : Al w h p s' n' W' := by
  have hlo := a.lo
  have hb : Below w.heap.size w W' := a.below.trans (ht.below a.below.size fun k hk => by omega)
  exact ⟨Src.touch a.nine ht fun b off e => by simp at e; omega, hd, hT.below hb, hb, a.lo⟩

theorem Al.sum (a : Al w h p s n W) (f m cap : Nat) (hfm : f + m ≤ 9) {X : Int} (hX : ((updN 0#32 ((Go.Proofs.YtbepppbpllljdaaDoor.nine.drop f).take m)).toNat : Int) = X) :
    Calls Tryd.prog 9 #[.slice (some ⟨h, f, none⟩) m cap] W fun e w' => e = .returned (.int .u32 X) ∧ Al w h p s n w' := by
  have hl : ((Go.Proofs.YtbepppbpllljdaaDoor.nine.drop f).take m).length = m := by
    have : Go.Proofs.YtbepppbpllljdaaDoor.nine.length = 9 := rfl
    rw [List.length_take, List.length_drop]; omega
  have h1 := sum_any (some ⟨h, f, none⟩) cap ((Go.Proofs.YtbepppbpllljdaaDoor.nine.drop f).take m) W (by omega) ((nine_bs.drop f).take m) (a.nine.cut f m hfm)
  rw [hl, hX] at h1
  exact h1.mono fun e w' ⟨he, hb⟩ => ⟨he, a.grow hb⟩
theorem Al.sum0 (a : Al w h p s n W) : Calls Tryd.prog 9 #[.slice none 0 0] W fun e w' => e = .returned (.int .u32 0) ∧ Al w h p s n w' :=
  (sum_any none 0 [] W (by simp) (fun _ h => by cases h) (.inl rfl)).mono fun e w' ⟨he, hb⟩ => ⟨he, a.grow hb⟩
theorem Al.join (a : Al w h p s n W) (x y : BitVec 32) (k : Nat) {A B X : Int} (hA : (x.toNat : Int) = A) (hB : (y.toNat : Int) = B) (hk : k ≤ 9223372036854775807) (hX : ((join x y k).toNat : Int) = X) :
    Calls Tryd.prog 15 #[.int .u32 A, .int .u32 B, .int .i64 k] W fun e w' => e = .returned (.int .u32 X) ∧ Al w h p s n w' := by
  subst hA hB hX
  exact (join_any x y k (by omega) W a.tab).mono fun e w' ⟨he, hb⟩ => ⟨he, a.grow hb⟩
theorem Al.zeros (a : Al w h p s n W) (x : BitVec 32) (k : Nat) {A X : Int} (hA : (x.toNat : Int) = A) (hk : k ≤ 9223372036854775807) (hX : ((YtbepppbpllljdaaDoor.zeros x k).toNat : Int) = X) :
    Calls Tryd.prog 13 #[.int .u32 A, .int .i64 k] W fun e w' => e = .returned (.int .u32 X) ∧ Al w h p s n w' := by
  subst hA hX
  exact (zeros_any x k (by omega) W a.tab).mono fun e w' ⟨he, hb⟩ => ⟨he, a.grow hb⟩
theorem Al.write (a : Al w h p s n W) (hT : Tab w) (f m cap : Nat) (hfm : f + m ≤ 9) (hn : n ≤ 100) :
    Calls Tryd.prog 16 #[.pointer (some ⟨p, 0, none⟩), .slice (some ⟨h, f, none⟩) m cap] W fun e w' => e = .returned (.tuple #[]) ∧ Al w h p (updN s ((Go.Proofs.YtbepppbpllljdaaDoor.nine.drop f).take m)) (n + m) w' := by
  have hl : ((Go.Proofs.YtbepppbpllljdaaDoor.nine.drop f).take m).length = m := by
    have : Go.Proofs.YtbepppbpllljdaaDoor.nine.length = 9 := rfl
    rw [List.length_take, List.length_drop]; omega
  have h1 := write_any p s n (some ⟨h, f, none⟩) cap ((Go.Proofs.YtbepppbpllljdaaDoor.nine.drop f).take m) W a.dg (by omega) (by omega) ((nine_bs.drop f).take m) (a.nine.cut f m hfm)
  rw [hl] at h1
  exact h1.mono fun e w' ⟨he, hd, ht⟩ => ⟨he, a.wrote hT hd ht⟩
theorem Al.dsum (a : Al w h p s n W) {X : Int} (hX : (s.toNat : Int) = X) : Calls Tryd.prog 18 #[.pointer (some ⟨p, 0, none⟩)] W fun e w' => e = .returned (.int .u32 X) ∧ Al w h p s n w' := by
  subst hX
  exact (dsum_any p s n W a.dg).mono fun _ _ ⟨he, hw⟩ => ⟨he, hw ▸ a⟩
theorem Al.len (a : Al w h p s n W) : Calls Tryd.prog 17 #[.pointer (some ⟨p, 0, none⟩)] W fun e w' => e = .returned (.int .i64 n) ∧ Al w h p s n w' :=
  (len_any p s n W a.dg).mono fun _ _ ⟨he, hw⟩ => ⟨he, hw ▸ a⟩
end

theorem nine_two : updN (updN 0#32 ((nine.drop 0).take 4)) ((nine.drop 4).take 5) = 0xcbf43926#32 := by decide +kernel

def s2 : BitVec 32 := updN 0#32 ((nine.drop 0).take 2)
def s7 : BitVec 32 := updN 0#32 ((nine.drop 2).take 7)
theorem x_full : ((updN 0#32 ((nine.drop 0).take 9)).toNat : Int) = 3421780262 := by decide +kernel
theorem x_two : ((updN 0#32 ((nine.drop 0).take 2)).toNat : Int) = (s2.toNat : Int) := rfl
theorem x_seven : ((updN 0#32 ((nine.drop 2).take 7)).toNat : Int) = (s7.toNat : Int) := rfl
theorem x_join : ((join s2 s7 7).toNat : Int) = 3421780262 := by decide +kernel
theorem x_zeros : ((zeros 0#32 1).toNat : Int) = 3523407757 := by decide +kernel

set_option maxHeartbeats 1600000 in
theorem alive_any (w : World) (hT : Tab w) :
    Calls Tryd.prog 8 #[] w fun e w' => e = .returned (.bool true) ∧ Below w.heap.size w w' := by
  have hc := fun (w : World) (C : Array Value) (n c : Nat) => Lib.run_convert_bytes_const (P := Tryd.prog) w 22 5 C n c Tryd.underlying22 Tryd.underlying5
  have HT := Lib.hid hT
  clear hT
  go_enter Tryd.func8, Tryd.ntmps8
  go_upto_region 2 with fail
  clear hc
  obtain ⟨h, hh⟩ : ∃ h, h = w.heap.size := ⟨_, rfl⟩
  have HA0 : Hid (Nine (w.alloc (.cells #[.int .u8 49, .int .u8 50, .int .u8 51, .int .u8 52, .int .u8 53, .int .u8 54, .int .u8 55, .int .u8 56, .int .u8 57] 5 (9, 10))) h ∧ Below w.heap.size w (w.alloc (.cells #[.int .u8 49, .int .u8 50, .int .u8 51, .int .u8 52, .int .u8 53, .int .u8 54, .int .u8 55, .int .u8 56, .int .u8 57] 5 (9, 10))) ∧ (w.alloc (.cells #[.int .u8 49, .int .u8 50, .int .u8 51, .int .u8 52, .int .u8 53, .int .u8 54, .int .u8 55, .int .u8 56, .int .u8 57] 5 (9, 10))).heap.size = h + 1) := by
    rw [hh]
    exact Lib.hid ⟨Nine.made w _, (Below.refl _ _).alloc (Nat.le_refl _) _, by simp⟩
  have HH := Lib.hid hh
  rw [← hh]
  clear hh
  go_wp2_with fail
  refine (new_any _).mono ?_
  generalize (w.alloc (.cells #[.int .u8 49, .int .u8 50, .int .u8 51, .int .u8 52, .int .u8 53, .int .u8 54, .int .u8 55, .int .u8 56, .int .u8 57] 5 (9, 10))) = W0 at HA0 ⊢
  rintro e W1 ⟨rfl, hd1, ht1, hs1⟩
  obtain ⟨p, hp⟩ : ∃ p, p = W0.heap.size := ⟨_, rfl⟩
  have HA : Hid (Al w h p 0#32 0 W1) := by
    obtain ⟨a1, a2, a3⟩ := HA0.out
    have hb := a2.trans ((ht1.below (Nat.le_refl _) fun _ h => h.elim).mono a2.size)
    subst hp
    exact Lib.hid ⟨Src.touch a1 ht1 fun _ _ _ h => h, hd1, HT.out.below hb, hb, by rw [HH.out]; exact Nat.le_refl _, by omega⟩
  rw [← hp]
  clear hp hd1 ht1 hs1 HA0 HH
  go_wp2_with fail
  refine (HA.out.write HT.out 0 4 9 (by omega) (by omega)).mono ?_
  rintro e W2 ⟨rfl, hA2⟩
  have HA2 := Lib.hid hA2
  clear hA2 HA
  go_wp2_with fail
  refine (HA2.out.write HT.out 4 5 5 (by omega) (by omega)).mono ?_
  rintro e W3 ⟨rfl, hA3⟩
  have HA : Hid (Al w h p 0xcbf43926#32 9 W3) := Lib.hid (by rw [nine_two] at hA3; exact hA3)
  clear hA3 HA2
  go_wp2_with fail
  have HB := Lib.hid HA.out.drew
  clear HA
  go_region_with (first
    | (go_at_call 9; refine (HB.out.sum 0 9 9 (by omega) x_full).mono ?_; rintro e W4 ⟨rfl, hA4⟩; have HB := Lib.hid hA4; clear hA4)
    | (go_at_call 9; refine (HB.out.sum 0 2 9 (by omega) x_two).mono ?_; rintro e W4 ⟨rfl, hA4⟩; have HB := Lib.hid hA4; clear hA4)
    | (go_at_call 9; refine (HB.out.sum 2 7 7 (by omega) x_seven).mono ?_; rintro e W4 ⟨rfl, hA4⟩; have HB := Lib.hid hA4; clear hA4)
    | (go_at_call 9; refine HB.out.sum0.mono ?_; rintro e W4 ⟨rfl, hA4⟩; have HB := Lib.hid hA4; clear hA4)
    | (go_at_call 18; refine (HB.out.dsum (X := 3421780262) rfl).mono ?_; rintro e W4 ⟨rfl, hA4⟩; have HB := Lib.hid hA4; clear hA4)
    | (go_at_call 17; refine HB.out.len.mono ?_; rintro e W4 ⟨rfl, hA4⟩; have HB := Lib.hid hA4; clear hA4)
    | (go_at_call 15; refine (HB.out.join s2 s7 7 rfl rfl (by omega) x_join).mono ?_; rintro e W4 ⟨rfl, hA4⟩; have HB := Lib.hid hA4; clear hA4)
    | (go_at_call 13; refine (HB.out.zeros 0#32 1 (A := 0) rfl (by omega) x_zeros).mono ?_; rintro e W4 ⟨rfl, hA4⟩; have HB := Lib.hid hA4; clear hA4))
  go_wp2
  go_ret
  exact ⟨rfl, HB.out.below⟩
end Go.Proofs.YtbepppbpllljdaaDoor
