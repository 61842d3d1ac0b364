/-
  The map of one nought, and what n noughts make of a row of bits.
-/
import Derived.Test.YtbepppbpllljdaaDoorD
namespace Go.Proofs.YtbepppbpllljdaaDoor
open Go.RowKit CrcPlain

/-- Two rows of the call's own. -/
structure Two (t : TypeId) (w : World) (q r : Nat) (B C : Array Value) (wr : World) : Prop where
  b : Blk wr q t B
  c : Blk wr r t C
  below : Below w.heap.size w wr
  lo : w.heap.size ≤ q ∧ q < r

theorem Two.grow {t : TypeId} {w wr w' : World} {q r : Nat} {B C : Array Value} (h : Two t w q r B C wr) (hb : Below wr.heap.size wr w') : Two t w q r B C w' :=
  ⟨h.b.below hb, h.c.below hb, h.below.trans (hb.mono h.below.size), h.lo⟩
theorem Two.setC {t : TypeId} {w wr : World} {q r : Nat} {B C : Array Value} (h : Two t w q r B C wr) (i : Nat) (u : Value) : Two t w q r B (C.setIfInBounds i u) (wr.setCell ⟨r, i, none⟩ u) := by
  have ht : Touch (fun k => k = r) wr (wr.setCell ⟨r, i, none⟩ u) := (Touch.refl _ _).setCell _ _ (.inl rfl)
  have := h.lo
  exact ⟨h.b.touch ht (by omega), h.c.setCell i u, h.below.setCell (by show w.heap.size ≤ r; omega) _, h.lo⟩
theorem Two.setB {t : TypeId} {w wr W : World} {q r : Nat} {B B' C : Array Value} (h : Two t w q r B C wr) (hb : Blk W q t B') (ht : Touch (fun k => k = q) wr W) : Two t w q r B' C W := by
  have := h.lo
  exact ⟨hb, h.c.touch ht (by omega), h.below.trans (ht.below h.below.size fun k hk => by omega), h.lo⟩

theorem shl_one (k : Nat) (hk : k < 32) : (2 : Int) ^ k % 4294967296 = ((1#32 <<< k).toNat : Int) := by
  have hp : 2 ^ k < 2 ^ 32 := Nat.pow_lt_pow_right (by omega) hk
  rw [BitVec.toNat_shiftLeft, Nat.shiftLeft_eq, show (1#32).toNat = 1 from rfl, Nat.one_mul, Nat.mod_eq_of_lt hp, show (2 : Int) ^ k = ((2 ^ k : Nat) : Int) from by simp]
  generalize 2 ^ k = z at *
  omega

set_option maxHeartbeats 400000 in
theorem nought_any (w : World) :
    Calls Tryd.prog 23 #[] w fun e w' => e = .returned (.agg (arr 32 fun i => hvs 8 (1#32 <<< i))) ∧ Below w.heap.size w w' := by
  go_enter Tryd.func23, Tryd.ntmps23
  go_upto_region 2 with (refine wpList_alloc_z rfl 48 rfl _ z48' ?_; intro W hb ht hs; have HS := Lib.hid hs; clear hs)
  rename_i W1 hb1 ht1 HS1 K1 hK1 K0 hK0
  obtain ⟨q, hq⟩ : ∃ q, q = w.heap.size := ⟨_, rfl⟩
  obtain ⟨r, hr⟩ : ∃ r, r = W1.heap.size := ⟨_, rfl⟩
  have H3 : Hid (Two 48 w q r (arr 32 fun _ => 0#32) (arr 32 fun _ => 0#32) W) := by
    subst hq hr
    have h1 := HS1.out
    exact Lib.hid ⟨hb1.touch ht (fun h => h), hb, (ht1.trans ht).below (Nat.le_refl _) (fun _ h => h.elim), by omega, by omega⟩
  rw [← hq, ← hr]
  clear hq hr hb1 ht1 HS1 hb ht HS
  go_wp2
  go_loopw [4] (fun i wr => ∃ k : Nat, k ≤ 32 ∧ i = .int .i64 k ∧ Two 48 w q r (arr 32 fun _ => 0#32) (arr 32 (upto (fun i => hvs 8 (1#32 <<< i)) k)) wr) (fun i _ => 32 - (intOf i).toNat)
  case atStart => exact ⟨0, by omega, rfl, by rw [upto_zero]; exact H3.out⟩
  case round =>
    obtain ⟨k, hk, rfl, hrel⟩ := hrel
    have HR := Lib.hid hrel
    clear hrel
    by_cases hlt : k < 32
    · have hkk : (k : Int) < 32 := by omega
      have HSH := Lib.hid (shl_one k hlt)
      go_wp2
      go_loop [3, 9] (fun xv jv => ∃ j : Nat, j ≤ 8 ∧ jv = .int .i64 j ∧ xv = .int .u32 ((hvs j (1#32 <<< k)).toNat : Int)) (fun _ jv => 8 - (intOf jv).toNat)
      case atStart => exact ⟨0, by omega, rfl, by rw [HSH.out]; rfl⟩
      case round =>
        obtain ⟨j, hj, rfl, rfl⟩ := hrel
        by_cases hlt2 : j < 8
        · have hjj : (j : Int) < 8 := by omega
          go_wp2_with (go_at_call 22; refine (halve_any (hvs j (1#32 <<< k)) _).mono ?_; rintro e w' ⟨rfl, rfl⟩)
          go_round
          case rel => exact ⟨j + 1, by omega, by go_num, by rw [hvs_add j 1]; rfl⟩
          case measure => simp [intOf]; omega
        · have hj8 : j = 8 := by omega
          subst hj8
          have hcell := (HR.out.c.cell k).trans (arr_at 32 _ k hlt)
          have hfree := HR.out.c.free k
          go_wp2
          go_roundw
          case rel =>
            refine ⟨k + 1, by omega, by go_num, ?_⟩
            have := HR.out.setC k (.int .u32 ((hvs 8 (1#32 <<< k)).toNat : Int))
            rw [upto_set 32 (fun i => hvs 8 (1#32 <<< i)) k] at this
            simpa using this
          case measure => simp [intOf]; omega
    · have hk' : k = 32 := by omega
      subst hk'
      go_wp2_with (first
        | (refine wpList_load_row rfl 48 (.tmp 1) rfl r rfl 48 _ HR.out.c 32 23 Tryd.underlying48 i48 ?_)
        | (refine wpList_store_row rfl 48 (.tmp 0) (.tmp 18) rfl rfl q rfl _ rfl 48 _ HR.out.b i48 (by rw [arr_size, arr_size]) (arr_one 32 _) ?_; intro W4 hb4 ht4 hs4; have HB := Lib.hid (HR.out.setB hb4 ht4); clear hb4 ht4 hs4))
      refine bodyPost_ret (results_cell Tryd.results23 _ _ _ q rfl 48 _ HB.out.b 32 23 Tryd.underlying48 i48) rfl ⟨?_, HB.out.below⟩
      rw [upto_all]

/-- A row of the call's own. -/
structure One (t : TypeId) (w : World) (p : Nat) (C : Array Value) (wr : World) : Prop where
  c : Blk wr p t C
  below : Below w.heap.size w wr
  lo : w.heap.size ≤ p

theorem One.grow {t : TypeId} {w wr w' : World} {p : Nat} {C : Array Value} (h : One t w p C wr) (hb : Below wr.heap.size wr w') : One t w p C w' :=
  ⟨h.c.below hb, h.below.trans (hb.mono h.below.size), h.lo⟩
theorem One.set {t : TypeId} {w wr W : World} {p : Nat} {C C' : Array Value} (h : One t w p C wr) (hb : Blk W p t C') (ht : Touch (fun k => k = p) wr W) : One t w p C' W := by
  have := h.lo
  exact ⟨hb, h.below.trans (ht.below h.below.size fun k hk => by omega), h.lo⟩

def maps (s : Nat) : Nat → BitVec 32 := fun i => hvs s (1#32 <<< i)
theorem maps_of (s : Nat) (x : BitVec 32) : cols (maps s) x 32 = hvs s x := cols_all (hvs_lin s) x
theorem maps_two (s : Nat) : (fun i => cols (maps s) (maps s i) 32) = maps (s + s) := by
  funext i
  rw [maps_of, maps, hvs_square, maps]
theorem halves (s k : Nat) (x : BitVec 32) : hvs ((s + s) * (k / 2)) (hvs (s * (k % 2)) x) = hvs (s * k) x := by
  rw [← hvs_add]
  congr 1
  conv => rhs; rw [← Nat.div_add_mod k 2]
  rw [Nat.mul_add, Nat.add_mul, ← Nat.mul_assoc, Nat.mul_comm s 2, Nat.two_mul, Nat.add_mul, Nat.add_comm]

/-- The state at the head of past's loop. -/
def Ps (w : World) (p : Nat) (x : BitVec 32) (n : Nat) (xv nv : Value) (wr : World) : Prop :=
  ∃ (k s : Nat) (y : BitVec 32), k ≤ n ∧ nv = .int .i64 k ∧ xv = .int .u32 (y.toNat : Int) ∧ hvs (s * k) y = hvs (8 * n) x ∧ One 48 w p (arr 32 (maps s)) wr

set_option maxHeartbeats 800000 in
theorem past_any (x : BitVec 32) (n : Nat) (hn : n ≤ 9223372036854775807) (w : World) (hT : Tab w) :
    Calls Tryd.prog 21 #[.int .u32 (x.toNat : Int), .int .i64 n] w fun e w' => e = .returned (.int .u32 ((hvs (8 * n) x).toNat : Int)) ∧ Below w.heap.size w w' := by
  have HT := Lib.hid hT
  clear hT
  go_enter Tryd.func21, Tryd.ntmps21
  go_wp2_with (first
    | (go_at_call 23; refine (nought_any _).mono ?_; rintro e w1 ⟨rfl, hb1⟩; have HB1 := Lib.hid hb1; clear hb1)
    | (refine wpList_alloc_z rfl 48 rfl _ z48' ?_; intro W2 hb ht hs; have HZ : Hid (One 48 w w1.heap.size (arr 32 fun _ => 0#32) W2) := Lib.hid ⟨hb, HB1.out.trans ((ht.below (Nat.le_refl _) fun _ h => h.elim).mono HB1.out.size), HB1.out.size⟩; obtain ⟨p, hp⟩ : ∃ p, p = w1.heap.size := ⟨_, rfl⟩; rw [← hp] at HZ; rw [← hp]; clear hb ht hs hp; go_simp)
    | (refine wpList_store_row rfl 48 (.tmp 5) (.tmp 6) rfl rfl p rfl _ rfl 48 _ HZ.out.c i48 (by rw [arr_size, arr_size]) (arr_one 32 _) ?_; intro W3 hb3 ht3 hs3; have HM : Hid (One 48 w p (arr 32 (maps 8)) W3) := Lib.hid (HZ.out.set hb3 ht3); clear hb3 ht3 hs3))
  clear HZ HB1
  go_loopw [0, 1] (fun xv nv wr => Ps w p x n xv nv wr) (fun _ nv _ => (intOf nv).toNat)
  case atStart => exact ⟨n, 8, x, Nat.le_refl _, rfl, rfl, rfl, HM.out⟩
  case round =>
    obtain ⟨k, s, y, hk, rfl, rfl, hrel, hone⟩ := hrel
    have HR := Lib.hid hone
    have HE := Lib.hid hrel
    clear hrel hone
    by_cases hk0 : k = 0
    · subst hk0
      go_wp2
      go_ret
      refine ⟨ret_int ?_, HR.out.below⟩
      have := HE.out
      rw [← this]; rfl
    · have hpos : (0 : Int) < k := by omega
      have hlt : k / 2 < k := by omega
      by_cases hodd : k % 2 = 1
      · have h1 : ((k : Int) % 2 == 1) = true := by simp; omega
        have HODD := Lib.hid hodd
        clear hodd
        go_wp2_with (first
          | (refine wpList_load_row rfl 48 (.tmp 5) rfl p rfl 48 _ HR.out.c 32 23 Tryd.underlying48 i48 ?_)
          | (refine wpList_load_row rfl 48 (.tmp 5) rfl p rfl 48 _ HR4.out.c 32 23 Tryd.underlying48 i48 ?_)
          | (go_at_call 24; refine (of_any (maps s) y.toNat y.isLt _ (HT.out.below HR.out.below)).mono ?_; rintro e w4 ⟨rfl, hb4⟩; have HR4 := Lib.hid (HR.out.grow hb4); clear hb4)
          | (go_at_call 25; refine (twice_any (maps s) _ (HT.out.below HR4.out.below)).mono ?_; rintro e w5 ⟨rfl, hb5⟩; have HR5 := Lib.hid (HR4.out.grow hb5); clear hb5)
          | (refine wpList_store_row rfl 48 (.tmp 5) (.tmp 18) rfl rfl p rfl _ rfl 48 _ HR5.out.c i48 (by rw [arr_size, arr_size]) (arr_one 32 _) ?_; intro W6 hb6 ht6 hs6; have HM6 := Lib.hid (HR5.out.set hb6 ht6); clear hb6 ht6 hs6))
        go_roundw
        case rel =>
          refine ⟨k / 2, s + s, cols (maps s) y 32, by omega, by simp, rfl, ?_, ?_⟩
          · rw [← HE.out, ← halves s k y, HODD.out, Nat.mul_one, maps_of]
          · rw [← maps_two s]; exact HM6.out
        case measure => simp [intOf]; omega
      · have h1 : ((k : Int) % 2 == 1) = false := by simp; omega
        have HODD : Hid (k % 2 = 0) := Lib.hid (by omega)
        clear hodd
        go_wp2_with (first
          | (refine wpList_load_row rfl 48 (.tmp 5) rfl p rfl 48 _ HR.out.c 32 23 Tryd.underlying48 i48 ?_)
          | (go_at_call 25; refine (twice_any (maps s) _ (HT.out.below HR.out.below)).mono ?_; rintro e w5 ⟨rfl, hb5⟩; have HR5 := Lib.hid (HR.out.grow hb5); clear hb5)
          | (refine wpList_store_row rfl 48 (.tmp 5) (.tmp 18) rfl rfl p rfl _ rfl 48 _ HR5.out.c i48 (by rw [arr_size, arr_size]) (arr_one 32 _) ?_; intro W6 hb6 ht6 hs6; have HM6 := Lib.hid (HR5.out.set hb6 ht6); clear hb6 ht6 hs6))
        go_roundw
        case rel =>
          refine ⟨k / 2, s + s, y, by omega, by simp, rfl, ?_, ?_⟩
          · rw [← HE.out, ← halves s k y, HODD.out, Nat.mul_zero]; rfl
          · rw [← maps_two s]; exact HM6.out
        case measure => simp [intOf]; omega
end Go.Proofs.YtbepppbpllljdaaDoor
