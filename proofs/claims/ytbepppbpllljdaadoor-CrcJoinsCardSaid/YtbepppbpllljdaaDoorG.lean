/-
  What each byte makes of a sum: the table.
-/
import Derived.Test.YtbepppbpllljdaaDoorF
namespace Go.Proofs.YtbepppbpllljdaaDoor
open Go.RowKit CrcPlain

/-- The bit of the k-th round. -/
def bitv (k : Nat) : Nat := 128 / 2 ^ k
/-- The table behind j steps of a round of bit B that began with f. -/
def inn (B : Nat) (x : BitVec 32) (f : Nat → BitVec 32) : Nat → Nat → BitVec 32
  | 0 => f
  | j + 1 => fun i => if i = 2 * B * j + B then inn B x f j (2 * B * j) ^^^ x else inn B x f j i
/-- The table behind k rounds. -/
def st : Nat → Nat → BitVec 32
  | 0 => fun _ => 0#32
  | k + 1 => inn (bitv k) (hvs (k + 1) 1#32) (st k) (2 ^ k)

theorem inn_set (B : Nat) (x : BitVec 32) (f : Nat → BitVec 32) (j : Nat) :
    (arr 256 (inn B x f j)).setIfInBounds (2 * B * j + B) (.int .u32 ((inn B x f j (2 * B * j) ^^^ x).toNat : Int)) = arr 256 (inn B x f (j + 1)) := by
  rw [arr_set]; rfl

theorem bitv_facts : ∀ k, k < 8 → 0 < bitv k ∧ bitv k ≤ 128 ∧ bitv (k + 1) = bitv k / 2 ∧ 2 * bitv k * 2 ^ k = 256 ∧ ∀ j, j < 2 ^ k → 2 * bitv k * j + bitv k < 256 := by decide +kernel

def tabF : Nat → BitVec 32 := fun i => hvs 8 (BitVec.ofNat 32 i)
set_option maxRecDepth 10000 in
theorem st_tab : ∀ i, i < 256 → st 8 i = tabF i := by decide +kernel

set_option maxHeartbeats 1000000 in
theorem made_any (w : World) :
    Calls Tryd.prog 19 #[] w fun e w' => e = .returned (.agg (arr 256 tabF)) ∧ Below w.heap.size w w' := by
  go_enter Tryd.func19, Tryd.ntmps19
  go_upto_region 2 with (refine wpList_alloc_z rfl 41 rfl _ z41' ?_; intro W hb ht hs; have HS := Lib.hid hs; clear hs)
  rename_i W1 hb1 ht1 HS1 K0 hK0
  obtain ⟨q, hq⟩ : ∃ q, q = w.heap.size := ⟨_, rfl⟩
  obtain ⟨r, hr⟩ : ∃ r, r = W1.heap.size := ⟨_, rfl⟩
  have H3 : Hid (Two 41 w q r (arr 256 fun _ => 0#32) (arr 256 (st 0)) W) := by
    subst hq hr
    have h1 := HS1.out
    exact Lib.hid ⟨hb1.touch ht (fun h => h), hb, (ht1.trans ht).below (Nat.le_refl _) (fun _ h => h.elim), by omega, by omega⟩
  rw [← hq, ← hr]
  clear hq hr hb1 ht1 HS1 hb ht HS
  go_wp2
  go_loopw [2, 3] (fun xv bv wr => ∃ k : Nat, k ≤ 8 ∧ bv = .int .i64 (bitv k) ∧ xv = .int .u32 ((hvs k 1#32).toNat : Int) ∧ Two 41 w q r (arr 256 fun _ => 0#32) (arr 256 (st k)) wr) (fun _ bv _ => (intOf bv).toNat)
  case atStart => exact ⟨0, by omega, rfl, rfl, H3.out⟩
  case round =>
    obtain ⟨k, hk, rfl, rfl, hrel⟩ := hrel
    have HR := Lib.hid hrel
    clear hrel
    by_cases hlt : k < 8
    · obtain ⟨f1, f2, f3, f4, f5⟩ := bitv_facts k hlt
      obtain ⟨B, hB⟩ : ∃ B, B = bitv k := ⟨_, rfl⟩
      obtain ⟨x, hx⟩ : ∃ x, x = hvs (k + 1) 1#32 := ⟨_, rfl⟩
      have HN : Hid (st (k + 1) = inn B x (st k) (2 ^ k)) := Lib.hid (by rw [hB, hx]; rfl)
      have HX : Hid (hv1 (hvs k 1#32) = x) := Lib.hid (by rw [hx, hvs_add k 1]; rfl)
      rw [← hB] at f1 f2 f3 f4 f5 ⊢
      have F3 := Lib.hid f3
      have F4 := Lib.hid f4
      have F5 := Lib.hid f5
      have HXX := Lib.hid hx
      clear hB f3 f4 f5 hx
      have hpos : (0 : Int) < B := by omega
      go_wp2_with (go_at_call 22; refine (halve_any (hvs k 1#32) _).mono ?_; rintro e w' ⟨rfl, rfl⟩; rw [HX.out])
      go_loopw [4] (fun vv wr => ∃ j : Nat, j ≤ 2 ^ k ∧ vv = .int .i64 ((2 * B * j : Nat) : Int) ∧ Two 41 w q r (arr 256 fun _ => 0#32) (arr 256 (inn B x (st k) j)) wr) (fun vv _ => 256 - (intOf vv).toNat)
      case atStart => exact ⟨0, Nat.zero_le _, rfl, HR.out⟩
      case round =>
        obtain ⟨j, hj, rfl, hrel⟩ := hrel
        have HI := Lib.hid hrel
        clear hrel
        by_cases hlt2 : j < 2 ^ k
        · have g1 := F5.out j hlt2
          have HV : Hid (2 * B * (j + 1) = 2 * B * j + 2 * B) := Lib.hid (by rw [Nat.mul_add, Nat.mul_one])
          have HS := Lib.hid (inn_set B x (st k) j)
          obtain ⟨v, hv⟩ : ∃ v, v = 2 * B * j := ⟨_, rfl⟩
          rw [← hv] at g1 HV HS ⊢
          clear hv
          have hc1 := (HI.out.c.cell v).trans (arr_at 256 _ v (by omega))
          have hc2 := (HI.out.c.cell (v + B)).trans (arr_at 256 _ (v + B) g1)
          have hf2 := HI.out.c.free (v + B)
          have hx1 := b_xor (inn B x (st k) j v) x
          have hv1 : (v : Int) < 256 := by omega
          have hsum : ((v : Int) + (B : Int)).toNat = v + B := by omega
          have hi1 : (v : Int) + (B : Int) < 256 := by omega
          have hi2 : 0 ≤ (v : Int) + (B : Int) := by omega
          go_wp2
          go_roundw
          case rel =>
            refine ⟨j + 1, Nat.succ_le_of_lt hlt2, by rw [HV.out]; simp, ?_⟩
            have := HI.out.setC (v + B) (.int .u32 ((inn B x (st k) j v ^^^ x).toNat : Int))
            rw [HS.out] at this
            simpa using this
          case measure => simp [intOf]; omega
        · have hj' : j = 2 ^ k := by have := hj; generalize 2 ^ k = z at *; omega
          have HI2 : Hid (Two 41 w q r (arr 256 fun _ => 0#32) (arr 256 (st (k + 1))) wr) := Lib.hid (by rw [HN.out, ← hj']; exact HI.out)
          have hv : 2 * B * j = 256 := by rw [hj']; exact F4.out
          rw [hv]
          clear hv hj' hlt2 hj
          go_wp2
          go_roundw
          case rel => exact ⟨k + 1, by omega, by rw [F3.out]; simp, by rw [HXX.out], HI2.out⟩
          case measure => simp [intOf]; omega
    · have hk' : k = 8 := by omega
      subst hk'
      have hz : bitv 8 = 0 := rfl
      rw [hz]
      clear hz
      go_wp2_with (first
        | (refine wpList_load_row rfl 41 (.tmp 1) rfl r rfl 41 _ HR.out.c 256 23 Tryd.underlying41 i41 ?_)
        | (refine wpList_store_row rfl 41 (.tmp 0) (.tmp 26) rfl rfl q rfl _ rfl 41 _ HR.out.b i41 (by rw [arr_size, arr_size]) (arr_one 256 _) ?_; intro W4 hb4 ht4 hs4; have HB := Lib.hid (HR.out.setB hb4 ht4); clear hb4 ht4 hs4))
      refine bodyPost_ret (results_cell Tryd.results19 _ _ _ q rfl 41 _ HB.out.b 256 23 Tryd.underlying41 i41) rfl ⟨?_, HB.out.below⟩
      rw [arr_congr st_tab]
end Go.Proofs.YtbepppbpllljdaaDoor
