/-
  Noughts behind, and sums joined; the reference's step.
-/
import Derived.Test.YtbepppbpllljdaaDoorE
namespace Go.Proofs.YtbepppbpllljdaaDoor
open Go.RowKit CrcPlain

theorem past_neg (x : BitVec 32) (n : Int) (hn : n ≤ 0) (w : World) :
    Calls Tryd.prog 21 #[.int .u32 (x.toNat : Int), .int .i64 n] w fun e w' => e = .returned (.int .u32 (x.toNat : Int)) ∧ Below w.heap.size w w' := by
  go_enter Tryd.func21, Tryd.ntmps21
  go_wp2_with (first
    | (go_at_call 23; refine (nought_any _).mono ?_; rintro e w1 ⟨rfl, hb1⟩; have HB1 := Lib.hid hb1; clear hb1)
    | (refine wpList_alloc_z rfl 48 rfl _ z48' ?_; intro W2 hb ht hs; have HZ : Hid (One 48 w w1.heap.size (arr 32 fun _ => 0#32) W2) := Lib.hid ⟨hb, HB1.out.trans ((ht.below (Nat.le_refl _) fun _ h => h.elim).mono HB1.out.size), HB1.out.size⟩; obtain ⟨p, hp⟩ : ∃ p, p = w1.heap.size := ⟨_, rfl⟩; rw [← hp] at HZ; rw [← hp]; clear hb ht hs hp; go_simp)
    | (refine wpList_store_row rfl 48 (.tmp 5) (.tmp 6) rfl rfl p rfl _ rfl 48 _ HZ.out.c i48 (by rw [arr_size, arr_size]) (arr_one 32 _) ?_; intro W3 hb3 ht3 hs3; have HM : Hid (One 48 w p (arr 32 (maps 8)) W3) := Lib.hid (HZ.out.set hb3 ht3); clear hb3 ht3 hs3))
  refine wp_loop_once ?_
  go_wp2
  go_ret
  exact ⟨rfl, HM.out.below⟩

/-- n below 0 counts as 0. -/
theorem past_int (x : BitVec 32) (n : Int) (hn : n ≤ 9223372036854775807) (w : World) (hT : Tab w) :
    Calls Tryd.prog 21 #[.int .u32 (x.toNat : Int), .int .i64 n] w fun e w' => e = .returned (.int .u32 ((hvs (8 * n.toNat) x).toNat : Int)) ∧ Below w.heap.size w w' := by
  by_cases h : n ≤ 0
  · rw [show n.toNat = 0 from by omega]
    exact past_neg x n h w
  · obtain ⟨k, rfl⟩ := Int.eq_ofNat_of_zero_le (show 0 ≤ n by omega)
    exact past_any x k (by omega) w hT

theorem b_not (x : BitVec 32) : bits BinOp.xor IntKind.u32 (if IntKind.u32.signed = true then -1 else IntKind.u32.max) (x.toNat : Int) = ((~~~ x).toNat : Int) := by
  have e : (if IntKind.u32.signed = true then (-1 : Int) else IntKind.u32.max) = ((BitVec.allOnes 32).toNat : Int) := rfl
  rw [e, b_xor, BitVec.allOnes_xor]

def zeros (x : BitVec 32) (n : Nat) : BitVec 32 := ~~~ hvs (8 * n) (~~~ x)

theorem zeros_any (x : BitVec 32) (n : Int) (hn : n ≤ 9223372036854775807) (w : World) (hT : Tab w) :
    Calls Tryd.prog 13 #[.int .u32 (x.toNat : Int), .int .i64 n] w fun e w' => e = .returned (.int .u32 ((zeros x n.toNat).toNat : Int)) ∧ Below w.heap.size w w' := by
  obtain ⟨z, hz⟩ : ∃ z, z = ~~~ x := ⟨_, rfl⟩
  obtain ⟨y, hy⟩ : ∃ y, y = hvs (8 * n.toNat) z := ⟨_, rfl⟩
  obtain ⟨v, hv⟩ : ∃ v, v = ~~~ y := ⟨_, rfl⟩
  have HE : Hid (zeros x n.toNat = v) := Lib.hid (by rw [hv, hy, hz, zeros])
  have HP := Lib.hid (past_int z n hn w hT)
  rw [← hy] at HP
  have h1 := b_not x
  rw [← hz] at h1
  have h2 := b_not y
  rw [← hv] at h2
  clear hT hn hy hz hv
  go_enter Tryd.func13, Tryd.ntmps13
  go_wp2_with (go_at_call 21; refine HP.out.mono ?_; rintro e w1 ⟨rfl, hb1⟩)
  go_ret
  exact ⟨ret_int (by rw [HE.out]), hb1⟩

def join (a b : BitVec 32) (n : Nat) : BitVec 32 := hvs (8 * n) a ^^^ b

theorem join_any (a b : BitVec 32) (n : Int) (hn : n ≤ 9223372036854775807) (w : World) (hT : Tab w) :
    Calls Tryd.prog 15 #[.int .u32 (a.toNat : Int), .int .u32 (b.toNat : Int), .int .i64 n] w fun e w' => e = .returned (.int .u32 ((join a b n.toNat).toNat : Int)) ∧ Below w.heap.size w w' := by
  have HP := Lib.hid (past_int a n hn w hT)
  have h1 := b_xor (hvs (8 * n.toNat) a) b
  clear hT hn
  go_enter Tryd.func15, Tryd.ntmps15
  go_wp2_with (go_at_call 21; refine HP.out.mono ?_; rintro e w1 ⟨rfl, hb1⟩)
  go_ret
  exact ⟨rfl, hb1⟩

theorem b_byte (x : BitVec 32) (c : Nat) (hc : c < 256) : bits BinOp.xor IntKind.u32 (x.toNat : Int) (c : Int) = ((x ^^^ BitVec.ofNat 32 c).toNat : Int) := by
  rw [← b_xor, BitVec.toNat_ofNat, Nat.mod_eq_of_lt (show c < 2 ^ 32 by omega)]

/-- The reference's step: a byte. -/
theorem one_any (x : BitVec 32) (c : Nat) (hc : c < 256) (w : World) :
    Calls Tryd.prog 20 #[.int .u32 (x.toNat : Int), .int .u8 c] w fun e w' => e = .returned (.int .u32 ((hvs 8 (x ^^^ BitVec.ofNat 32 c)).toNat : Int)) ∧ w = w' := by
  have h1 := b_byte x c hc
  go_enter Tryd.func20, Tryd.ntmps20
  go_wp2
  go_loop [0, 5] (fun xv iv => ∃ k : Nat, k ≤ 8 ∧ iv = .int .i64 k ∧ xv = .int .u32 ((hvs k (x ^^^ BitVec.ofNat 32 c)).toNat : Int)) (fun _ iv => 8 - (intOf iv).toNat)
  case atStart => exact ⟨0, by omega, rfl, rfl⟩
  case round =>
    obtain ⟨k, hk, rfl, rfl⟩ := hrel
    clear h1
    by_cases hlt : k < 8
    · have hkk : (k : Int) < 8 := by omega
      obtain ⟨y, hy⟩ : ∃ y, y = hvs k (x ^^^ BitVec.ofNat 32 c) := ⟨_, rfl⟩
      have HN : Hid (hvs (k + 1) (x ^^^ BitVec.ofNat 32 c) = hv1 y) := Lib.hid (by rw [hvs_add k 1, ← hy]; rfl)
      rw [← hy]
      clear hy
      have h1 := b_one y
      have hx := y.isLt
      cases hb : y.getLsbD 0
      · have HS := Lib.hid (show ((y.toNat : Int) / 2) = ((hv1 y).toNat : Int) by unfold hv1; rw [hb]; exact (b_half y).trans (by simp))
        rw [hb] at h1
        clear hb
        simp only [Bool.false_eq_true, if_false] at h1
        go_wp2
        go_round
        case rel => exact ⟨k + 1, by omega, by go_num, by rw [HN.out, HS.out]⟩
        case measure => simp [intOf]; omega
      · have HS := Lib.hid (show bits BinOp.xor IntKind.u32 ((y.toNat : Int) / 2) 3988292384 = ((hv1 y).toNat : Int) by unfold hv1; rw [hb]; exact (congrArg (fun z => bits BinOp.xor IntKind.u32 z 3988292384) (b_half y)).trans ((b_poly _).trans (by simp)))
        rw [hb] at h1
        clear hb
        simp only [if_true] at h1
        go_wp2
        go_round
        case rel => exact ⟨k + 1, by omega, by go_num, by rw [HN.out, HS.out]⟩
        case measure => simp [intOf]; omega
    · have : k = 8 := by omega
      subst this
      go_wp2
      go_ret
      exact ⟨rfl, rfl⟩
end Go.Proofs.YtbepppbpllljdaaDoor
