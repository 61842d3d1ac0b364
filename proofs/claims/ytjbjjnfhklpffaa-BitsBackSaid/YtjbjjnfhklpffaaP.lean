/-
  The walk of BitsBack.
-/
import Derived.Test.YtjbjjnfhklpffaaL
import Derived.Test.YtjbjjnfhklpffaaR
import Derived.StillTailTactics
namespace Go.Proofs.Ytjbjjnfhklpffaa
open Go.RowKit

/-- Where the number k begins. -/
def offs (s : Nat → Nat) : Nat → Nat
  | 0 => 0
  | k + 1 => offs s k + s k

/-- What the first k numbers tell. -/
def nums (v s : Nat → Nat) : Nat → Nat
  | 0 => 0
  | k + 1 => nums v s k + v k % 2 ^ s k * 2 ^ offs s k

theorem nums_lt (v s : Nat → Nat) (k : Nat) : nums v s k < 2 ^ offs s k := by
  induction k with
  | zero => simp [nums, offs]
  | succ k ih => exact put_lt ih (Nat.mod_lt _ (Nat.two_pow_pos _))

theorem offs_le (s : Nat → Nat) (B : Nat) (k : Nat) (h : ∀ j, j < k → s j ≤ B) : offs s k ≤ B * k := by
  induction k with
  | zero => simp [offs]
  | succ k ih =>
    have h1 := ih fun j hj => h j (by omega)
    have h2 := h k (by omega)
    rw [offs, Nat.mul_succ]; omega

theorem offs_mono (s : Nat → Nat) (j k : Nat) (h : j ≤ k) : offs s j ≤ offs s k := by
  induction k with
  | zero => have : j = 0 := by omega
            subst this; exact Nat.le_refl _
  | succ k ih =>
    by_cases hj : j ≤ k
    · have := ih hj; rw [offs]; omega
    · have : j = k + 1 := by omega
      subst this; exact Nat.le_refl _

theorem cut_div (A o s : Nat) : A / 2 ^ o % 2 ^ s = A % 2 ^ (o + s) / 2 ^ o := by
  rw [Nat.pow_add, Nat.mod_mul_right_div_self]

theorem hi_only (A X f : Nat) (hA : A < 2 ^ f) : (A + X * 2 ^ f) / 2 ^ f = X := by
  rw [Nat.add_mul_div_right _ _ (Nat.two_pow_pos f), Nat.div_eq_of_lt hA, Nat.zero_add]

theorem nums_get (v s : Nat → Nat) (j k : Nat) (h : j < k) : nums v s k / 2 ^ offs s j % 2 ^ s j = v j % 2 ^ s j := by
  induction k with
  | zero => omega
  | succ k ih =>
    by_cases hj : j < k
    · rw [← ih hj, nums, cut_div, cut_div (nums v s k)]
      congr 1
      have hm : offs s j + s j ≤ offs s k := offs_mono s (j + 1) k (by omega)
      rw [show offs s k = (offs s j + s j) + (offs s k - (offs s j + s j)) from by omega, Nat.pow_add, Nat.mul_comm (2 ^ (offs s j + s j)), ← Nat.mul_assoc, Nat.add_mul_mod_self_right]
    · have : j = k := by omega
      subst this
      rw [nums, hi_only _ _ _ (nums_lt v s j), Nat.mod_mod]

theorem mask32 (v n : Nat) (hn : n ≤ 32) (hv : v < 4294967296) :
    bits BinOp.and IntKind.u32 (v : Int) ((2 ^ n - 1) % 4294967296) = ((v % 2 ^ n : Nat) : Int) := by
  have hp : 2 ^ n ≤ 2 ^ 32 := Nat.pow_le_pow_right (by omega) hn
  have hq : 0 < 2 ^ n := Nat.two_pow_pos n
  have e : (((2 : Int) ^ n - 1) % 4294967296) = ((2 ^ n - 1 : Nat) : Int) := by
    rw [show (2 : Int) ^ n = ((2 ^ n : Nat) : Int) from by simp]
    omega
  rw [e, u32_and_nat _ _ hv (by omega), Nat.and_two_pow_sub_one_eq_mod]

theorem reverse_q (v n : Nat) (w : World) (hv : v < 4294967296) (hn : n ≤ 32) :
    Calls Try.prog 30 #[.int .u32 v, .int .i64 n] w fun e w' => e = .returned (.int .u32 (rv n v : Nat)) ∧ w' = w :=
  (reverse_yes v n w hv hn).mono fun _ _ ⟨he, hw⟩ => ⟨he, hw.symm⟩

theorem back_great (a0 a1 : Option Addr) (len0 cap0 len1 cap1 : Nat) (w : World) (h : 200 < len0 ∨ len1 < len0 ∨ 2000 < len1) (h0 : len0 ≤ maxLen) (h1 : len1 ≤ maxLen) :
    Calls Try.prog 5 #[.slice a0 len0 cap0, .slice a1 len1 cap1] w fun e w' => e = .returned (.bool true) ∧ Touch (U w.heap.size) w w' := by
  unfold maxLen at h0 h1
  have hA := Lib.hid (alive_any w)
  by_cases g1 : 200 < len0
  · have d1 : decide ((200 : Int) < (len0 : Int)) = true := by simp; omega
    go_enter Try.func5, Try.ntmps5
    go_wp2_with (go_at_call 7; refine hA.out.mono ?_; rintro e w1 ⟨rfl, ht⟩)
    go_ret
    exact ⟨rfl, ht⟩
  · by_cases g2 : len1 < len0
    · clear h
      go_enter Try.func5, Try.ntmps5
      go_wp2_with (go_at_call 7; refine hA.out.mono ?_; rintro e w1 ⟨rfl, ht⟩)
      go_ret
      exact ⟨rfl, ht⟩
    · have g3 : 2000 < len1 := by omega
      clear h
      go_enter Try.func5, Try.ntmps5
      go_wp2_with (go_at_call 7; refine hA.out.mono ?_; rintro e w1 ⟨rfl, ht⟩)
      go_ret
      exact ⟨rfl, ht⟩

set_option maxRecDepth 100000 in
theorem back_some (b0 o0 cap0 b1 o1 cap1 len0 len1 : Nat) (v : Nat → Nat) (s : Nat → Int) (w : World) (hl0 : len0 ≤ 200) (hl1 : len0 ≤ len1) (hl2 : len1 ≤ 2000) (hb0 : b0 < w.heap.size) (hb1 : b1 < w.heap.size)
    (hv : ∀ i, i < len0 → w.cell? ⟨b0, o0 + i, none⟩ = some (.int .u32 (v i))) (hv2 : ∀ i, i < len0 → v i < 4294967296)
    (hs : ∀ i, i < len0 → w.cell? ⟨b1, o1 + i, none⟩ = some (.int .i64 (s i))) :
    Calls Try.prog 5 #[.slice (some ⟨b0, o0, none⟩) len0 cap0, .slice (some ⟨b1, o1, none⟩) len1 cap1] w fun e w' => e = .returned (.bool true) ∧ Touch (U w.heap.size) w w' := by
  have hA := Lib.hid (alive_any w)
  have HV := Lib.hid hv
  have HV2 := Lib.hid hv2
  have HS := Lib.hid hs
  clear hv hv2 hs
  have d1 : decide ((200 : Int) < (len0 : Int)) = false := by simp; omega
  have d2 : decide (len1 < len0) = false := by simp; omega
  have d3 : decide ((2000 : Int) < (len1 : Int)) = false := by simp; omega
  go_enter Try.func5, Try.ntmps5
  go_wp2_with (go_at_call 7; refine hA.out.mono ?_; rintro e w1 ⟨rfl, ht⟩)
  refine (newWriter_T ht.size ht).mono ?_
  rintro e w2 ⟨p, rfl, hW⟩
  clear ht
  go_wp2_with fail
  go_loopw [6] (fun i wr => ∃ k : Nat, k ≤ len0 ∧ i = .int .i64 k ∧ (∀ j, j < k → 0 ≤ s j ∧ s j ≤ 32) ∧ WrT w wr w.heap.size p (nums v (fun j => (s j).toNat) k) (offs (fun j => (s j).toNat) k)) (fun i _ => len0 - (intOf i).toNat)
  case atStart => exact ⟨0, Nat.zero_le _, rfl, fun j hj => absurd hj (by omega), hW⟩
  case round =>
    clear hW
    obtain ⟨k, hk, rfl, hall, hW⟩ := hrel
    have HALL := Lib.hid hall
    clear hall
    have htt : Touch (U w.heap.size) w wr := by obtain ⟨_, _, h⟩ := hW; exact h
    have hsz := htt.size
    have hoff : offs (fun j => (s j).toNat) k ≤ 32 * k := offs_le _ 32 k fun j hj => by have := HALL.out j hj; omega
    by_cases hlt : k < len0
    · have hc0 : wr.cell? ⟨b0, o0 + k, none⟩ = some (.int .u32 (v k)) := by
        rw [World.cell?_of_block (w := w) (htt.block b0 hb0 (by unfold U; omega))]; exact HV.out k hlt
      have hc1 : wr.cell? ⟨b1, o1 + k, none⟩ = some (.int .i64 (s k)) := by
        rw [World.cell?_of_block (w := w) (htt.block b1 hb1 (by unfold U; omega))]; exact HS.out k hlt
      by_cases hr : s k < 0 ∨ 32 < s k
      · rcases hr with hr | hr
        · go_wp2
          go_ret
          exact ⟨rfl, htt⟩
        · go_wp2
          go_ret
          exact ⟨rfl, htt⟩
      · obtain ⟨n, hn⟩ := Int.eq_ofNat_of_zero_le (show 0 ≤ s k by omega)
        rw [hn] at hc1 hr
        have hnr : n ≤ 32 := by omega
        have HN := Lib.hid hn
        clear hn hr
        go_wp2_with fail
        go_still_tail 9, (by kernel_rfl)
        change wpList _ _ _ _ _ wr.drew
        have hWd : WrT w wr.drew w.heap.size p (nums v (fun j => (s j).toNat) k) (offs (fun j => (s j).toNat) k) := hW.drewN 1
        go_wp2_with fail
        refine (hWd.put (by omega) (v k) n (v k % 2 ^ n) _ (HV2.out k hlt) hnr rfl rfl).mono ?_
        rintro e w3 ⟨rfl, hW3⟩
        clear hW hWd
        go_wp2_with fail
        go_roundw
        case rel =>
          refine ⟨k + 1, by omega, by go_num, fun j hj => ?_, ?_⟩
          · by_cases hjk : j = k
            · subst hjk; rw [HN.out]; omega
            · exact HALL.out j (by omega)
          · have e : n = (s k).toNat := by rw [HN.out]; rfl
            subst e
            exact hW3
        case measure => simp [intOf]; omega
    · have hkl : k = len0 := by omega
      subst hkl
      have hoff2 : offs (fun j => (s j).toNat) k ≤ 6400 := by omega
      go_wp2_with fail
      refine (hW.out (by omega)).mono ?_
      rintro e w4 ⟨bs, a, c, g, rfl, hb, hw, hn, hown, _, hV4, hU4, _⟩
      have hlb := hw.small (by omega)
      have hlo := hw.lo
      have hhi := hw.hi
      have HNN := Lib.hid hn
      have HWI := Lib.hid hw
      clear hW hn hw
      go_wp2_with fail
      refine (newReader_T (BySl.own hown) hb (by omega)).mono ?_
      rintro e w5 ⟨pr, rfl, hR⟩
      clear hown hb
      have hU4s := hU4.size
      go_wp2_with fail
      go_loopw [8, 9, 10, 11, 12] (fun i _ _ _ _ wr => ∃ m : Nat, m ≤ k ∧ i = .int .i64 m ∧ RdT w4 wr pr bs (offs (fun j => (s j).toNat) m)) (fun i _ _ _ _ _ => k - (intOf i).toNat)
      case atStart => exact ⟨0, Nat.zero_le _, rfl, hR⟩
      case round =>
        clear hR
        obtain ⟨m, hm, rfl, hR⟩ := hrel
        have htq : Touch (U w.heap.size) w wr := by obtain ⟨_, _, h⟩ := hR; exact hU4.trans (h.mono fun _ hk => Nat.le_trans hU4s hk)
        have homk := offs_mono (fun j => (s j).toNat) m k hm
        by_cases hlt : m < k
        · have hoss := offs_mono (fun j => (s j).toNat) (m + 1) k (by omega)
          have hgm := nums_get v (fun j => (s j).toNat) m k hlt
          have hc0 : wr.cell? ⟨b0, o0 + m, none⟩ = some (.int .u32 (v m)) := by
            rw [World.cell?_of_block (w := w) (htq.block b0 hb0 (by unfold U; omega))]; exact HV.out m hlt
          have hc1 : wr.cell? ⟨b1, o1 + m, none⟩ = some (.int .i64 (s m)) := by
            rw [World.cell?_of_block (w := w) (htq.block b1 hb1 (by unfold U; omega))]; exact HS.out m hlt
          have hr := HALL.out m hlt
          obtain ⟨n, hn⟩ := Int.eq_ofNat_of_zero_le (show 0 ≤ s m by omega)
          rw [hn] at hc1 hr
          have hnr : n ≤ 32 := by omega
          have hnn : (s m).toNat = n := by rw [hn]; rfl
          rw [offs] at hoss
          simp only [hnn] at hgm hoss
          obtain ⟨X, hX⟩ : ∃ X, v m % 2 ^ n = X := ⟨_, rfl⟩
          have hXl : X < 4294967296 := by rw [← hX]; exact Nat.lt_of_le_of_lt (Nat.mod_le _ _) (HV2.out m hlt)
          have hmask := mask32 (v m) n hnr (HV2.out m hlt)
          rw [hX] at hmask hgm
          have hpk : pk bs (offs (fun j => (s j).toNat) m) n = X := by unfold pk; rw [HNN.out]; exact hgm
          have hrv : rv n (rv n X) = X := by rw [rv_rv, ← hX, Nat.mod_mod]
          have HPK := Lib.hid hpk
          have HRV := Lib.hid hrv
          have HNM := Lib.hid hnn
          clear hgm hX hn hr hpk hrv hnn
          go_wp2_with fail
          go_quiet (fail)
          go_wp2_with fail
          refine ((hR.drewN nq).peek (by omega) (by omega) n X hnr HPK.out).mono ?_
          rintro e w6 ⟨rfl, rfl⟩
          go_wp2_with fail
          refine ((hR.drewN nq).bits (by omega) n X hnr (by omega) HPK.out).mono ?_
          rintro e w7 ⟨rfl, hR7⟩
          have htq7 : Touch (U w.heap.size) w w7 := by obtain ⟨_, _, h⟩ := hR7; exact hU4.trans (h.mono fun _ hk => Nat.le_trans hU4s hk)
          have hs7 : s m = (n : Int) := by have h1 := HNM.out; have h2 := HALL.out m hlt; omega
          have hc7 : w7.cell? ⟨b1, o1 + m, none⟩ = some (.int .i64 n) := by
            rw [World.cell?_of_block (w := w) (htq7.block b1 hb1 (by unfold U; omega)), ← hs7]; exact HS.out m hlt
          have hq1 := rv_lt n X
          have hq2 : 2 ^ n ≤ 2 ^ 32 := Nat.pow_le_pow_right (by omega) hnr
          have hql : rv n X < 4294967296 := by omega
          have HQL := Lib.hid hql
          have HXL := Lib.hid hXl
          clear hR hs7 hc0 hc1 hmask htq hq1 hq2 hql
          go_wp2_with fail
          go_quiet ((go_at_call 30; exact Calls.quiet_of_same (reverse_q _ n _ (by first | exact HXL.out | exact HQL.out) hnr)))
          have hrv := HRV.out
          have hR8 : ∀ z, RdT w4 (w7.drewN z) pr bs (offs (fun j => (s j).toNat) (m + 1)) := fun z => by
            have h := hR7.drewN z
            rw [show n = (s m).toNat from HNM.out.symm] at h
            exact h
          have HR8 := Lib.hid hR8
          clear hR8 hR7
          go_wp2
          go_roundw
          case rel => exact ⟨m + 1, by omega, by go_num, HR8.out _⟩
          case measure => simp [intOf]; omega
        · have hmk : m = k := by omega
          subst hmk
          have hlast : decide (8 * (bs.length : Int) - (offs (fun j => (s j).toNat) m : Int) < 8) = true := by simp; omega
          have hwl : WrT w wr w.heap.size p (nums v (fun j => (s j).toNat) m) (offs (fun j => (s j).toNat) m) := by
            obtain ⟨_, _, h⟩ := hR
            exact ⟨g, hV4.touch h (fun q hq hu => by have := (hV4.foot hq).2; unfold U at hu; omega), htq⟩
          go_wp2_with fail
          refine (hR.left (by omega) (by omega)).mono ?_
          rintro e w6 ⟨rfl, nq, rfl⟩
          go_wp2_with fail
          refine (hR.drewN nq).at.mono ?_
          rintro e w6 ⟨rfl, rfl⟩
          go_wp2_with fail
          refine (hwl.drewN nq).len.mono ?_
          rintro e w6 ⟨rfl, rfl⟩
          go_wp2_with fail
          go_ret
          exact ⟨by simp, htq.drewN nq⟩

theorem back_none (a0 a1 : Option Addr) (cap0 len1 cap1 : Nat) (w : World) (hl2 : len1 ≤ 2000) :
    Calls Try.prog 5 #[.slice a0 0 cap0, .slice a1 len1 cap1] w fun e w' => e = .returned (.bool true) ∧ Touch (U w.heap.size) w w' := by
  have hA := Lib.hid (alive_any w)
  go_enter Try.func5, Try.ntmps5
  go_wp2_with (go_at_call 7; refine hA.out.mono ?_; rintro e w1 ⟨rfl, ht⟩)
  refine (newWriter_T ht.size ht).mono ?_
  rintro e w2 ⟨p, rfl, hW⟩
  clear ht
  go_wp2_with fail
  refine wp_loop_rounds 1 ?_
  rw [rounds_succ]
  go_wp2_with fail
  refine (hW.out (by omega)).mono ?_
  rintro e w4 ⟨bs, a, c, g, rfl, hb, hw, hn, hown, _, hV4, hU4, _⟩
  have hlb := hw.small (by omega)
  have hhi := hw.hi
  go_wp2_with fail
  refine (newReader_T (BySl.own hown) hb (by omega)).mono ?_
  rintro e w5 ⟨pr, rfl, hR⟩
  clear hown hb hw hn hW
  have hlast : decide (8 * (bs.length : Int) - ((0 : Nat) : Int) < 8) = true := by simp; omega
  have htq : Touch (U w.heap.size) w w5 := by obtain ⟨_, _, h⟩ := hR; exact hU4.trans (h.mono fun _ hk => Nat.le_trans hU4.size hk)
  have hwl : WrT w w5 w.heap.size p 0 0 := by
    obtain ⟨_, _, h⟩ := hR
    exact ⟨g, hV4.touch h (fun q hq hu => by have := (hV4.foot hq).2; unfold U at hu; omega), htq⟩
  go_wp2_with fail
  refine wp_loop_rounds 1 ?_
  rw [rounds_succ]
  go_wp2_with fail
  refine (hR.left (by omega) (by omega)).mono ?_
  rintro e w6 ⟨rfl, nq, rfl⟩
  go_wp2_with fail
  refine (hR.drewN nq).at.mono ?_
  rintro e w6 ⟨rfl, rfl⟩
  go_wp2_with fail
  refine (hwl.drewN nq).len.mono ?_
  rintro e w6 ⟨rfl, rfl⟩
  go_wp2_with fail
  go_ret
  exact ⟨by simp, htq.drewN nq⟩

end Go.Proofs.Ytjbjjnfhklpffaa
