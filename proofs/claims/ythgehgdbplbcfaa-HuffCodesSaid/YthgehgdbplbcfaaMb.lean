/-
  Contracts: the room of counts, how many codes; the first codes and the places.
-/
import Derived.Test.YthgehgdbplbcfaaMa
import Derived.StillTailTactics
namespace Go.Proofs.Ythgehgdbplbcfaa
open Go.RowKit

theorem cn_le (ls : List Nat) (n : Nat) : cn ls n ≤ ls.length := by
  unfold cn
  split
  · omega
  · exact List.count_le_length
theorem sp_le (ls : List Nat) (hl : ls.length ≤ 320) (n : Nat) : sp ls n ≤ n * 10485760 := by
  induction n with
  | zero => simp [sp]
  | succ n ih =>
    rw [sp]
    have h1 := cn_le ls n
    have h2 : 2 ^ (15 - n) ≤ 2 ^ 15 := Nat.pow_le_pow_right (by omega) (by omega)
    have h3 : cn ls n * 2 ^ (15 - n) ≤ 320 * 2 ^ 15 := Nat.mul_le_mul (by omega) h2
    omega
theorem fp_le (ls : List Nat) (hl : ls.length ≤ 320) (n : Nat) : fp ls n ≤ n * 320 := by
  induction n with
  | zero => simp [fp]
  | succ n ih =>
    rw [fp]
    have h1 := cn_le ls n
    omega
theorem shr_pow (k : Nat) (hk : k < 16) : (32768 : Int) / 2 ^ k = ((2 ^ (15 - k) : Nat) : Int) := by
  have : ∀ k, k < 16 → (32768 : Int) / 2 ^ k = ((2 ^ (15 - k) : Nat) : Int) := by decide
  exact this k hk
theorem sp_int (ls : List Nat) (hl : ls.length ≤ 320) (k : Nat) (hk : k < 16) : wrap64 ((sp ls k : Int) + wrap64 ((cn ls k : Int) * (32768 / 2 ^ k))) = (sp ls (k + 1) : Nat) := by
  have h1 := cn_le ls k
  have h2 := sp_le ls hl k
  rw [shr_pow k hk, ← Int.natCast_mul, sp]
  have h3 : 2 ^ (15 - k) ≤ 2 ^ 15 := Nat.pow_le_pow_right (by omega) (by omega)
  have h4 : cn ls k * 2 ^ (15 - k) ≤ 320 * 2 ^ 15 := Nat.mul_le_mul (by omega) h3
  generalize cn ls k * 2 ^ (15 - k) = z at *
  unfold wrap64
  omega

set_option maxHeartbeats 800000 in
theorem room_any (ls : List Nat) (hl : ls.length ≤ 320) (w : World) :
    Calls Try.prog 30 #[.agg (ia 16 (cn ls))] w fun e w' => e = .returned (.int .i64 (room ls : Nat)) ∧ Below w.heap.size w w' := by
  go_enter Try.func30, Try.ntmps30
  go_upto_region 1 with (refine wpList_box_row rfl 61 (.tmp 0) rfl (ia 16 (cn ls)) rfl ?_; intro W hb ht hs; have HS := Lib.hid hs; clear hs)
  have HB := Lib.hid (ht.below (Nat.le_refl _) (fun _ h => h.elim))
  clear ht HS
  go_wp2_with (refine wpList_load_row rfl 61 (.tmp 1) rfl w.heap.size rfl 61 _ hb 16 3 Try.underlying61 i61 ?_)
  go_loop [3, 7] (fun sv i => ∃ k : Nat, k ≤ 16 ∧ i = .int .i64 k ∧ sv = .int .i64 (sp ls k : Nat)) (fun _ i => 16 - (intOf i).toNat)
  case atStart => exact ⟨0, by omega, rfl, rfl⟩
  case round =>
    obtain ⟨k, hk, rfl, rfl⟩ := hrel
    by_cases hlt : k < 16
    · have hkk : (k : Int) < 16 := by omega
      go_wp2_with (refine wpList_index_row rfl 61 (.tmp 6) (.tmp 7) rfl (ia 16 (cn ls)) rfl .i64 k rfl 16 3 Try.underlying61 hlt a3 s3 _ (va_at 16 _ k hlt) ?_)
      go_round
      case rel => exact ⟨k + 1, by omega, by go_num, by rw [sp_int ls hl k hlt]⟩
      case measure => simp [intOf]; omega
    · have hk' : k = 16 := by omega
      subst hk'
      go_wp2
      go_ret
      exact ⟨rfl, HB.out⟩

set_option maxHeartbeats 800000 in
theorem sum_any (ls : List Nat) (hl : ls.length ≤ 320) (w : World) :
    Calls Try.prog 40 #[.agg (ia 16 (cn ls))] w fun e w' => e = .returned (.int .i64 (many ls : Nat)) ∧ Below w.heap.size w w' := by
  go_enter Try.func40, Try.ntmps40
  go_upto_region 1 with (refine wpList_box_row rfl 61 (.tmp 0) rfl (ia 16 (cn ls)) rfl ?_; intro W hb ht hs; have HS := Lib.hid hs; clear hs)
  have HB := Lib.hid (ht.below (Nat.le_refl _) (fun _ h => h.elim))
  clear ht HS
  go_wp2_with (refine wpList_load_row rfl 61 (.tmp 1) rfl w.heap.size rfl 61 _ hb 16 3 Try.underlying61 i61 ?_)
  go_loop [3, 7] (fun sv i => ∃ k : Nat, k ≤ 16 ∧ i = .int .i64 k ∧ sv = .int .i64 (fp ls k : Nat)) (fun _ i => 16 - (intOf i).toNat)
  case atStart => exact ⟨0, by omega, rfl, rfl⟩
  case round =>
    obtain ⟨k, hk, rfl, rfl⟩ := hrel
    by_cases hlt : k < 16
    · have hkk : (k : Int) < 16 := by omega
      have h1 := cn_le ls k
      have h2 := fp_le ls hl k
      go_wp2_with (refine wpList_index_row rfl 61 (.tmp 6) (.tmp 7) rfl (ia 16 (cn ls)) rfl .i64 k rfl 16 3 Try.underlying61 hlt a3 s3 _ (va_at 16 _ k hlt) ?_)
      go_round
      case rel => exact ⟨k + 1, by omega, by go_num, by rw [fp]; go_num⟩
      case measure => simp [intOf]; omega
    · have hk' : k = 16 := by omega
      subst hk'
      go_wp2
      go_ret
      exact ⟨rfl, HB.out⟩

/-- Three rows of the call's own. -/
structure Three (w : World) (p q r : Nat) (A B C : Array Value) (wr : World) : Prop where
  a : Blk wr p 61 A
  b : Blk wr q 61 B
  c : Blk wr r 61 C
  below : Below w.heap.size w wr
  lo : w.heap.size ≤ p ∧ p < q ∧ q < r
theorem Three.setC {w wr : World} {p q r : Nat} {A B C : Array Value} (h : Three w p q r A B C wr) (i : Nat) (u : Value) : Three w p q r A B (C.setIfInBounds i u) (wr.setCell ⟨r, i, none⟩ u) := by
  have := h.lo
  exact ⟨h.a.other i u (by omega), h.b.other i u (by omega), h.c.setCell i u, h.below.setCell (by show w.heap.size ≤ r; omega) _, h.lo⟩
theorem Three.setB {w wr W : World} {p q r : Nat} {A B B' C : Array Value} (h : Three w p q r A B C wr) (hb : Blk W q 61 B') (t : Touch (fun k => k = q) wr W) : Three w p q r A B' C W := by
  have := h.lo
  exact ⟨h.a.touch t (by omega), hb, h.c.touch t (by omega), h.below.trans (t.below h.below.size fun k hk => by omega), h.lo⟩
theorem Three.drew {w wr : World} {p q r : Nat} {A B C : Array Value} (h : Three w p q r A B C wr) : Three w p q r A B C wr.drew := ⟨h.a, h.b, h.c, below_drew h.below, h.lo⟩

/-- A row of which the first k are told, the others nought. -/
def upf (f : Nat → Nat) (k i : Nat) : Nat := if i < k then f i else 0
theorem upf_all (f : Nat → Nat) : ia 16 (upf f 16) = ia 16 f := va_congr fun i hi => by simp [upf, hi]
theorem upf_set (f : Nat → Nat) (k : Nat) : (ia 16 (upf f k)).setIfInBounds k (.int .i64 (f k : Nat)) = ia 16 (upf f (k + 1)) := by
  refine ia_set 16 _ _ k (f k) fun i _ => ?_
  unfold upf
  by_cases h : i = k
  · subst h; simp
  · rw [if_neg h]
    by_cases h1 : i < k
    · simp [h1, show i < k + 1 by omega]
    · simp [h1, show ¬ i < k + 1 by omega]
theorem upf_one (f : Nat → Nat) (h : f 0 = 0) : upf f 1 = fun _ => 0 := by
  funext i
  unfold upf
  split
  · rw [show i = 0 by omega, h]
  · rfl

theorem fc_le {ls : List Nat} (H : Ok ls) (n : Nat) (hn : n ≤ 15) : fc ls n ≤ 32768 := by
  have h1 := fc_sp ls n hn
  have h2 : sp ls n ≤ room ls := sp_mono ls (by omega)
  have h3 := H.few
  have h4 : fc ls n * 1 ≤ fc ls n * 2 ^ (15 - n) := Nat.mul_le_mul_left _ (Nat.two_pow_pos _)
  omega

set_option maxHeartbeats 800000 in
theorem firsts_any (ls : List Nat) (H : Ok ls) (w : World) :
    Calls Try.prog 31 #[.agg (ia 16 (cn ls))] w fun e w' => e = .returned (.agg (ia 16 (fc ls))) ∧ Below w.heap.size w w' := by
  have HO := Lib.hid H
  clear H
  go_enter Try.func31, Try.ntmps31
  go_upto_region 2 with (first
    | (refine wpList_box_row rfl 61 (.tmp 0) rfl (ia 16 (cn ls)) rfl ?_; intro W hb ht hs; have HS := Lib.hid hs; clear hs)
    | (refine wpList_alloc_z rfl 61 rfl _ z61 ?_; intro W hb ht hs; have HS := Lib.hid hs; clear hs))
  rename_i W1 hb1 ht1 HS1 W2 hb2 ht2 HS2 K1 hK1 K0 hK0
  obtain ⟨p, hp⟩ : ∃ p, p = w.heap.size := ⟨_, rfl⟩
  obtain ⟨q, hq⟩ : ∃ q, q = W1.heap.size := ⟨_, rfl⟩
  obtain ⟨r, hr⟩ : ∃ r, r = W2.heap.size := ⟨_, rfl⟩
  have H3 : Hid (Three w p q r (ia 16 (cn ls)) (ia 16 fun _ => 0) (ia 16 fun _ => 0) W) := by
    subst hp hq hr
    have h1 := HS1.out
    have h2 := HS2.out
    exact Lib.hid ⟨(hb1.touch ht2 (fun h => h)).touch ht (fun h => h), hb2.touch ht (fun h => h), hb, (ht1.trans (ht2.trans ht)).below (Nat.le_refl _) (fun _ h => h.elim), by omega, by omega, by omega⟩
  rw [← hp, ← hq, ← hr]
  clear hp hq hr hb1 ht1 HS1 hb2 ht2 HS2 hb ht HS
  go_wp2
  go_loopw [4] (fun i wr => ∃ k : Nat, 1 ≤ k ∧ k ≤ 16 ∧ i = .int .i64 k ∧ Three w p q r (ia 16 (cn ls)) (ia 16 fun _ => 0) (ia 16 (upf (fc ls) k)) wr) (fun i _ => 16 - (intOf i).toNat)
  case atStart => exact ⟨1, by omega, by omega, rfl, by rw [upf_one _ rfl]; exact H3.out⟩
  case round =>
    obtain ⟨k, hk1, hk, rfl, hrel⟩ := hrel
    have HR := Lib.hid hrel
    clear hrel H3
    by_cases hlt : k < 16
    · have hkk : (k : Int) ≤ 15 := by omega
      obtain ⟨j, rfl⟩ : ∃ j, k = j + 1 := ⟨k - 1, by omega⟩
      have g1 := (HR.out.c.cell j).trans (va_at 16 _ j (by omega))
      have g2 := (HR.out.a.cell j).trans (va_at 16 _ j (by omega))
      have g3 := HR.out.c.free (j + 1)
      have g4 := (HR.out.c.cell (j + 1)).trans (va_at 16 _ (j + 1) hlt)
      have b1 := fc_le HO.out j (by omega)
      have b2 := cn_le ls j
      have b3 := HO.out.len
      rw [show upf (fc ls) (j + 1) j = fc ls j by unfold upf; rw [if_pos (by omega)]] at g1
      have e1 : IntKind.i64.wrap (j : Int) = j := by rw [IntKind.wrap_i64]; omega
      have e2 : (j : Int) < 16 := by omega
      have e3 : (j : Int) + 1 < 16 := by omega
      have e4 : (0 : Int) ≤ (j : Int) + 1 := by omega
      have e5 : ((j : Int) + 1).toNat = j + 1 := by omega
      have e6 : IntKind.i64.wrap ((fc ls j : Int) + cn ls j) = (fc ls j : Int) + cn ls j := by rw [IntKind.wrap_i64]; omega
      have e7 : IntKind.i64.wrap (((fc ls j : Int) + cn ls j) * 2) = (fc ls (j + 1) : Nat) := by rw [IntKind.wrap_i64, fc]; omega
      go_wp2
      go_still_tail 12, (by kernel_rfl)
      change wpList _ _ _ _ _ wr.drew
      go_wp2
      go_roundw
      case rel =>
        refine ⟨j + 1 + 1, by omega, by omega, by go_num, ?_⟩
        have := (HR.out.setC (j + 1) (.int .i64 (fc ls (j + 1) : Nat))).drew
        rw [upf_set] at this
        exact this
      case measure => simp [intOf]; omega
    · have hk' : k = 16 := by omega
      subst hk'
      rw [upf_all] at HR
      go_wp2_with (first
        | (refine wpList_load_row rfl 61 (.tmp 3) rfl r rfl 61 _ HR.out.c 16 3 Try.underlying61 i61 ?_)
        | (refine wpList_store_row rfl 61 (.tmp 2) (.tmp 21) rfl rfl q rfl _ rfl 61 _ HR.out.b i61 (by simp only [va_size]) (ia_one 16 _) ?_; intro W4 hb4 ht4 hs4; have HB := Lib.hid (HR.out.setB hb4 ht4); clear hb4 ht4 hs4))
      exact bodyPost_ret (results_cell Try.results31 _ _ _ q rfl 61 _ HB.out.b 16 3 Try.underlying61 i61) rfl ⟨rfl, HB.out.below⟩
set_option maxHeartbeats 800000 in
theorem places_any (ls : List Nat) (hl : ls.length ≤ 320) (w : World) :
    Calls Try.prog 41 #[.agg (ia 16 (cn ls))] w fun e w' => e = .returned (.agg (ia 16 (fp ls))) ∧ Below w.heap.size w w' := by
  go_enter Try.func41, Try.ntmps41
  go_upto_region 2 with (first
    | (refine wpList_box_row rfl 61 (.tmp 0) rfl (ia 16 (cn ls)) rfl ?_; intro W hb ht hs; have HS := Lib.hid hs; clear hs)
    | (refine wpList_alloc_z rfl 61 rfl _ z61 ?_; intro W hb ht hs; have HS := Lib.hid hs; clear hs))
  rename_i W1 hb1 ht1 HS1 W2 hb2 ht2 HS2 K1 hK1 K0 hK0
  obtain ⟨p, hp⟩ : ∃ p, p = w.heap.size := ⟨_, rfl⟩
  obtain ⟨q, hq⟩ : ∃ q, q = W1.heap.size := ⟨_, rfl⟩
  obtain ⟨r, hr⟩ : ∃ r, r = W2.heap.size := ⟨_, rfl⟩
  have H3 : Hid (Three w p q r (ia 16 (cn ls)) (ia 16 fun _ => 0) (ia 16 fun _ => 0) W) := by
    subst hp hq hr
    have h1 := HS1.out
    have h2 := HS2.out
    exact Lib.hid ⟨(hb1.touch ht2 (fun h => h)).touch ht (fun h => h), hb2.touch ht (fun h => h), hb, (ht1.trans (ht2.trans ht)).below (Nat.le_refl _) (fun _ h => h.elim), by omega, by omega, by omega⟩
  rw [← hp, ← hq, ← hr]
  clear hp hq hr hb1 ht1 HS1 hb2 ht2 HS2 hb ht HS
  go_wp2
  go_loopw [4] (fun i wr => ∃ k : Nat, 1 ≤ k ∧ k ≤ 16 ∧ i = .int .i64 k ∧ Three w p q r (ia 16 (cn ls)) (ia 16 fun _ => 0) (ia 16 (upf (fp ls) k)) wr) (fun i _ => 16 - (intOf i).toNat)
  case atStart => exact ⟨1, by omega, by omega, rfl, by rw [upf_one _ rfl]; exact H3.out⟩
  case round =>
    obtain ⟨k, hk1, hk, rfl, hrel⟩ := hrel
    have HR := Lib.hid hrel
    clear hrel H3
    by_cases hlt : k < 16
    · have hkk : (k : Int) ≤ 15 := by omega
      obtain ⟨j, rfl⟩ : ∃ j, k = j + 1 := ⟨k - 1, by omega⟩
      have g1 := (HR.out.c.cell j).trans (va_at 16 _ j (by omega))
      have g2 := (HR.out.a.cell j).trans (va_at 16 _ j (by omega))
      have g3 := HR.out.c.free (j + 1)
      have g4 := (HR.out.c.cell (j + 1)).trans (va_at 16 _ (j + 1) hlt)
      have b1 := fp_le ls hl j
      have b2 := cn_le ls j
      rw [show upf (fp ls) (j + 1) j = fp ls j by unfold upf; rw [if_pos (by omega)]] at g1
      have e1 : IntKind.i64.wrap (j : Int) = j := by rw [IntKind.wrap_i64]; omega
      have e2 : (j : Int) < 16 := by omega
      have e3 : (j : Int) + 1 < 16 := by omega
      have e4 : (0 : Int) ≤ (j : Int) + 1 := by omega
      have e5 : ((j : Int) + 1).toNat = j + 1 := by omega
      have e6 : IntKind.i64.wrap ((fp ls j : Int) + cn ls j) = (fp ls (j + 1) : Nat) := by rw [IntKind.wrap_i64, fp]; omega
      go_wp2
      go_still_tail 11, (by kernel_rfl)
      change wpList _ _ _ _ _ wr.drew
      go_wp2
      go_roundw
      case rel =>
        refine ⟨j + 1 + 1, by omega, by omega, by go_num, ?_⟩
        have := (HR.out.setC (j + 1) (.int .i64 (fp ls (j + 1) : Nat))).drew
        rw [upf_set] at this
        exact this
      case measure => simp [intOf]; omega
    · have hk' : k = 16 := by omega
      subst hk'
      rw [upf_all] at HR
      go_wp2_with (first
        | (refine wpList_load_row rfl 61 (.tmp 3) rfl r rfl 61 _ HR.out.c 16 3 Try.underlying61 i61 ?_)
        | (refine wpList_store_row rfl 61 (.tmp 2) (.tmp 20) rfl rfl q rfl _ rfl 61 _ HR.out.b i61 (by simp only [va_size]) (ia_one 16 _) ?_; intro W4 hb4 ht4 hs4; have HB := Lib.hid (HR.out.setB hb4 ht4); clear hb4 ht4 hs4))
      exact bodyPost_ret (results_cell Try.results41 _ _ _ q rfl 61 _ HB.out.b 16 3 Try.underlying61 i61) rfl ⟨rfl, HB.out.below⟩
end Go.Proofs.Ythgehgdbplbcfaa
