/-
  Grow of nothing, Concat of two rows; Put.
-/
import Derived.Test.YtmnkdnlmpgmdgaaDoorUe
import Derived.Lib.AppendZerosOnto
import Derived.Shelf.Spec.SlicesGrow
namespace Go.Proofs.YtmnkdnlmpgmdgaaDoor
open Go.RowKit U
set_option maxRecDepth 100000

theorem below_drew {B : Nat} {a w : World} (h : Below B a w) : Below B a w.drew := ⟨h.os, h.tape, h.output, h.size, h.block⟩
theorem grow_none (n : Nat) (w : World) (h1 : 1 ≤ n) (hn : n ≤ 2000000) :
    Calls Tryd.prog 42 #[.slice none 0 0, .int .i64 n] w fun e w' => ∃ c, e = .returned (.slice (some ⟨w.heap.size, 0, none⟩) 0 c) ∧ w'.ownsRow w.heap.size 5 1 (.slice (some ⟨w.heap.size, 0, none⟩) 0 c) 0 [] ∧ Below w.heap.size w w' := by
  obtain ⟨i, hi, hz0, hz1, hz2⟩ := info_parts (P := Tryd.prog) (e := 5) (z := .int .u8 0) (size := 1) (bytes := 1) (by kernel_rfl)
  have hold : (Builtin.firstCells i.size 0 (.slice none 0 0)).run Tryd.prog w.drew = .ok ([] : List Value).toArray w.drew := run_firstCells_none w.drew i.size 0 0 0
  have hns : Builtin.nextslicecap (0 + n) 0 = n := by unfold Builtin.nextslicecap; rw [if_pos (by omega)]; omega
  have hrz : ∀ ty, (Builtin.append_ #[22, 3] ty #[.slice none 0 0, .int .i64 (n : Nat)]).run Tryd.prog w =
      .ok (.slice (some ⟨w.heap.size, 0, none⟩) n (grownCap w n 0 5)) (w.drew.alloc (.cells (([] : List Value).toArray ++ Builtin.zeroCells (Value.int .u8 0).cells n ++ Builtin.zeroCells (Value.int .u8 0).cells (grownCap w n 0 5 - n)) 5)) := fun ty => by
    have h := Lib.run_append_grow_zeros w 22 3 ty 5 i (.int .u8 0) .i64 .i64 Tryd.underlying22 Tryd.underlying3 hi hz0 none 0 0 [] hold n (by omega) (by omega) (by omega) (by omega) (by rw [hz2]; omega) (by rw [hns, hz2]; omega)
    rw [Nat.zero_add] at h
    exact h
  have hGn : n ≤ grownCap w n 0 5 := grownCap_ge w _ _ _
  have hGm : grownCap w n 0 5 ≤ maxLen := grownCap_le_maxLen w n 0 5 (by unfold maxLen; omega)
  obtain ⟨G, hG⟩ : ∃ G, G = grownCap w n 0 5 := ⟨_, rfl⟩
  rw [← hG] at hrz hGn hGm
  have hG63 : G ≤ 9223372036854775807 := by unfold maxLen at hGm; omega
  have HRZ := Lib.hid hrz
  have HM := Lib.hid hGm
  clear hold hG hi hz0 hz1 hz2 hns hrz hGm
  go_enter Tryd.func42, Tryd.ntmps42
  go_wp2_with (at_builtin; refine Lib.wpList_append_run _ rfl _ _ _ _ rfl _ _ rfl rfl _ _ (HRZ.out _) ?_)
  go_ret
  refine ⟨G, rfl, ⟨rfl, .inr ⟨w.heap.size, G, _, rfl, Nat.le_refl _, heap_alloc_new w.drew _, Nat.zero_le _, HM.out, ?_, ?_⟩⟩, (below_drew (Below.refl _ _)).alloc (Nat.le_refl _) _⟩
  · simp [size_zeroCells]; omega
  · simp

/-- Two rows one behind the other. -/
def cat (Z : Nat → List Nat) (k : Nat) : List Nat := (List.range k).flatMap Z
theorem cat_zero (Z : Nat → List Nat) : cat Z 0 = [] := rfl
theorem cat_succ (Z : Nat → List Nat) (k : Nat) : cat Z (k + 1) = cat Z k ++ Z k := by simp [cat, List.range_succ]
structure Rows2 (w : World) (q : Nat) (A : Nat → Option Addr) (C : Nat → Nat) (Z : Nat → List Nat) : Prop where
  cell : ∀ k, k < 2 → w.cell? ⟨q, k, none⟩ = some (.slice (A k) (Z k).length (C k))
  sl : ∀ k, k < 2 → Sl w (A k) (C k) (Z k)
  len : ∀ k, k < 2 → (Z k).length ≤ 500000
theorem Rows2.below {w w' : World} {q : Nat} {A : Nat → Option Addr} {C : Nat → Nat} {Z : Nat → List Nat} (h : Rows2 w q A C Z) (hb : Below w.heap.size w w') : Rows2 w' q A C Z :=
  ⟨fun k hk => (hb.cell (World.block_lt_of_cell? w _ (h.cell k hk))).trans (h.cell k hk), fun k hk => (h.sl k hk).below hb, h.len⟩
theorem Rows2.cat_le {w : World} {q : Nat} {A : Nat → Option Addr} {C : Nat → Nat} {Z : Nat → List Nat} (h : Rows2 w q A C Z) : ∀ k, k ≤ 2 → (cat Z k).length ≤ 500000 * k := by
  intro k
  induction k with
  | zero => intro _; simp [cat_zero]
  | succ k ih =>
    intro hk
    rw [cat_succ, List.length_append]
    have := ih (by omega)
    have := h.len k (by omega)
    omega
theorem cat_bs {Z : Nat → List Nat} (h : ∀ k, k < 2 → Bs (Z k)) : ∀ k, k ≤ 2 → Bs (cat Z k) := by
  intro k
  induction k with
  | zero => intro _; exact Bs.nil
  | succ k ih => intro hk; rw [cat_succ]; exact (ih (by omega)).app (h k (by omega))

/-- A row of the call's own with these bytes. -/
def OwnB (xs : List Nat) (w : World) (e : Ending) (w' : World) : Prop := ∃ ao c, e = .returned (.slice ao xs.length c) ∧ w'.ownsRow w.heap.size 5 1 (.slice ao xs.length c) xs.length (u8s xs) ∧ Below w.heap.size w w'

set_option maxHeartbeats 1600000 in
theorem concat_any (q : Nat) (A : Nat → Option Addr) (C : Nat → Nat) (Z : Nat → List Nat) (w : World) (h : Rows2 w q A C Z) (h1 : 1 ≤ (cat Z 2).length) :
    Calls Tryd.prog 35 #[.slice (some ⟨q, 0, none⟩) 2 2] w (OwnB (cat Z 2) w) := by
  have hle := h.cat_le
  have H := Lib.hid h
  clear h
  go_enter Tryd.func35, Tryd.ntmps35
  go_wp2
  go_loop [3, 11] (fun v iv' => ∃ k : Nat, k ≤ 2 ∧ iv' = .int .i64 k ∧ v = .int .i64 ((cat Z k).length : Nat)) (fun _ iv' => 2 - (intOf iv').toNat)
  case atStart => exact ⟨0, by omega, rfl, by simp [cat_zero]⟩
  case round =>
    obtain ⟨k, hk, rfl, rfl⟩ := hrel
    by_cases hlt : k < 2
    · have hc := H.out.cell k hlt
      have hl := H.out.len k hlt
      have hs := hle k hk
      have hlt' : (k : Int) < 2 := by omega
      obtain ⟨m, hm⟩ : ∃ m, m = (cat Z k).length := ⟨_, rfl⟩
      have HS : Hid ((cat Z (k + 1)).length = m + (Z k).length) := Lib.hid (by rw [cat_succ, List.length_append, hm])
      rw [← hm] at hs ⊢
      have d0 : decide (((m : Int) + (Z k).length) < 0) = false := by simp; omega
      clear hm
      go_wp2
      go_round
      case rel => exact ⟨k + 1, by omega, by go_num, by rw [HS.out]; go_num⟩
      case measure => simp [intOf]; omega
    · have hk4 : k = 2 := by omega
      have hge : (2 : Int) ≤ k := by omega
      have hs := hle 2 (by omega)
      obtain ⟨m, hm⟩ : ∃ m, m = (cat Z k).length := ⟨_, rfl⟩
      have hm4 : (cat Z 2).length = m := by rw [hm, hk4]
      rw [hm4] at hs h1
      rw [← hm]
      have HM := Lib.hid hm4
      clear hm hm4 hk4
      go_wp2_with (go_at_call 42; (refine (grow_none m _ h1 (by omega)).mono ?_); rintro e w2 ⟨c, rfl, ho, hb⟩; have HO := Lib.hid ho; have HB := Lib.hid hb; clear ho hb)
      go_loopw [6, 27] (fun v iv' wr => ∃ (k : Nat) (ao : Option Addr) (c : Nat), k ≤ 2 ∧ iv' = .int .i64 k ∧ v = .slice ao (cat Z k).length c ∧ wr.ownsRow w.heap.size 5 1 (.slice ao (cat Z k).length c) (cat Z k).length (u8s (cat Z k)) ∧ Below w.heap.size w wr) (fun _ iv' _ => 2 - (intOf iv').toNat)
      case atStart => exact ⟨0, some ⟨w.heap.size, 0, none⟩, c, by omega, rfl, by simp [cat_zero], by simpa [cat_zero, u8s] using HO.out, HB.out⟩
      case round =>
        clear HO HB
        obtain ⟨k, ao, c, hk, rfl, rfl, ho, hb⟩ := hrel
        have HO := Lib.hid ho
        have HB := Lib.hid hb
        clear ho hb
        by_cases hlt : k < 2
        · have H2 := Lib.hid (H.out.below HB.out)
          have hc := H2.out.cell k hlt
          have hl := H2.out.len k hlt
          have hs := hle k hk
          have hlt' : (k : Int) < 2 := by omega
          have HCA := Lib.hid (H2.out.sl k hlt).cells
          obtain ⟨ys, hys⟩ : ∃ ys, ys = cat Z k := ⟨_, rfl⟩
          have hys1 : Hid (cat Z (k + 1) = ys ++ Z k) := Lib.hid (by rw [cat_succ, hys])
          rw [← hys] at HO hs ⊢
          have hsz := HB.out.size
          clear hys
          go_wp2_with (refine wpList_append_x at22 rfl (.tmp 31) (.tmp 32) rfl w.heap.size (.slice ao ys.length c) (.slice (A k) (Z k).length (C k)) ys.length (Z k).length (u8s ys) (u8s (Z k)) rfl rfl HO.out HCA.out (by simp [u8s_len]) (u8s_one _) hsz (by omega) (by omega) ?_; intro ao2 c2 w4 hA; have HA := Lib.hid hA; clear hA)
          go_roundw
          case rel =>
            refine ⟨k + 1, ao2, c2, by omega, by go_num, ?_, ?_, HB.out.trans (HA.out.below HO.out hsz)⟩
            · rw [hys1.out, List.length_append]
            · have := HA.out.own
              rw [u8s_app] at this
              rw [hys1.out, List.length_append]
              exact this
          case measure => simp [intOf]; omega
        · have hge : (2 : Int) ≤ k := by omega
          have hk4 := Lib.hid (show k = 2 by omega)
          go_wp2
          go_ret
          have e := hk4.out
          subst e
          exact ⟨ao, c, rfl, HO.out, HB.out⟩
end Go.Proofs.YtmnkdnlmpgmdgaaDoor
