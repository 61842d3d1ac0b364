import Derived.Test.YtnnkegpnjedneaaDoorX7
import Derived.Test.YtnnkegpnjedneaaDoorX8
/-
  The reference's Length and Distance.
-/
namespace Go.Proofs.YtnnkegpnjedneaaDoor
open Go.RowKit
set_option maxRecDepth 100000

theorem len_lo : ∀ y, y < 265 → 257 ≤ y → lenOf y = some (y - 254, 0) := by decide +kernel
theorem len_hi : ∀ y, y < 285 → 265 ≤ y → lenOf y = some (3 + (4 + (y - 261) % 4) * 2 ^ ((y - 261) / 4), (y - 261) / 4) := by decide +kernel
theorem dis_lo : ∀ y, y < 4 → disOf y = some (y + 1, 0) := by decide +kernel
theorem dis_hi : ∀ y, y < 30 → 4 ≤ y → disOf y = some (1 + (2 + y % 2) * 2 ^ (y / 2 - 1), y / 2 - 1) := by decide +kernel

theorem rLength_no (y : Int) (w : World) (h : y < 257 ∨ 285 < y) : Calls Tryd.prog 15 #[.int .i64 y] w fun e w' => e = .returned (tells none) ∧ w = w' := by
  by_cases h1 : y < 257
  · clear h
    go_enter Tryd.func15, Tryd.ntmps15
    go_wp2
    go_ret3
    exact ⟨rfl, rfl⟩
  · have h2 : 285 < y := by omega
    clear h
    go_enter Tryd.func15, Tryd.ntmps15
    go_wp2
    go_ret3
    exact ⟨rfl, rfl⟩
theorem rLength_any (y : Nat) (w : World) : Calls Tryd.prog 15 #[.int .i64 y] w fun e w' => e = .returned (tells (lenOf y)) ∧ w = w' := by
  by_cases h : y < 257 ∨ 285 < y
  · unfold lenOf
    rw [if_pos h]
    exact rLength_no y w (by omega)
  · have ha : ¬ (y : Int) < 257 := by omega
    have hb : ¬ (285 : Int) < y := by omega
    have hc : (257 : Int) ≤ y := by omega
    have hd : (y : Int) ≤ 285 := by omega
    by_cases h1 : y = 285
    · subst h1
      go_enter Tryd.func15, Tryd.ntmps15
      go_wp2
      go_ret3
      exact ⟨rfl, rfl⟩
    · have e1 : ((y : Int) == 285) = false := by simp; omega
      by_cases h2 : y < 265
      · obtain ⟨k, hk⟩ : ∃ k, k = y - 254 := ⟨_, rfl⟩
        rw [len_lo y h2 (by omega), ← hk]
        have e2 : (y : Int) - 254 = (k : Nat) := by omega
        have e3 : (y : Int) < 265 := by omega
        clear h hk
        go_enter Tryd.func15, Tryd.ntmps15
        go_wp2
        go_ret3
        exact ⟨rfl, rfl⟩
      · obtain ⟨k, hk⟩ : ∃ k, k = y - 261 := ⟨_, rfl⟩
        obtain ⟨e, he⟩ : ∃ e, e = k / 4 := ⟨_, rfl⟩
        obtain ⟨m, hm⟩ : ∃ m, m = k % 4 := ⟨_, rfl⟩
        obtain ⟨v, hv⟩ : ∃ v, (4 + m) * 2 ^ e = v := ⟨_, rfl⟩
        rw [len_hi y (by omega) (by omega), ← hk, ← he, ← hm, hv]
        have hm4 : m < 4 := by omega
        have he5 : e ≤ 5 := by omega
        have hvb : v ≤ 1000 := by
          rw [← hv]
          exact Nat.le_trans (Nat.mul_le_mul (show 4 + m ≤ 7 by omega) (Nat.pow_le_pow_right (by omega) he5)) (by decide)
        have e2 : (y : Int) - 261 = (k : Nat) := by omega
        have e3 : ¬ (y : Int) < 265 := by omega
        have q1 : (k : Int) / 4 = (e : Int) := by omega
        have q2 : (k : Int) % 4 = (m : Int) := by omega
        have q3 : (4 + (m : Int)) * 2 ^ e = v := by rw [← hv]; simp
        have hk9 : k ≤ 30 := by omega
        clear h hk he hm hv
        go_enter Tryd.func15, Tryd.ntmps15
        go_wp2
        go_ret3
        exact ⟨rfl, rfl⟩
theorem rDistance_no (y : Int) (w : World) (h : y < 0 ∨ 29 < y) : Calls Tryd.prog 17 #[.int .i64 y] w fun e w' => e = .returned (tells none) ∧ w = w' := by
  by_cases h1 : y < 0
  · clear h
    go_enter Tryd.func17, Tryd.ntmps17
    go_wp2
    go_ret3
    exact ⟨rfl, rfl⟩
  · have h2 : 29 < y := by omega
    clear h
    go_enter Tryd.func17, Tryd.ntmps17
    go_wp2
    go_ret3
    exact ⟨rfl, rfl⟩
theorem rDistance_any (y : Nat) (w : World) : Calls Tryd.prog 17 #[.int .i64 y] w fun e w' => e = .returned (tells (disOf y)) ∧ w = w' := by
  by_cases h : 29 < y
  · unfold disOf
    rw [if_pos h]
    exact rDistance_no y w (by omega)
  · have ha : ¬ (y : Int) < 0 := by omega
    have hb : ¬ (29 : Int) < y := by omega
    have hc : (0 : Int) ≤ y := by omega
    have hd : (y : Int) ≤ 29 := by omega
    by_cases h2 : y < 4
    · rw [dis_lo y h2]
      have e3 : (y : Int) < 4 := by omega
      clear h
      go_enter Tryd.func17, Tryd.ntmps17
      go_wp2
      go_ret3
      exact ⟨by simp [tells], rfl⟩
    · obtain ⟨q, hq⟩ : ∃ q, q = y / 2 := ⟨_, rfl⟩
      obtain ⟨e, he⟩ : ∃ e, e = q - 1 := ⟨_, rfl⟩
      obtain ⟨m, hm⟩ : ∃ m, m = y % 2 := ⟨_, rfl⟩
      obtain ⟨v, hv⟩ : ∃ v, (2 + m) * 2 ^ e = v := ⟨_, rfl⟩
      rw [dis_hi y (by omega) (by omega), ← hq, ← he, ← hm, hv]
      have he5 : e ≤ 13 := by omega
      have hm4 : m < 2 := by omega
      have hvb : v ≤ 100000 := by
        rw [← hv]
        exact Nat.le_trans (Nat.mul_le_mul (show 2 + m ≤ 3 by omega) (Nat.pow_le_pow_right (by omega) he5)) (by decide)
      have e3 : ¬ (y : Int) < 4 := by omega
      have q0 : (y : Int) / 2 = (q : Int) := by omega
      have q1 : (q : Int) - 1 = (e : Int) := by omega
      have q2 : (y : Int) % 2 = (m : Int) := by omega
      have q3 : (2 + (m : Int)) * 2 ^ e = v := by rw [← hv]; simp
      have hq9 : q ≤ 15 := by omega
      clear h hq he hm hv
      go_enter Tryd.func17, Tryd.ntmps17
      go_wp2
      go_ret3
      exact ⟨rfl, rfl⟩
end Go.Proofs.YtnnkegpnjedneaaDoor

/-
  The reference's Fixed.
-/
namespace Go.Proofs.YtnnkegpnjedneaaDoor
open Go.RowKit
set_option maxRecDepth 100000

/-- Two rows of integers of the call's own. -/
structure Tw (B : Nat) (w wr : World) (v1 : Value) (n1 : Nat) (xs1 : List Int) (v2 : Value) (n2 : Nat) (xs2 : List Int) : Prop where
  own1 : wr.ownsRow B 3 1 v1 n1 (iv xs1)
  own2 : wr.ownsRow B 3 1 v2 n2 (iv xs2)
  ne : ∀ k, v1.ownBlock = some k → v2.ownBlock ≠ some k
  below : Below B w wr
  size : B ≤ wr.heap.size
theorem Tw.app1 {B n1 n2 m : Nat} {w wr w' : World} {v1 v2 v' : Value} {xs1 xs2 ys : List Int} (h : Tw B w wr v1 n1 xs1 v2 n2 xs2) (k : Apg wr B 3 1 v1 m (iv ys) v' w') : Tw B w w' v' m ys v2 n2 xs2 := by
  refine ⟨k.own, ownsRow_touch h.own2 k.touch fun i hi hs => h.ne i hs hi, fun i hi h2 => ?_, h.below.trans (k.below h.own1 h.size), Nat.le_trans h.size k.touch.size⟩
  rcases k.row i hi with h1 | h1
  · exact h.ne i h1 h2
  · have := (h.own2.lt i h2).2
    omega
theorem Tw.app2 {B n1 n2 m : Nat} {w wr w' : World} {v1 v2 v' : Value} {xs1 xs2 ys : List Int} (h : Tw B w wr v1 n1 xs1 v2 n2 xs2) (k : Apg wr B 3 1 v2 m (iv ys) v' w') : Tw B w w' v1 n1 xs1 v' m ys := by
  refine ⟨ownsRow_touch h.own1 k.touch fun i hi hs => h.ne i hi hs, k.own, fun i hi h2 => ?_, h.below.trans (k.below h.own2 h.size), Nat.le_trans h.size k.touch.size⟩
  rcases k.row i h2 with h1 | h1
  · exact h.ne i hi h1
  · have := (h.own1.lt i hi).2
    omega
theorem Tw.start (w : World) : Tw w.heap.size w ((w.alloc (.cells #[] 3)).alloc (.cells #[] 3)) (.slice (some ⟨w.heap.size, 0, none⟩) 0 0) 0 [] (.slice (some ⟨w.heap.size + 1, 0, none⟩) 0 0) 0 [] := by
  have hs : (w.alloc (.cells #[] 3)).heap.size = w.heap.size + 1 := Array.size_push _
  have h1 := own_none w 3 1
  have h2 := own_none (w.alloc (.cells #[] 3)) 3 1
  rw [hs] at h2
  refine ⟨h1.alloc _, own_base h2 (Nat.le_succ _), fun k hk e => ?_, ((Below.refl _ w).alloc (Nat.le_refl _) _).alloc (by rw [hs]; omega) _, ?_⟩
  · simp only [Value.ownBlock, Option.some.injEq] at hk e
    omega
  · have := Array.size_push (xs := (w.alloc (.cells #[] 3)).heap) (Obj.cells #[] 3)
    show w.heap.size ≤ ((w.alloc (.cells #[] 3)).heap.push (Obj.cells #[] 3)).size
    rw [this, hs]; omega
theorem cells_one1 (w : World) (e : TypeId) (u : Value) : CellsAt (w.alloc (.cells #[u] e)) (.slice (some ⟨w.heap.size, 0, none⟩) 1 1) 1 [u] := by
  refine .inr ⟨_, 1, rfl, fun j x hx => ?_⟩
  rw [Addr.add_lit, Nat.zero_add, (Blk.made w e _).cell]
  have : j < 1 := (List.getElem?_eq_some_iff.1 hx).1
  obtain rfl : j = 0 := by omega
  simpa using hx
theorem fz_at : ∀ i, i < 288 → fixFZ.take (i + 1) = fixFZ.take i ++ [if i < 144 then 8 else if i < 256 then 9 else if i < 280 then 7 else 8] := by decide +kernel
theorem oz_at : ∀ i, i < 32 → fixOZ.take (i + 1) = fixOZ.take i ++ [5] := by decide +kernel

set_option maxHeartbeats 3200000 in
theorem rFixed_any (w : World) : Calls Tryd.prog 19 #[] w (FixTo w) := by
  have HS := Lib.hid (Tw.start w)
  obtain ⟨B, hB⟩ : ∃ B, B = w.heap.size := ⟨_, rfl⟩
  rw [← hB] at HS
  have HB := Lib.hid hB
  go_enter Tryd.func19, Tryd.ntmps19
  go_wp2
  rw [← hB] at ⊢
  clear hB
  go_loopg [2, 4] 289 (fun gm v vi wr => ∃ (i : Nat) (ao : Option Addr) (c : Nat), i ≤ 288 ∧ 289 - i ≤ gm ∧ v = .slice ao i c ∧ vi = .int .i64 (i : Nat) ∧ Hid (Tw B w wr (.slice ao i c) i (fixFZ.take i) (.slice (some ⟨B + 1, 0, none⟩) 0 0) 0 []))
  case atStart => exact ⟨0, _, _, by omega, by omega, rfl, rfl, HS⟩
  case round =>
    clear HS
    obtain ⟨i, ao, c, hi, hgm, rfl, rfl, HX⟩ := hrel
    by_cases hlt : i < 288
    · have h0 : (i : Int) < 288 := by omega
      rcases (by omega : i < 144 ∨ (144 ≤ i ∧ i < 256) ∨ (256 ≤ i ∧ i < 280) ∨ (280 ≤ i ∧ i < 288)) with h1 | ⟨h1, h2⟩ | ⟨h1, h2⟩ | ⟨h1, h2⟩
      · have k1 : ¬ (144 : Int) ≤ i := by omega
        have k2 : ¬ (256 : Int) ≤ i := by omega
        go_wp2_with (refine wpList_append_g at22 rfl (.tmp 25) (.tmp 27) rfl B (.slice ao i c) (.slice (some ⟨wr.heap.size, 0, none⟩) 1 1) i 1 (iv (fixFZ.take i)) [.int .i64 8] rfl rfl (World.ownsRow.alloc (w := wr) HX.out.own1 _) (cells_one1 wr 3 _) rfl (by simp [Value.oneCell']) (by have := HX.out.size; simp; omega) (by omega) (by omega) ?_; intro ao2 c2 w3 hA; have HA := Lib.hid hA; clear hA)
        go_roundg (289 - (i + 1))
        case measure => omega
        case rel =>
          refine ⟨i + 1, ao2, c2, by omega, Nat.le_refl _, rfl, rfl, Lib.hid (HX.out.app1 (ys := fixFZ.take (i + 1)) ?_)⟩
          rw [fz_at i hlt, ← iv_app, if_pos h1]
          exact HA.out.alloc
      · have k1 : (144 : Int) ≤ i := by omega
        have k2 : ¬ (256 : Int) ≤ i := by omega
        have k3 : (i : Int) < 256 := by omega
        go_wp2_with (refine wpList_append_g at22 rfl (.tmp 25) (.tmp 27) rfl B (.slice ao i c) (.slice (some ⟨wr.heap.size, 0, none⟩) 1 1) i 1 (iv (fixFZ.take i)) [.int .i64 9] rfl rfl (World.ownsRow.alloc (w := wr) HX.out.own1 _) (cells_one1 wr 3 _) rfl (by simp [Value.oneCell']) (by have := HX.out.size; simp; omega) (by omega) (by omega) ?_; intro ao2 c2 w3 hA; have HA := Lib.hid hA; clear hA)
        go_roundg (289 - (i + 1))
        case measure => omega
        case rel =>
          refine ⟨i + 1, ao2, c2, by omega, Nat.le_refl _, rfl, rfl, Lib.hid (HX.out.app1 (ys := fixFZ.take (i + 1)) ?_)⟩
          rw [fz_at i hlt, ← iv_app, if_neg (by omega), if_pos h2]
          exact HA.out.alloc
      · have k1 : (144 : Int) ≤ i := by omega
        have k2 : (256 : Int) ≤ i := by omega
        have k3 : ¬ (i : Int) < 256 := by omega
        have k4 : (i : Int) < 280 := by omega
        go_wp2_with (refine wpList_append_g at22 rfl (.tmp 25) (.tmp 27) rfl B (.slice ao i c) (.slice (some ⟨wr.heap.size, 0, none⟩) 1 1) i 1 (iv (fixFZ.take i)) [.int .i64 7] rfl rfl (World.ownsRow.alloc (w := wr) HX.out.own1 _) (cells_one1 wr 3 _) rfl (by simp [Value.oneCell']) (by have := HX.out.size; simp; omega) (by omega) (by omega) ?_; intro ao2 c2 w3 hA; have HA := Lib.hid hA; clear hA)
        go_roundg (289 - (i + 1))
        case measure => omega
        case rel =>
          refine ⟨i + 1, ao2, c2, by omega, Nat.le_refl _, rfl, rfl, Lib.hid (HX.out.app1 (ys := fixFZ.take (i + 1)) ?_)⟩
          rw [fz_at i hlt, ← iv_app, if_neg (by omega), if_neg (by omega), if_pos h2]
          exact HA.out.alloc
      · have k1 : (144 : Int) ≤ i := by omega
        have k2 : (256 : Int) ≤ i := by omega
        have k3 : ¬ (i : Int) < 256 := by omega
        have k4 : ¬ (i : Int) < 280 := by omega
        go_wp2_with (refine wpList_append_g at22 rfl (.tmp 25) (.tmp 27) rfl B (.slice ao i c) (.slice (some ⟨wr.heap.size, 0, none⟩) 1 1) i 1 (iv (fixFZ.take i)) [.int .i64 8] rfl rfl (World.ownsRow.alloc (w := wr) HX.out.own1 _) (cells_one1 wr 3 _) rfl (by simp [Value.oneCell']) (by have := HX.out.size; simp; omega) (by omega) (by omega) ?_; intro ao2 c2 w3 hA; have HA := Lib.hid hA; clear hA)
        go_roundg (289 - (i + 1))
        case measure => omega
        case rel =>
          refine ⟨i + 1, ao2, c2, by omega, Nat.le_refl _, rfl, rfl, Lib.hid (HX.out.app1 (ys := fixFZ.take (i + 1)) ?_)⟩
          rw [fz_at i hlt, ← iv_app, if_neg (by omega), if_neg (by omega), if_neg (by omega)]
          exact HA.out.alloc
    · obtain rfl : i = 288 := by omega
      rw [show fixFZ.take 288 = fixFZ by decide +kernel] at HX
      clear hi hgm hlt
      go_wp2
      go_loopg [3, 6] 33 (fun gm v vi wr2 => ∃ (i : Nat) (ao2 : Option Addr) (c2 : Nat), i ≤ 32 ∧ 33 - i ≤ gm ∧ v = .slice ao2 i c2 ∧ vi = .int .i64 (i : Nat) ∧ Hid (Tw B w wr2 (.slice ao 288 c) 288 fixFZ (.slice ao2 i c2) i (fixOZ.take i)))
      case atStart => exact ⟨0, _, _, by omega, by omega, rfl, rfl, HX⟩
      case round =>
        clear HX
        obtain ⟨i, ao3, c3, hi, hgm, rfl, rfl, HX⟩ := hrel
        by_cases hlt : i < 32
        · have h0 : (i : Int) < 32 := by omega
          go_wp2_with (refine wpList_append_g at22 rfl (.tmp 33) (.tmp 34) rfl B (.slice ao3 i c3) (.slice (some ⟨wr.heap.size, 0, none⟩) 1 1) i 1 (iv (fixOZ.take i)) [.int .i64 5] rfl rfl (World.ownsRow.alloc (w := wr) HX.out.own2 _) (cells_one1 wr 3 _) rfl (by simp [Value.oneCell']) (by have := HX.out.size; simp; omega) (by omega) (by omega) ?_; intro ao4 c4 w3 hA; have HA := Lib.hid hA; clear hA)
          go_roundg (33 - (i + 1))
          case measure => omega
          case rel =>
            refine ⟨i + 1, ao4, c4, by omega, Nat.le_refl _, rfl, rfl, Lib.hid (HX.out.app2 (ys := fixOZ.take (i + 1)) ?_)⟩
            rw [oz_at i hlt, ← iv_app]
            exact HA.out.alloc
        · obtain rfl : i = 32 := by omega
          rw [show fixOZ.take 32 = fixOZ by decide +kernel] at HX
          clear hi hgm hlt
          go_wp2
          go_ret2
          exact ⟨ao, c, ao3, c3, rfl, own_is HX.out.own1 fixFZ_len, own_is HX.out.own2 fixOZ_len, by rw [← HB.out]; exact HX.out.below⟩
end Go.Proofs.YtnnkegpnjedneaaDoor

