/-
  The contract of the law's first look, alive.
-/
import Derived.Test.YtjbjjnfhklpffaaK
namespace Go.Proofs.Ytjbjjnfhklpffaa
open Go.RowKit

theorem wi_13 {bs : List Nat} (hb : Bs bs) (hw : WI bs 4) (hn : num bs = 13) : bs = [13] :=
  hw.same ⟨by simp, by simp, by simp [num]⟩ hb (Bs.one (by omega)) (by rw [hn]; rfl)

theorem wi_137 {bs : List Nat} (hb : Bs bs) (hw : WI bs 16) (hn : num bs = 1805) : bs = [13, 7] :=
  hw.same ⟨by simp, by simp, by simp [num]⟩ hb (fun x h => by simp at h; omega) (by rw [hn]; rfl)

set_option maxHeartbeats 1600000 in
theorem alive_any (w : World) : Calls Try.prog 7 #[] w fun e w' => e = .returned (.bool true) ∧ Touch (U w.heap.size) w w' := by
  go_enter Try.func7, Try.ntmps7
  go_wp2_with fail
  refine (newWriter_T (Nat.le_refl _) (Touch.refl _ w)).mono ?_
  rintro e w1 ⟨p, rfl, hW⟩
  go_wp2_with fail
  refine (hW.put (by omega) 5 3 5 5 (by omega) (by omega) (by rfl) (by rfl)).mono ?_
  rintro e w2 ⟨rfl, hW2⟩
  clear hW
  go_wp2_with fail
  refine (hW2.put (by omega) 1 1 1 13 (by omega) (by omega) (by rfl) (by rfl)).mono ?_
  rintro e w3 ⟨rfl, hW3⟩
  clear hW2
  go_wp2_with fail
  refine hW3.len.mono ?_
  rintro e w4 ⟨rfl, rfl⟩
  go_wp2_with fail
  refine (hW3.out (by omega)).mono ?_
  rintro e w4 ⟨bs, a, c, g, rfl, hb, hw, hn, hown, hV3, hV4, hU4, _⟩
  obtain rfl := wi_13 hb hw hn
  clear hW3 hb hw hn
  go_wp2_with fail
  refine ((hV4.touch ((Touch.refl (fun _ => False) w4).alloc _) (fun _ _ h => h)).raw (by_one w4 7 (by rfl)) (Bs.one (by omega)) (by omega) (by simp) 1805 16 (by rfl) (by rfl)).mono ?_
  rintro e w5 ⟨rfl, hP5⟩
  have hW5 := hP5.go (hV4.touch ((Touch.refl (fun _ => False) w4).alloc _) (fun _ _ h => h)) (hU4.alloc _)
  have hB5 : BySl w5 (.slice a [13].length c) [13] := by
    obtain ⟨_, _, ht5, _⟩ := hP5
    refine (BySl.own hown).touch (((Touch.refl _ w4).alloc _).trans ht5) fun k hk hf => ?_
    have h1 := own_low hown k hk
    have h2 := (hV3.foot hf).2
    omega
  clear hP5 hV3 hV4 hU4 hown
  go_wp2_with fail
  refine (hW5.out (by omega)).mono ?_
  rintro e w6 ⟨bs, a6, c6, g6, rfl, hb, hw, hn, hown6, _, _, hU6, ht6⟩
  obtain rfl := wi_137 hb hw hn
  have hB6 := hB5.touch ht6 (fun _ _ h => h)
  have hk6 := hB6.lt (by simp)
  clear hW5 hw hn ht6 hB5
  go_wp2_with fail
  refine (newReader_T (BySl.own hown6) hb (by simp)).mono ?_
  rintro e w7 ⟨pr, rfl, hR⟩
  clear hown6 hb
  go_wp2_with fail
  refine (hR.peek (by simp) (by simp) 4 13 (by omega) (by rfl)).mono ?_
  rintro e w8 ⟨rfl, rfl⟩
  go_wp2_with fail
  refine (hR.bits (by simp) 3 5 (by omega) (by simp) (by rfl)).mono ?_
  rintro e w8 ⟨rfl, hR8⟩
  clear hR
  go_wp2_with fail
  refine (hR8.bytes (by simp) (by simp) 1 16 [7] (by simp) (by rfl) (by rfl)).mono ?_
  rintro e w9 ⟨a9, c9, rfl, hown9, hR9⟩
  clear hR8
  go_wp2_with fail
  refine (hR9.bits_no (by simp) (by simp) 1 (by simp)).mono ?_
  rintro e w10 ⟨rfl, nq10, rfl⟩
  go_wp2_with fail
  have hB10 : BySl ((w9.drewN nq10).alloc (.cells #[.int .u8 13] 5)) (.slice a 1 c) [13] := by
    obtain ⟨_, _, ht⟩ := hR9
    exact hB6.touch ((ht.drewN nq10).alloc _) fun k hk hu => by have := hk6 k hk; unfold U at hu; omega
  refine (same_any hB10 (by_one (w9.drewN nq10) 13 (by rfl)) (by simp)).mono ?_
  rintro e w11 ⟨rfl, nq, rfl⟩
  clear hB10 hB6 hk6
  go_wp2_with fail
  refine (same_any (xs := [7]) (ys := [7]) ?_ ?_ (by simp)).mono ?_
  · exact ((BySl.own hown9).touch ((((Touch.refl (fun _ => False) w9).drewN nq10).alloc _).drewN nq) (fun _ _ h => h)).touch ((Touch.refl (fun _ => False) _).alloc _) (fun _ _ h => h)
  · have h := by_one (((w9.drewN nq10).alloc (.cells #[.int .u8 13] 5)).drewN nq) 7 (u := 7) (by rfl)
    simpa using h
  rintro e w12 ⟨rfl, nq2, rfl⟩
  have hR12 : RdT w6 (((((w9.drewN nq10).alloc (.cells #[.int .u8 13] 5)).drewN nq).alloc (.cells #[.int .u8 7] 5)).drewN nq2) pr [13, 7] 16 := by
    obtain ⟨g, ho, ht⟩ := hR9
    have hT : Touch (fun _ => False) w9 (((((w9.drewN nq10).alloc (.cells #[.int .u8 13] 5)).drewN nq).alloc (.cells #[.int .u8 7] 5)).drewN nq2) := (((((Touch.refl _ w9).drewN nq10).alloc _).drewN _).alloc _).drewN _
    exact ⟨g, ho.touch hT (fun _ _ h => h), ht.trans (hT.mono fun _ h => h.elim)⟩
  clear hR9 hown9
  generalize (((((w9.drewN nq10).alloc (.cells #[.int .u8 13] 5)).drewN nq).alloc (.cells #[.int .u8 7] 5)).drewN nq2) = W at hR12 ⊢
  go_wp2_with fail
  refine hR12.at.mono ?_
  rintro e w13 ⟨rfl, rfl⟩
  go_wp2_with fail
  refine (hR12.left (by simp) (by simp)).mono ?_
  rintro e w13 ⟨rfl, nq3, rfl⟩
  go_wp2_with fail
  refine (reverse_yes 6 4 _ (by omega) (by omega)).mono ?_
  rintro e w13 ⟨rfl, rfl⟩
  go_wp2_with fail
  refine (reverse_yes 1 3 _ (by omega) (by omega)).mono ?_
  rintro e w13 ⟨rfl, rfl⟩
  go_wp2_with fail
  go_ret
  refine ⟨rfl, ?_⟩
  obtain ⟨g, ho, ht⟩ := hR12
  exact (hU6.trans (ht.mono fun k hk => Nat.le_trans hU6.size hk)).drewN _
end Go.Proofs.Ytjbjjnfhklpffaa
