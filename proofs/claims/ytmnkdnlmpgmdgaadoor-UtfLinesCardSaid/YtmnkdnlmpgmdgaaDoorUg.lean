/-
  Put: a sign's bytes behind.
-/
import Derived.Test.YtmnkdnlmpgmdgaaDoorUf
namespace Go.Proofs.YtmnkdnlmpgmdgaaDoor
open Go.RowKit U
set_option maxRecDepth 100000

theorem cells_enc (v : Nat) (h : isSign v) : Lib.runeCells (v : Int) = u8s (enc v) := by
  obtain ⟨h1, h2⟩ := h
  unfold Lib.runeCells u8s enc
  by_cases c1 : v < 128
  · rw [Lib.encodeRuneZ_one (by omega) (by omega), if_pos c1]; rfl
  rw [if_neg c1]
  by_cases c2 : v < 2048
  · rw [Lib.encodeRuneZ_two (by omega) (by omega), if_pos c2]; rfl
  rw [if_neg c2]
  by_cases c3 : v < 65536
  · rw [Lib.encodeRuneZ_three (by omega), if_pos c3]; rfl
  rw [if_neg c3, Lib.encodeRuneZ_four (by omega) (by omega)]; rfl
/-- A sign's bytes as a new row. -/
theorem rune_any (v : Nat) (h : isSign v) (w : World) :
    Calls Tryd.prog 36 #[.slice none 0 0, .int .i32 (v : Nat)] w (OwnB (enc v) w) := by
  have K := Any.utf8_AppendRune_plain lapp (by kernel_rfl) w.heap.size (.slice none 0 0) 0 [] (v : Int) (by omega) (by have := h.1; omega) w ⟨rfl, .inl ⟨rfl, rfl⟩⟩ (by omega) (Nat.le_refl _)
  rw [cells_enc v h] at K
  refine Calls.mono (show Calls Tryd.prog 36 #[.slice none 0 0, .int .i32 (v : Nat)] w _ from K) ?_
  rintro e w' ⟨v', rfl, hown, o, hg⟩
  rw [u8s_len, Nat.zero_add, List.nil_append] at hown
  obtain ⟨a, c, rfl⟩ := own_shape' hown
  exact ⟨a, c, rfl, hown, ⟨hg.os, hg.tape, hg.output, by have := hg.size; rw [alloc_size] at this; omega, fun k hk => by
    rw [hg.block k (by rw [alloc_size]; omega) (fun h => by cases h)]
    exact Below.heap_alloc w o k hk⟩⟩
theorem cat_two (x y : List Nat) : cat (fun k => if k = 0 then x else y) 2 = x ++ y := by simp [cat, List.range_succ]
theorem two_rows (w : World) (a0 a1 : Option Addr) (c0 c1 : Nat) (x y : List Nat) (h0 : Sl w a0 c0 x) (h1 : Sl w a1 c1 y) (hx : x.length ≤ 500000) (hy : y.length ≤ 500000) :
    Rows2 (w.alloc (.cells #[.slice a0 x.length c0, .slice a1 y.length c1] 22)) w.heap.size (fun k => if k = 0 then a0 else a1) (fun k => if k = 0 then c0 else c1) (fun k => if k = 0 then x else y) := by
  have hb : Below w.heap.size w (w.alloc (.cells #[.slice a0 x.length c0, .slice a1 y.length c1] 22)) := (Below.refl _ w).alloc (Nat.le_refl _) _
  refine ⟨fun k hk => ?_, fun k hk => ?_, fun k hk => ?_⟩
  · rw [World.cell?_alloc_at _ _ _ _ rfl]
    have : k = 0 ∨ k = 1 := by omega
    rcases this with rfl | rfl <;> rfl
  · have : k = 0 ∨ k = 1 := by omega
    rcases this with rfl | rfl
    · exact h0.below hb
    · exact h1.below hb
  · have : k = 0 ∨ k = 1 := by omega
    rcases this with rfl | rfl
    · exact hx
    · exact hy
/-- What Put answers. -/
def putL (xs : List Nat) (r : Int) : List Nat := if Lib.validRune r then xs ++ enc r.toNat else xs
def PutTo (xs : List Nat) (r : Int) (w : World) (e : Ending) (w' : World) : Prop := ∃ ao c, e = .returned (.tuple #[.slice ao (putL xs r).length c, .bool (Lib.validRune r)]) ∧ Sl w' ao c (putL xs r) ∧ Below w.heap.size w w' ∧ ∀ ad, ao = some ad → w.heap.size ≤ ad.block
theorem sign_of {r : Int} (h : Lib.validRune r = true) : ∃ v : Nat, r = (v : Int) ∧ isSign v := by
  unfold Lib.validRune at h
  have := of_decide_eq_true h
  exact ⟨r.toNat, by omega, by unfold isSign; omega⟩
theorem vrune_any (r : Int) (w : World) : Calls Tryd.prog 33 #[.int .i32 r] w fun e w' => e = .returned (.bool (Lib.validRune r)) ∧ w' = w :=
  Any.utf8_ValidRune lvrune r w

set_option maxHeartbeats 1600000 in
theorem Put_any (ao : Option Addr) (c : Nat) (xs : List Nat) (r : Int) (w : World) (h : Sl w ao c xs) (hm : xs.length ≤ 400000) :
    Calls Tryd.prog 15 #[.slice ao xs.length c, .int .i32 r] w (PutTo xs r w) := by
  have HS := Lib.hid h
  have KV := Lib.hid (vrune_any r w)
  clear h
  cases hv : Lib.validRune r with
  | false =>
    have HP : Hid (putL xs r = xs) := Lib.hid (by unfold putL; rw [hv]; rfl)
    unfold PutTo
    rw [HP.out]
    rw [hv] at KV ⊢
    have KC := Lib.hid (clone_any ao c xs w HS.out (by omega))
    clear hv
    go_enter Tryd.func15, Tryd.ntmps15
    go_wp2_with (first
      | (go_at_call 33; (with_reducible refine KV.out.mono ?_); rintro e w1 ⟨rfl, rfl⟩)
      | (go_at_call 34; (with_reducible refine KC.out.mono ?_); rintro e w2 ⟨a2, c2, rfl, hf, hb⟩; have HF := Lib.hid hf; have HB := Lib.hid hb; clear hf hb))
    go_ret2
    exact ⟨a2, c2, rfl, HF.out.1, HB.out, HF.out.2⟩
  | true =>
    obtain ⟨v, rfl, hs⟩ := sign_of hv
    have HP : Hid (putL xs (v : Int) = xs ++ enc v) := Lib.hid (by unfold putL; rw [hv]; rfl)
    unfold PutTo
    rw [HP.out]
    rw [hv] at KV ⊢
    have KR := Lib.hid (rune_any v hs w)
    have hel := enc_le v
    have hep := enc_pos v
    have heb := enc_byte hs.1
    obtain ⟨E, hE⟩ : ∃ E, E = enc v := ⟨_, rfl⟩
    rw [← hE] at KR hel hep heb ⊢
    have HEB := Lib.hid heb
    clear hv hE HP heb
    go_enter Tryd.func15, Tryd.ntmps15
    go_wp2_with (first
      | (go_at_call 33; (with_reducible refine KV.out.mono ?_); rintro e w1 ⟨rfl, rfl⟩)
      | (go_at_call 36; (with_reducible refine KR.out.mono ?_); rintro e w2 ⟨a2, c2, rfl, ho, hb⟩; have HO := Lib.hid (own_sl ho HEB.out); have HB := Lib.hid hb; clear ho hb))
    have HB3 := Lib.hid (HB.out.alloc HB.out.size (.cells #[.slice ao xs.length c, .slice a2 E.length c2] 22))
    have HR := Lib.hid (two_rows w2 ao a2 c c2 xs E (HS.out.below HB.out) HO.out (by omega) (by omega))
    have KC := concat_any _ _ _ _ _ HR.out (by rw [cat_two]; simp; omega)
    rw [cat_two] at KC
    have KC := Lib.hid KC
    have hbs := Lib.hid (show Bs (xs ++ E) from HS.out.bs.app HEB.out)
    clear HR
    go_wp2_with (go_at_call 35; (with_reducible refine KC.out.mono ?_); rintro e w3 ⟨a3, c3, rfl, ho, hb⟩; have HO3 := Lib.hid (own_sl ho hbs.out); have HOW := Lib.hid ho; have HB4 := Lib.hid (HB3.out.trans (hb.mono HB3.out.size)); clear ho hb)
    go_ret2
    exact ⟨a3, c3, by rw [List.length_append]; rfl, HO3.out, HB4.out, fun ad he => by
      subst he
      exact Nat.le_trans HB3.out.size (HOW.out.lt ad.block rfl).1⟩
end Go.Proofs.YtmnkdnlmpgmdgaaDoor
