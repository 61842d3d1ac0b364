/-
  The law's own first look; bytes copied.
-/
import Derived.Test.YtmnkdnlmpgmdgaaDoorUj
import Derived.Laws.BytesArg
import Derived.Laws.IdiomStrings
namespace Go.Proofs.YtmnkdnlmpgmdgaaDoor
open Go.RowKit U
set_option maxRecDepth 100000

def txt (xs : List Nat) : ByteArray := ⟨(u8L xs).toArray⟩
theorem conv_txt {w : World} {na : Option Addr} {c : Nat} {xs : List Nat} (h : Sl w na c xs) : (convert 22 9 (.slice na xs.length c)).run Tryd.prog w = .ok (.string (txt xs)) w := by
  rcases h.src with h0 | ⟨b, off, rfl, hc⟩
  · subst h0
    cases na with
    | none => exact run_convert_bytes_nil w 22 5 Tryd.underlying22 Tryd.underlying5 _ _ 9 Tryd.underlying9
    | some a => exact run_convert_bytes_back w 22 9 5 a c [] Tryd.underlying22 Tryd.underlying5 Tryd.underlying9 (fun j hj => absurd hj (by simp))
  · have := run_convert_bytes_arg w 22 5 Tryd.underlying22 Tryd.underlying5 b off xs.length c (ints xs) (ints_len xs) (fun i hi => by rw [ints_at]; exact hc i hi) 9 Tryd.underlying9
    rw [this]
    congr 2
    simp [strOfNums, ints, txt, u8L]
theorem al_1 : nxF [226, 130, 172] 0 = (8364, 3) := by decide +kernel
theorem al_2 : putL [1] 8364 = [1, 226, 130, 172] := by decide +kernel
theorem al_3 : putL [] 55296 = [] := by decide +kernel
theorem al_4 : alA charP [97, 98, 0] = (2, false) := by decide +kernel
theorem al_5 : nameP (bts ⟨#[97, 45, 49]⟩) = true := by decide +kernel
theorem al_6 : nameP (bts ⟨#[49, 97]⟩) = false := by decide +kernel
theorem al_7 : lin false [97, 13, 10, 13] = [97, 10, 10] := by decide +kernel
theorem al_8 : stripP [239, 187, 191, 120] = [120] := by decide +kernel
theorem al_9 : wth charL 9 = true := by decide +kernel
theorem al_10 : wth blankL 10 = true := by decide +kernel
theorem al_v1 : Lib.validRune 8364 = true := by decide +kernel
theorem al_v2 : Lib.validRune 55296 = false := by decide +kernel

theorem lit_below (W : World) (o : Obj) : Below W.heap.size W (W.alloc o) := (Below.refl _ W).alloc (Nat.le_refl _) _
theorem A1 (W : World) (hT : TU W) : Calls Tryd.prog 10 #[.slice (some ⟨W.heap.size, 0, none⟩) 3 3, .int .i64 0] (W.alloc (.cells #[.int .u8 226, .int .u8 130, .int .u8 172] 5)) fun e w' => e = .returned (.tuple #[.int .i32 8364, .int .i64 3]) ∧ Below W.heap.size W w' := by
  have b := lit_below W (.cells #[.int .u8 226, .int .u8 130, .int .u8 172] 5)
  have K := Next_any (some ⟨W.heap.size, 0, none⟩) 3 [226, 130, 172] 0 _ (sl_text W [226, 130, 172] _ 3 _ (0, 0) rfl rfl rfl (fun x hx => by simp at hx; omega) (by decide)) (hT.grow b)
  rw [al_1] at K
  exact K.mono fun e w' ⟨he, hb⟩ => ⟨he, b.trans (hb.mono b.size)⟩
theorem A2 (W : World) : Calls Tryd.prog 15 #[.slice (some ⟨W.heap.size, 0, none⟩) 1 1, .int .i32 8364] (W.alloc (.cells #[.int .u8 1] 5)) fun e w' => ∃ a c, e = .returned (.tuple #[.slice a 4 c, .bool true]) ∧ Sl w' a c [1, 226, 130, 172] ∧ Below W.heap.size W w' := by
  have b := lit_below W (.cells #[.int .u8 1] 5)
  have K := Put_any (some ⟨W.heap.size, 0, none⟩) 1 [1] 8364 _ (sl_text W [1] _ 1 _ (0, 0) rfl rfl rfl (fun x hx => by simp at hx; omega) (by decide)) (by decide)
  unfold PutTo at K
  rw [al_2, al_v1] at K
  exact K.mono fun e w' ⟨a, c, he, hs, hb, _⟩ => ⟨a, c, he, hs, b.trans (hb.mono b.size)⟩
theorem A3 (W : World) : Calls Tryd.prog 15 #[.slice none 0 0, .int .i32 55296] W fun e w' => ∃ a c, e = .returned (.tuple #[.slice a 0 c, .bool false]) ∧ Below W.heap.size W w' := by
  have K := Put_any none 0 [] 55296 W (Sl.none_ W) (by decide)
  unfold PutTo at K
  rw [al_3, al_v2] at K
  exact K.mono fun e w' ⟨a, c, he, hs, hb, _⟩ => ⟨a, c, he, hb⟩
theorem A4 (W : World) (hT : TU W) : Calls Tryd.prog 12 #[.slice (some ⟨W.heap.size, 0, none⟩) 3 3] (W.alloc (.cells #[.int .u8 97, .int .u8 98, .int .u8 0] 5 (3, 4))) fun e w' => e = .returned (.tuple #[.int .i64 2, .bool false]) ∧ Below W.heap.size W w' := by
  have b := lit_below W (.cells #[.int .u8 97, .int .u8 98, .int .u8 0] 5 (3, 4))
  have K := Check_any (some ⟨W.heap.size, 0, none⟩) 3 [97, 98, 0] _ (sl_text W [97, 98, 0] _ 3 _ (3, 4) rfl rfl rfl (fun x hx => by simp at hx; omega) (by decide)) (by decide) (hT.grow b)
  rw [al_4] at K
  exact K.mono fun e w' ⟨he, hb⟩ => ⟨he, b.trans (hb.mono b.size)⟩
theorem A5 (W : World) (a : Option Addr) (c : Nat) (h : Sl W a c [1, 226, 130, 172]) : Calls Tryd.prog 14 #[.slice a 4 c, .slice (some ⟨W.heap.size, 0, none⟩) 4 4] (W.alloc (.cells #[.int .u8 1, .int .u8 226, .int .u8 130, .int .u8 172] 5)) fun e w' => e = .returned (.bool true) ∧ Below W.heap.size W w' := by
  have b := lit_below W (.cells #[.int .u8 1, .int .u8 226, .int .u8 130, .int .u8 172] 5)
  have K := same_eq a (some ⟨W.heap.size, 0, none⟩) c 4 [1, 226, 130, 172] _ (h.below b) (sl_text W [1, 226, 130, 172] _ 4 _ (0, 0) rfl rfl rfl (fun x hx => by simp at hx; omega) (by decide))
  exact K.mono fun e w' ⟨he, q, hq⟩ => ⟨he, by rw [hq]; exact below_drewN b q⟩
theorem A6 (W : World) (hT : TU W) : Calls Tryd.prog 26 #[.string ⟨#[97, 45, 49]⟩] W fun e w' => e = .returned (.bool true) ∧ Below W.heap.size W w' := by
  have K := Name_any ⟨#[97, 45, 49]⟩ W (by decide) hT
  rwa [al_5] at K
theorem A6b (W : World) (hT : TU W) : Calls Tryd.prog 26 #[.string ⟨#[49, 97]⟩] W fun e w' => e = .returned (.bool false) ∧ Below W.heap.size W w' := by
  have K := Name_any ⟨#[49, 97]⟩ W (by decide) hT
  rwa [al_6] at K
theorem A7 (W : World) (hT : TU W) : Calls Tryd.prog 28 #[.slice (some ⟨W.heap.size, 0, none⟩) 4 4] (W.alloc (.cells #[.int .u8 97, .int .u8 13, .int .u8 10, .int .u8 13] 5 (4, 5))) fun e w' => ∃ a c, e = .returned (.slice a 3 c) ∧ (convert 22 9 (.slice a 3 c)).run Tryd.prog w' = .ok (.string ⟨#[97, 10, 10]⟩) w' ∧ Below W.heap.size W w' := by
  have b := lit_below W (.cells #[.int .u8 97, .int .u8 13, .int .u8 10, .int .u8 13] 5 (4, 5))
  have K := Lines_any (some ⟨W.heap.size, 0, none⟩) 4 [97, 13, 10, 13] _ (sl_text W [97, 13, 10, 13] _ 4 _ (4, 5) rfl rfl rfl (fun x hx => by simp at hx; omega) (by decide)) (by decide) (hT.grow b)
  rw [al_7] at K
  exact K.mono fun e w' ⟨a, c, he, hs, hb⟩ => ⟨a, c, he, conv_txt hs, b.trans (hb.mono b.size)⟩
theorem A8 (W : World) : Calls Tryd.prog 30 #[.slice (some ⟨W.heap.size, 0, none⟩) 4 4] (W.alloc (.cells #[.int .u8 239, .int .u8 187, .int .u8 191, .int .u8 120] 5 (4, 5))) fun e w' => ∃ a c, e = .returned (.slice a 1 c) ∧ (convert 22 9 (.slice a 1 c)).run Tryd.prog w' = .ok (.string ⟨#[120]⟩) w' ∧ Below W.heap.size W w' := by
  have b := lit_below W (.cells #[.int .u8 239, .int .u8 187, .int .u8 191, .int .u8 120] 5 (4, 5))
  have K := Strip_any (some ⟨W.heap.size, 0, none⟩) 4 [239, 187, 191, 120] _ (sl_text W [239, 187, 191, 120] _ 4 _ (4, 5) rfl rfl rfl (fun x hx => by simp at hx; omega) (by decide)) (by decide)
  rw [al_8] at K
  exact K.mono fun e w' ⟨a, c, he, hs, hb⟩ => ⟨a, c, he, conv_txt hs, b.trans (hb.mono b.size)⟩
theorem A9 (W : World) : Calls Tryd.prog 18 #[.int .i32 9] W fun e w' => e = .returned (.bool true) ∧ Below W.heap.size W w' := by
  have K := Char_any 9 W
  rwa [al_9] at K
theorem A10 (W : World) : Calls Tryd.prog 20 #[.int .i32 10] W fun e w' => e = .returned (.bool true) ∧ Below W.heap.size W w' := by
  have K := Blank_any 10 W
  rwa [al_10] at K

set_option maxHeartbeats 3200000 in
theorem alive_any (w : World) (hT : TU w) : Calls Tryd.prog 8 #[] w fun e w' => e = .returned (.bool true) ∧ Below w.heap.size w w' := by
  have hc := fun (w : World) (C : Array Value) (n c : Nat) => Lib.run_convert_bytes_const (P := Tryd.prog) w 22 5 C n c Tryd.underlying22 Tryd.underlying5
  have HT := Lib.hid hT
  clear hT
  go_enter Tryd.func8, Tryd.ntmps8
  go_wp2_with (first
    | (go_at_call 10; (with_reducible refine (A1 w HT.out).mono ?_); rintro e w1 ⟨rfl, hb⟩; have HB1 := Lib.hid hb; clear hb)
    | (go_at_call 15; (with_reducible refine (A2 w1).mono ?_); rintro e w2 ⟨a2, c2, rfl, hs, hb⟩; have HB2 := Lib.hid (HB1.out.trans (hb.mono HB1.out.size)); have HS2 := Lib.hid hs; clear hb hs)
    | (go_at_call 15; (with_reducible refine (A3 w2).mono ?_); rintro e w3 ⟨a3, c3, rfl, hb⟩; have HB3 := Lib.hid (HB2.out.trans (hb.mono HB2.out.size)); have HS3 := Lib.hid (HS2.out.below hb); clear hb)
    | (go_at_call 12; (with_reducible refine (A4 w3 (HT.out.grow HB3.out)).mono ?_); rintro e w4 ⟨rfl, hb⟩; have HB4 := Lib.hid (HB3.out.trans (hb.mono HB3.out.size)); have HS4 := Lib.hid (HS3.out.below hb); clear hb)
    | (go_at_call 14; (with_reducible refine (A5 w4 a2 c2 HS4.out).mono ?_); rintro e w5 ⟨rfl, hb⟩; have HB5 := Lib.hid (HB4.out.trans (hb.mono HB4.out.size)); clear hb)
    | (go_at_call 26; (with_reducible refine (A6 w5 (HT.out.grow HB5.out)).mono ?_); rintro e w6 ⟨rfl, hb⟩; have HB6 := Lib.hid (HB5.out.trans (hb.mono HB5.out.size)); clear hb)
    | (go_at_call 26; (with_reducible refine (A6b w6 (HT.out.grow HB6.out)).mono ?_); rintro e w7 ⟨rfl, hb⟩; have HB7 := Lib.hid (HB6.out.trans (hb.mono HB6.out.size)); clear hb)
    | (go_at_call 28; (with_reducible refine (A7 w7 (HT.out.grow HB7.out)).mono ?_); rintro e w8 ⟨a8, c8, rfl, hcv8, hb⟩; have HB8 := Lib.hid (HB7.out.trans (hb.mono HB7.out.size)); clear hb)
    | (go_at_call 30; (with_reducible refine (A8 w8).mono ?_); rintro e w9 ⟨a9, c9, rfl, hcv9, hb⟩; have HB9 := Lib.hid (HB8.out.trans (hb.mono HB8.out.size)); clear hb)
    | (go_at_call 18; (with_reducible refine (A9 w9).mono ?_); rintro e w10 ⟨rfl, hb⟩; have HB10 := Lib.hid (HB9.out.trans (hb.mono HB9.out.size)); clear hb)
    | (go_at_call 20; (with_reducible refine (A10 w10).mono ?_); rintro e w11 ⟨rfl, hb⟩; have HB11 := Lib.hid (HB10.out.trans (hb.mono HB10.out.size)); clear hb))
  go_ret
  exact ⟨rfl, HB11.out⟩
end Go.Proofs.YtmnkdnlmpgmdgaaDoor
