/-
  The contract of a writer's Raw.
-/
import Derived.Test.YtjbjjnfhklpffaaH
namespace Go.Proofs.Ytjbjjnfhklpffaa
open Go.RowKit

set_option maxHeartbeats 400000 in
theorem Ob.wraw {w : World} {base p : Nat} {g : Option Nat} {bs : List Nat} {n : Nat} {sv : Value} {ys : List Nat} (h : Ob w base 63 p g bs n) (hs : BySl w sv ys) (hy : Bs ys) (hl : bs.length + ys.length ≤ 1000000000) :
    Calls Try.prog 25 #[.pointer (some ⟨p, 0, none⟩), sv] w fun e w' => e = .returned (.tuple #[]) ∧ Grew w base 63 p g (bs ++ ys) (8 * (bs ++ ys).length) w' := by
  obtain ⟨fv, h1, hg, h3⟩ := h.blk
  subst hg
  have hlt := h.lt.1
  have hbase := h.hp
  obtain ⟨ao, c, rfl⟩ := own_shape h3
  obtain ⟨c0, c1, f0, f1⟩ := two_cell h1
  have HB := Lib.hid h1
  have H := Lib.hid h
  have HS := Lib.hid hs
  have HY := Lib.hid hy
  have HO := Lib.hid h3
  clear h1 h hs hy h3
  go_enter Try.func25, Try.ntmps25
  go_wp2_with (at_builtin; refine wpList_append_x rfl (.tmp 8) (.tmp 9) rfl base (.slice ao bs.length c) sv bs ys rfl rfl HO.out HS.out (by omega) (by omega) ?c1)
  case c1 =>
    intro ao' c' w1 hA
    have hG := grew_of H.out hA (H.out.hb.app HY.out) HB.out
    obtain ⟨d0, d1, e0, e1⟩ := two_cell hG.1
    have hG2 := hG.2
    obtain ⟨g1, ho, ht, hr⟩ := hG2
    have HO1 := Lib.hid ho
    have HT1 := Lib.hid ht
    have HR1 := Lib.hid hr
    clear hG hA ho ht hr
    go_wp2_with (go_at_call 23; refine (HO1.out.walign (by rw [List.length_append]; exact hl)).mono ?_; rintro e w' ⟨rfl, hm⟩)
    go_end0
    exact ⟨rfl, Grew.on HO1.out HT1.out HR1.out hm.grew⟩

end Go.Proofs.Ytjbjjnfhklpffaa
