/-
  Contracts of a reader's other calls.
-/
import Derived.Test.YtjbjjnfhklpffaaC
namespace Go.Proofs.Ytjbjjnfhklpffaa
open Go.RowKit

/-- Only block p may have changed; there stands an object with the number m. -/
def Moved (w : World) (base t p : Nat) (g : Option Nat) (bs : List Nat) (m : Nat) (w' : World) : Prop :=
  Ob w' base t p g bs m ∧ Touch (fun k => k = p) w w'

theorem Moved.mk' {w : World} {base t p : Nat} {g : Option Nat} {bs : List Nat} {n : Nat} (h : Ob w base t p g bs n) (nq m : Nat) {x : Int} (hx : x = (m : Int)) :
    Moved w base t p g bs m ((w.drewN nq).setCell ⟨p, 1, none⟩ (.int .i64 x)) := by
  subst hx
  exact ⟨(h.drewN nq).set1 m, ((Touch.refl _ w).drewN nq).setCell _ _ (.inl rfl)⟩

theorem Ob.left {w : World} {base p : Nat} {g : Option Nat} {bs : List Nat} {at_ : Nat} (h : Ob w base 59 p g bs at_) (hl : bs.length ≤ 1000000000) (ha : at_ ≤ 8 * bs.length) :
    Calls Try.prog 18 #[.pointer (some ⟨p, 0, none⟩)] w fun e w' => e = .returned (.int .i64 (8 * bs.length - at_)) ∧ ∃ nq, w' = w.drewN nq := by
  rcases h.see with ⟨s, rfl, rfl⟩ | ⟨g0, cap, s, rfl, hc, hm⟩
  · exact left_walk p at_ none 0 0 w (by omega) (by omega) (by simp at ha; omega) s.c0 s.c1
  · exact left_walk p at_ _ bs.length cap w hl (by omega) (by omega) s.c0 s.c1

theorem Ob.at {w : World} {base t p : Nat} {g : Option Nat} {bs : List Nat} {at_ : Nat} (h : Ob w base t p g bs at_) :
    Calls Try.prog 17 #[.pointer (some ⟨p, 0, none⟩)] w fun e w' => e = .returned (.int .i64 at_) ∧ w = w' := by
  obtain ⟨sv, h1, _⟩ := h.blk
  exact at_walk p at_ w (two_cell h1).2.1

theorem Ob.wlen {w : World} {base t p : Nat} {g : Option Nat} {bs : List Nat} {at_ : Nat} (h : Ob w base t p g bs at_) :
    Calls Try.prog 27 #[.pointer (some ⟨p, 0, none⟩)] w fun e w' => e = .returned (.int .i64 at_) ∧ w = w' := by
  obtain ⟨sv, h1, _⟩ := h.blk
  exact len_walk p at_ w (two_cell h1).2.1

theorem Ob.skip_yes {w : World} {base p : Nat} {g : Option Nat} {bs : List Nat} {at_ : Nat} (h : Ob w base 59 p g bs at_) (hl : bs.length ≤ 1000000000) (n : Nat) (hn : at_ + n ≤ 8 * bs.length) :
    Calls Try.prog 13 #[.pointer (some ⟨p, 0, none⟩), .int .i64 n] w fun e w' => e = .returned (.bool true) ∧ Moved w base 59 p g bs (at_ + n) w' := by
  rcases h.see with ⟨s, rfl, rfl⟩ | ⟨g0, cap, s, rfl, hc, hm⟩
  · simp only [List.length_nil] at hn
    exact (Ytjbjjnfhklpffaa.skip_yes p n at_ none 0 0 w (by omega) (by omega) (by omega) (by omega) s.c0 s.c1 s.f1).mono fun e w' ⟨he, nq, hw⟩ => ⟨he, hw ▸ Moved.mk' h nq _ (by omega)⟩
  · exact (Ytjbjjnfhklpffaa.skip_yes p n at_ _ bs.length cap w hl (by omega) (by omega) (by omega) s.c0 s.c1 s.f1).mono fun e w' ⟨he, nq, hw⟩ => ⟨he, hw ▸ Moved.mk' h nq _ (by omega)⟩

theorem Ob.skip_no {w : World} {base p : Nat} {g : Option Nat} {bs : List Nat} {at_ : Nat} (h : Ob w base 59 p g bs at_) (hl : bs.length ≤ 1000000000) (ha : at_ ≤ 8 * bs.length) (n : Int) (hn : n < 0 ∨ 8 * (bs.length : Int) - at_ < n) :
    Calls Try.prog 13 #[.pointer (some ⟨p, 0, none⟩), .int .i64 n] w fun e w' => e = .returned (.bool false) ∧ ∃ nq, w' = w.drewN nq := by
  rcases h.see with ⟨s, rfl, rfl⟩ | ⟨g0, cap, s, rfl, hc, hm⟩
  · simp only [List.length_nil] at hn ha
    exact Ytjbjjnfhklpffaa.skip_no p n at_ none 0 0 w (by omega) (by omega) (by omega) (by omega) s.c0 s.c1
  · exact Ytjbjjnfhklpffaa.skip_no p n at_ _ bs.length cap w hl (by omega) (by omega) (by omega) s.c0 s.c1

theorem Ob.bits_yes {w : World} {base p : Nat} {g : Option Nat} {bs : List Nat} {at_ : Nat} (h : Ob w base 59 p g bs at_) (hl : bs.length ≤ 1000000000) (n : Nat) (hn32 : n ≤ 32) (hn : at_ + n ≤ 8 * bs.length) :
    Calls Try.prog 11 #[.pointer (some ⟨p, 0, none⟩), .int .i64 n] w fun e w' => e = .returned (.tuple #[.int .u32 ((pk bs at_ n : Nat) : Int), .bool true]) ∧ Moved w base 59 p g bs (at_ + n) w' := by
  have H := Lib.hid h
  clear h
  go_enter Try.func11, Try.ntmps11
  go_wp2_with (first
    | (go_at_call 19; refine (H.out.peek hl (by omega) n hn32).mono ?_; rintro e w' ⟨rfl, rfl⟩)
    | (go_at_call 13; refine (H.out.skip_yes hl n hn).mono ?_; rintro e w' ⟨rfl, hm⟩))
  go_ret2
  exact ⟨rfl, hm⟩

theorem Ob.bits_no {w : World} {base p : Nat} {g : Option Nat} {bs : List Nat} {at_ : Nat} (h : Ob w base 59 p g bs at_) (hl : bs.length ≤ 1000000000) (ha : at_ ≤ 8 * bs.length) (n : Int) (hn : n < 0 ∨ 32 < n ∨ 8 * (bs.length : Int) - at_ < n) :
    Calls Try.prog 11 #[.pointer (some ⟨p, 0, none⟩), .int .i64 n] w fun e w' => e = .returned (.tuple #[.int .u32 0, .bool false]) ∧ ∃ nq, w' = w.drewN nq := by
  have H := Lib.hid h
  clear h
  by_cases h32 : 32 < n
  · go_enter Try.func11, Try.ntmps11
    go_wp2
    go_ret2
    exact ⟨rfl, 0, rfl⟩
  · by_cases h0 : n < 0
    · go_enter Try.func11, Try.ntmps11
      go_wp2_with (first
        | (go_at_call 19; refine (peek_no p n _ (.inl h0)).mono ?_; rintro e w' ⟨rfl, rfl⟩)
        | (go_at_call 13; refine (H.out.skip_no hl ha n (.inl h0)).mono ?_; rintro e w' ⟨rfl, nq, rfl⟩))
      go_ret2
      exact ⟨rfl, _, rfl⟩
    · obtain ⟨m, rfl⟩ := Int.eq_ofNat_of_zero_le (show 0 ≤ n by omega)
      have hbad : 8 * (bs.length : Int) - at_ < m := by omega
      clear hn
      go_enter Try.func11, Try.ntmps11
      go_wp2_with (first
        | (go_at_call 19; refine (H.out.peek hl ha m (by omega)).mono ?_; rintro e w' ⟨rfl, rfl⟩)
        | (go_at_call 13; refine (H.out.skip_no hl ha m (.inr hbad)).mono ?_; rintro e w' ⟨rfl, nq, rfl⟩))
      go_ret2
      exact ⟨rfl, _, rfl⟩

/-- The next multiple of 8. -/
def up8 (n : Nat) : Nat := (n + 7) / 8 * 8

theorem Ob.ralign {w : World} {base p : Nat} {g : Option Nat} {bs : List Nat} {at_ : Nat} (h : Ob w base 59 p g bs at_) (ha : at_ ≤ 10000000000) :
    Calls Try.prog 14 #[.pointer (some ⟨p, 0, none⟩)] w fun e w' => e = .returned (.tuple #[]) ∧ Moved w base 59 p g bs (up8 at_) w' := by
  obtain ⟨sv, h1, _⟩ := h.blk
  obtain ⟨c0, c1, f0, f1⟩ := two_cell h1
  have HM := Lib.hid (Moved.mk' h 0 (up8 at_) (x := ((at_ : Int) + 7) / 8 * 8) (by unfold up8; omega))
  clear h1 h
  go_enter Try.func14, Try.ntmps14
  go_wp2_with (go_at_call 33; refine (bytesFor_any at_ _ (by omega) (by omega)).mono ?_; rintro e w' ⟨rfl, rfl⟩)
  go_end0
  exact ⟨rfl, HM.out⟩

end Go.Proofs.Ytjbjjnfhklpffaa
