
/-
  Contracts of a reader's other calls.
-/
import Derived.Test.YthgehgdbplbcfaaC
namespace Go.Proofs.Ythgehgdbplbcfaa
open Go.RowKit

/-- Only block p may have changed; there stands an object with the number m. -/
def Moved (w : World) (base t p : Nat) (g : Option Nat) (bs : List Nat) (m : Nat) (w' : World) : Prop :=
  Ob w' base t p g bs m ∧ Touch (fun k => k = p) w w'

theorem Moved.mk' {w : World} {base t p : Nat} {g : Option Nat} {bs : List Nat} {n : Nat} (h : Ob w base t p g bs n) (nq m : Nat) {x : Int} (hx : x = (m : Int)) :
    Moved w base t p g bs m ((w.drewN nq).setCell ⟨p, 1, none⟩ (.int .i64 x)) := by
  subst hx
  exact ⟨(h.drewN nq).set1 m, ((Touch.refl _ w).drewN nq).setCell _ _ (.inl rfl)⟩

theorem Ob.left {w : World} {base p : Nat} {g : Option Nat} {bs : List Nat} {at_ : Nat} (h : Ob w base 74 p g bs at_) (hl : bs.length ≤ 1000000000) (ha : at_ ≤ 8 * bs.length) :
    Calls Try.prog 34 #[.pointer (some ⟨p, 0, none⟩)] w fun e w' => e = .returned (.int .i64 (8 * bs.length - at_)) ∧ ∃ nq, w' = w.drewN nq := by
  rcases h.see with ⟨s, rfl, rfl⟩ | ⟨g0, cap, s, rfl, hc, hm⟩
  · exact left_walk p at_ none 0 0 w (by omega) (by omega) (by simp at ha; omega) s.c0 s.c1
  · exact left_walk p at_ _ bs.length cap w hl (by omega) (by omega) s.c0 s.c1

theorem Ob.at {w : World} {base t p : Nat} {g : Option Nat} {bs : List Nat} {at_ : Nat} (h : Ob w base t p g bs at_) :
    Calls Try.prog 23 #[.pointer (some ⟨p, 0, none⟩)] w fun e w' => e = .returned (.int .i64 at_) ∧ w = w' := by
  obtain ⟨sv, h1, _⟩ := h.blk
  exact at_walk p at_ w (two_cell h1).2.1

theorem Ob.wlen {w : World} {base t p : Nat} {g : Option Nat} {bs : List Nat} {at_ : Nat} (h : Ob w base t p g bs at_) :
    Calls Try.prog 27 #[.pointer (some ⟨p, 0, none⟩)] w fun e w' => e = .returned (.int .i64 at_) ∧ w = w' := by
  obtain ⟨sv, h1, _⟩ := h.blk
  exact len_walk p at_ w (two_cell h1).2.1

theorem Ob.skip_yes {w : World} {base p : Nat} {g : Option Nat} {bs : List Nat} {at_ : Nat} (h : Ob w base 74 p g bs at_) (hl : bs.length ≤ 1000000000) (n : Nat) (hn : at_ + n ≤ 8 * bs.length) :
    Calls Try.prog 20 #[.pointer (some ⟨p, 0, none⟩), .int .i64 n] w fun e w' => e = .returned (.bool true) ∧ Moved w base 74 p g bs (at_ + n) w' := by
  rcases h.see with ⟨s, rfl, rfl⟩ | ⟨g0, cap, s, rfl, hc, hm⟩
  · simp only [List.length_nil] at hn
    exact (Ythgehgdbplbcfaa.skip_yes p n at_ none 0 0 w (by omega) (by omega) (by omega) (by omega) s.c0 s.c1 s.f1).mono fun e w' ⟨he, nq, hw⟩ => ⟨he, hw ▸ Moved.mk' h nq _ (by omega)⟩
  · exact (Ythgehgdbplbcfaa.skip_yes p n at_ _ bs.length cap w hl (by omega) (by omega) (by omega) s.c0 s.c1 s.f1).mono fun e w' ⟨he, nq, hw⟩ => ⟨he, hw ▸ Moved.mk' h nq _ (by omega)⟩

theorem Ob.skip_no {w : World} {base p : Nat} {g : Option Nat} {bs : List Nat} {at_ : Nat} (h : Ob w base 74 p g bs at_) (hl : bs.length ≤ 1000000000) (ha : at_ ≤ 8 * bs.length) (n : Int) (hn : n < 0 ∨ 8 * (bs.length : Int) - at_ < n) :
    Calls Try.prog 20 #[.pointer (some ⟨p, 0, none⟩), .int .i64 n] w fun e w' => e = .returned (.bool false) ∧ ∃ nq, w' = w.drewN nq := by
  rcases h.see with ⟨s, rfl, rfl⟩ | ⟨g0, cap, s, rfl, hc, hm⟩
  · simp only [List.length_nil] at hn ha
    exact Ythgehgdbplbcfaa.skip_no p n at_ none 0 0 w (by omega) (by omega) (by omega) (by omega) s.c0 s.c1
  · exact Ythgehgdbplbcfaa.skip_no p n at_ _ bs.length cap w hl (by omega) (by omega) (by omega) s.c0 s.c1

/-- The next multiple of 8. -/
def up8 (n : Nat) : Nat := (n + 7) / 8 * 8

end Go.Proofs.Ythgehgdbplbcfaa
