/-
  givesWay: is a copy put off?
-/
import Derived.Test.YtjjjchdocnoabaaDoorGw
namespace Go.Proofs.YtjjjchdocnoabaaDoor
open Go.RowKit Go.Maps
set_option maxRecDepth 100000

/-- A call that makes memory at most, in whatever world behind draws. -/
theorem any_below {P : Program} {f : Nat} {args : Array Value} {w : World} {E : Ending → Prop} (h : ∀ q, Calls P f args (w.drewN q) fun e w' => E e ∧ Below (w.drewN q).heap.size (w.drewN q) w') :
    ∀ W, (∃ q, W = w.drewN q) → Calls P f args W fun e w' => E e ∧ Below w.heap.size w w' := fun W hW => by
  obtain ⟨q, rfl⟩ := hW
  refine (h q).mono ?_
  rintro e w' ⟨h1, h2⟩
  exact ⟨h1, bel_on (below_drewN (Below.refl _ _) q) h2⟩

set_option maxHeartbeats 1600000 in
theorem givesWay_any (p mb ab pl wt l L D : Nat) (v : Value) (bs : List Nat) (cop : Bool) (B at_ : Nat) (w : World) (h : Fin w B p mb ab pl wt v bs cop (kp bs (at_ + 1))) (hb : Bs bs) (hl : bs.length ≤ 30000) (ha : 0 < L → at_ + 1 < bs.length) (hal : at_ ≤ 30000) (hL : L ≤ 258) :
    Calls Tryd.prog 23 #[.pointer (some ⟨p, 0, none⟩), .int .i64 at_, tv ⟨l, L, D⟩] w fun e w' => (∃ c : Bool, e = .returned (.bool c) ∧ (c = true → cop = true)) ∧ Below w.heap.size w w' := by
  obtain ⟨W1, hW1⟩ : ∃ W1, W1 = w.alloc (.cells #[.int .u8 (l : Nat), .int .i64 (L : Nat), .int .i64 (D : Nat)] 34) := ⟨_, rfl⟩
  have hb1 : Below w.heap.size w W1 := by rw [hW1]; exact (Below.refl _ _).alloc (Nat.le_refl _) _
  have F1 := h.grow hb1
  obtain ⟨bx, hbx⟩ : ∃ bx, bx = w.heap.size := ⟨_, rfl⟩
  have x1 : W1.cell? ⟨bx, 1, none⟩ = some (.int .i64 (L : Nat)) := by rw [hW1, hbx, (Blk.made w 34 _).cell]; rfl
  have c1 := (F1.blk.cell 1).trans (show _ = some (Value.int .i64 (wt : Nat)) from rfl)
  have c5 := (F1.blk.cell 5).trans (show _ = some (Value.bool cop) from rfl)
  have HB1 := Lib.hid hb1
  by_cases hc : cop = true
  · subst hc
    by_cases h0 : 0 < L
    · by_cases h1 : L < wt
      · refine (gives_yes p bx wt l L D at_ (at_ + 1) w W1 hW1 hbx (Lib.hid fun W hW => ⟨hW.cell (World.block_lt_of_cell? _ _ c5) |>.trans c5, hW.cell (World.block_lt_of_cell? _ _ c1) |>.trans c1, hW.cell (World.block_lt_of_cell? _ _ x1) |>.trans x1⟩)
          (Lib.hid fun W hW => (any_below (fun q => tokenAt_any p mb ab pl wt v bs true B (at_ + 1) (W1.drewN q) (F1.drewN q) hb hl (ha h0)) W hW).mono ?_) (Lib.hid fun W hW => bel_on hb1 hW) (by rw [IntKind.wrap_i64]; omega) (by omega) (by omega) h0).mono ?_
        · rintro e w' ⟨⟨t, rfl, ht⟩, hbb⟩
          refine ⟨⟨t, rfl, ?_⟩, hbb⟩
          rcases ht.is with rfl | ⟨_, _, h3, _⟩
          · exact Nat.zero_le _
          · exact h3
        · rintro e w' ⟨⟨c, rfl⟩, hbb⟩
          exact ⟨⟨c, rfl, fun _ => rfl⟩, hbb⟩
      · have h0' : (0 : Int) < L := by omega
        have h1' : decide ((L : Int) < wt) = false := by simp; omega
        have h1'' : decide (L < wt) = false := by simp; omega
        clear h hb1 F1 hb hl ha
        go_enter Tryd.func23, Tryd.ntmps23
        go_wp2
        rw [← hW1, ← hbx]
        clear hW1 hbx
        go_quiet (fail)
        go_wp2
        go_ret
        exact ⟨⟨false, rfl, by simp⟩, below_drewN HB1.out _⟩
    · have hL0 : decide ((0 : Int) < L) = false := by simp; omega
      have hL0' : decide (0 < L) = false := by simp; omega
      clear h hb1 F1 hb hl ha
      go_enter Tryd.func23, Tryd.ntmps23
      go_wp2
      rw [← hW1, ← hbx]
      clear hW1 hbx
      go_quiet (fail)
      go_wp2
      go_ret
      exact ⟨⟨false, rfl, by simp⟩, below_drewN HB1.out _⟩
  · obtain rfl : cop = false := by cases cop; rfl; exact absurd rfl hc
    clear h hb1 F1 hb hl ha
    go_enter Tryd.func23, Tryd.ntmps23
    go_wp2
    rw [← hW1, ← hbx]
    clear hW1 hbx
    go_quiet (fail)
    go_wp2
    go_ret
    exact ⟨⟨false, rfl, id⟩, below_drewN HB1.out _⟩
end Go.Proofs.YtjjjchdocnoabaaDoor
