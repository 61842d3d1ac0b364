/-
  keep: a place made known.
-/
import Derived.Test.YtjjjchdocnoabaaDoorFb
import Derived.Deep.RegionWith
namespace Go.Proofs.YtjjjchdocnoabaaDoor
open Go.RowKit Go.Maps
set_option maxRecDepth 100000

/-- A call that only draws, in whatever world behind draws. -/
theorem any_drew {P : Program} {f : Nat} {args : Array Value} {w : World} {E : Ending} (h : ∀ q, Calls P f args (w.drewN q) fun e w' => e = E ∧ ∃ m, w' = (w.drewN q).drewN m) :
    ∀ W, (∃ q, W = w.drewN q) → Calls P f args W fun e w' => e = E ∧ ∃ m, w' = w.drewN m := fun W hW => by
  obtain ⟨q, rfl⟩ := hW
  refine (h q).mono ?_
  rintro e w' ⟨rfl, m, rfl⟩
  exact ⟨rfl, _, World.drewN_drewN _ _ _⟩
/-- The blocks that keep changes. -/
abbrev Kps (mb ab : Nat) (k : Nat) : Prop := k = ab ∨ k = mb
theorem Fin.touch {S : Nat → Prop} {w w' : World} {B p mb ab pl wt : Nat} {bv : Value} {bs : List Nat} {cop : Bool} {n : Nat} (h : Fin w B p mb ab pl wt bv bs cop n) (ht : Touch S w w') (hp : ¬ S p) (hS : ∀ k, S k → B ≤ k) :
    Blk w' p 49 #[.int .i64 (pl : Nat), .int .i64 (wt : Nat), bv, .map (some mb), .slice (some ⟨ab, 0, none⟩) bs.length bs.length, .bool cop] ∧ BySl w' bv bs :=
  ⟨h.blk.touch ht hp, by_far h.by_ h.far.1 ht hS⟩
theorem Fin.ringSet {w : World} {B p mb ab pl wt : Nat} {bv : Value} {bs : List Nat} {cop : Bool} {n : Nat} (h : Fin w B p mb ab pl wt bv bs cop n) (y : Int) :
    Fin (w.setCell ⟨ab, n, none⟩ (.int .i64 y)) B p mb ab pl wt bv bs cop n ∧ Touch (Kps mb ab) w (w.setCell ⟨ab, n, none⟩ (.int .i64 y)) ∧
      ∃ g : Nat → Int, Blk (w.setCell ⟨ab, n, none⟩ (.int .i64 y)) ab 3 (va bs.length fun i => .int .i64 (g i)) ∧ (∀ q, q < n → g q = M.pv bs (M.key3 bs q) q) ∧ g n = y := by
  have ht : Touch (Kps mb ab) w (w.setCell ⟨ab, n, none⟩ (.int .i64 y)) := (Touch.refl _ w).setCell _ _ (.inl (.inl rfl))
  have hf := h.far
  obtain ⟨t1, t2⟩ := h.touch ht (by unfold Kps; omega) (fun k hk => by unfold Kps at hk; omega)
  obtain ⟨g, hg, hv⟩ := h.ring
  have hb : Blk (w.setCell ⟨ab, n, none⟩ (.int .i64 y)) ab 3 (va bs.length fun i => .int .i64 (if i = n then y else g i)) := by
    have := hg.setCell n (.int .i64 y)
    rw [va_set] at this
    rwa [va_congr (F := fun i => if i = n then Value.int .i64 y else .int .i64 (g i)) (G := fun i => .int .i64 (if i = n then y else g i)) fun i _ => by split <;> rfl] at this
  have hq : ∀ q, q < n → (if q = n then y else g q) = M.pv bs (M.key3 bs q) q := fun q hq => by rw [if_neg (by omega)]; exact hv q hq
  refine ⟨⟨t1, t2, ?_, ⟨_, hb, hq⟩, hf, h.nums⟩, ht, _, hb, hq, if_pos rfl⟩
  obtain ⟨D, ⟨es, clock, hk, F, hs, hD⟩, hM⟩ := h.map
  refine ⟨D, ⟨es, clock, ?_, F, hs, hD⟩, hM⟩
  exact (((Touch.refl (fun k => k = ab) w).setCell ⟨ab, n, none⟩ (.int .i64 y) (.inl rfl)).block mb (Array.getElem?_eq_some_iff.1 hk).1 (by show ¬ mb = ab; omega)).trans hk
/-- .. and the map's entry. -/
theorem Fin.mapSet {w : World} {B p mb ab pl wt : Nat} {bv : Value} {bs : List Nat} {cop : Bool} {n : Nat} (h : Fin w B p mb ab pl wt bv bs cop n) (hb : Bs bs) (hn : n ≤ 30000) (hr : ∃ g : Nat → Int, Blk w ab 3 (va bs.length fun i => .int .i64 (g i)) ∧ ∀ q, q < n + 1 → g q = M.pv bs (M.key3 bs q) q) :
    ∃ w', (Instr.mapUpdate 46 (.map (some mb)) (.int .u32 (M.key3 bs n : Nat)) (.int .i64 (n : Nat))).run Tryd.prog w = .ok () w' ∧ Fin w' B p mb ab pl wt bv bs cop (n + 1) ∧ Touch (Kps mb ab) w w' := by
  obtain ⟨D, hD, hM⟩ := h.map
  obtain ⟨w', hrun, hown, hg⟩ := hD.update law60 Tryd.underlying46 (by unfold maxLen; omega) (keyOf_int_mk Tryd.underlying60 (wf_u32 (M.key3_lt hb n))) (plainElem_int Tryd.underlying3 (WalkArith.wf_i64 (n := (n : Int)) ⟨by omega, by omega⟩))
  have ht : Touch (Kps mb ab) w w' := (Touch.refl _ w).grown hg fun k hk => by cases hk; exact .inl (.inr rfl)
  have hf := h.far
  obtain ⟨t1, t2⟩ := h.touch ht (by unfold Kps; omega) (fun k hk => by unfold Kps at hk; omega)
  obtain ⟨g, hg1, hv⟩ := hr
  have hg2 : Touch (fun k => k = mb) w w' := (Touch.refl _ w).grown hg fun k hk => by cases hk; exact .inl rfl
  exact ⟨w', hrun, ⟨t1, t2, ⟨_, hown, hM.step⟩, ⟨g, hg1.touch hg2 (by show ¬ ab = mb; omega), hv⟩, hf, h.nums⟩, ht⟩

set_option maxHeartbeats 3200000 in
theorem keep_yes (p mb ab pl wt : Nat) (v : Value) (bs : List Nat) (cop : Bool) (B at_ : Nat) (w : World) (h : Fin w B p mb ab pl wt v bs cop at_) (hb : Bs bs) (hl : bs.length ≤ 30000) (ha : at_ + 3 ≤ bs.length) :
    Calls Tryd.prog 22 #[.pointer (some ⟨p, 0, none⟩), .int .i64 at_] w fun e w' => e = .returned (.tuple #[]) ∧ Fin w' B p mb ab pl wt v bs cop (at_ + 1) ∧ Touch (Kps mb ab) w w' := by
  have hby := h.by_
  obtain ⟨ao, c, rfl⟩ := by_shape hby
  have HL := Lib.hid (any_drew fun q => lastAt_any p mb ab pl wt (.slice ao bs.length c) bs cop B at_ (w.drewN q) (fun _ => h.drewN q) (((h.drewN q).blk.cell 2).trans rfl) (h.drewN q).by_ hb hl (by omega))
  have hla : la bs at_ = M.pv bs (M.key3 bs at_) at_ := if_pos ha
  have HR := Lib.hid fun q => (h.drewN q).ringSet (la bs at_)
  have c2 := (h.blk.cell 2).trans (show _ = some (Value.slice ao bs.length c) from rfl)
  have c3 := (h.blk.cell 3).trans (show _ = some (Value.map (some mb)) from rfl)
  have c4 := (h.blk.cell 4).trans (show _ = some (Value.slice (some ⟨ab, 0, none⟩) bs.length bs.length) from rfl)
  obtain ⟨g, hg, hgv⟩ := h.ring
  have r1 := (hg.cell at_).trans (va_at _ _ at_ (by omega))
  have r2 := hg.free at_
  have HT0 := Lib.hid fun q => (Touch.refl (Kps mb ab) w).drewN q
  obtain ⟨L, hL⟩ : ∃ L, L = bs.length := ⟨_, rfl⟩
  obtain ⟨y, hy⟩ : ∃ y, y = la bs at_ := ⟨_, rfl⟩
  have HY : Hid (y = M.pv bs (M.key3 bs at_) at_) := Lib.hid (by rw [hy, hla])
  obtain ⟨gx, hgx⟩ : ∃ gx, gx = g at_ := ⟨_, rfl⟩
  rw [← hgx] at r1
  rw [← hy] at HL HR
  rw [← hL] at c2 c4
  have hl2 : L ≤ 30000 := by omega
  have ha2 : at_ + 3 ≤ L := by omega
  have HB := Lib.hid hb
  have HLL := Lib.hid hL
  have d1 : decide ((L : Int) < (at_ : Int) + 3) = false := by simp; omega
  have d2 : decide (L < at_ + 3) = false := by simp; omega
  have e1 : IntKind.i64.wrap ((at_ : Int) - 32768) = (at_ : Int) - 32768 := by rw [IntKind.wrap_i64]; omega
  have d3 : decide ((0 : Int) ≤ (at_ : Int) - 32768) = false := by simp; omega
  have d3' : decide ((32768 : Int) ≤ at_) = false := by simp; omega
  have d3'' : decide (32768 ≤ at_) = false := by simp; omega
  have m1 : (at_ : Int).tmod 32768 = (at_ : Int) := by rw [Int.tmod_eq_emod_of_nonneg (by omega)]; omega
  have m2 : (at_ : Int) % 32768 = (at_ : Int) := by omega
  have i1 : (at_ : Int) < L := by omega
  clear h hby hb hl ha hla hg hgv hL hy hgx
  go_enter Tryd.func22, Tryd.ntmps22
  go_wp2
  go_quiet (fail)
  go_wp2
  go_region_with (first | (go_at_call 24; refine (HL.out _ ?_).mono ?_; exact ⟨_, rfl⟩; rintro e w2 ⟨rfl, m, rfl⟩) | fail)
  all_goals
    obtain ⟨F1, T1, g1, hg1, hv1, hn1⟩ := HR.out m
    have T2 := (HT0.out m).trans T1
    clear T1
    generalize (w.drewN m).setCell ⟨ab, at_, none⟩ (.int .i64 y) = W1 at F1 T2 hg1 ⊢
    have b3 := (F1.blk.cell 3).trans (show _ = some (Value.map (some mb)) from rfl)
    have HT := Lib.hid (any_drew fun q => three_any p mb ab pl wt (.slice ao bs.length c) bs cop at_ B at_ (W1.drewN q) (F1.drewN q) HB.out (by rw [← HLL.out]; exact hl2) (by rw [← HLL.out]; exact ha2))
    obtain ⟨X, hX⟩ := Classical.skolem.1 (fun q => (F1.drewN q).mapSet HB.out (by omega) ⟨g1, hg1.drewN q, fun i hi => by
      by_cases e : i < at_
      · exact hv1 i e
      · obtain rfl : i = at_ := by omega
        rw [hn1, HY.out]⟩)
    have hX1 := fun q => (hX q).1
    have HX := Lib.hid fun q => (hX q).2
    have HT2 := Lib.hid T2
    obtain ⟨K, hK⟩ : ∃ K, K = M.key3 bs at_ := ⟨_, rfl⟩
    rw [← hK] at hX1 HT
    clear c2 c3 c4 r1 r2 HL HR HT0 HY m1 m2 d1 d2 d3 d3' d3'' e1 hX hK F1 hg1 hv1 hn1 T2
    go_wp2
    go_region_with (first | (go_at_call 27; refine (HT.out _ ?_).mono ?_; exact ⟨_, rfl⟩; rintro e w2 ⟨rfl, m2, rfl⟩) | fail)
    all_goals
      go_wp2
      refine bodyPost_end (results_none rfl _ _ _) rfl ?_
      exact ⟨rfl, (HX.out _).1, ((HT2.out).drewN _).trans (HX.out _).2⟩
theorem keep_no (p : Nat) (ao : Option Addr) (L c at_ : Nat) (w : World) (c2 : w.cell? ⟨p, 2, none⟩ = some (Value.slice ao L c)) (_hl : L ≤ 30000) (ha : at_ ≤ 40000) (h3 : L < at_ + 3) :
    Calls Tryd.prog 22 #[.pointer (some ⟨p, 0, none⟩), .int .i64 at_] w fun e w' => e = .returned (.tuple #[]) ∧ w' = w := by
  have d1 : (L : Int) < (at_ : Int) + 3 := by omega
  have d2 : L < at_ + 3 := by omega
  go_enter Tryd.func22, Tryd.ntmps22
  go_wp2
  refine bodyPost_ret (results_none rfl _ _ _) rfl ?_
  exact ⟨rfl, rfl⟩
/-- How many places are known, from a place on. -/
def kp (bs : List Nat) (at_ : Nat) : Nat := min at_ (bs.length - 2)
theorem keep_any (p mb ab pl wt : Nat) (v : Value) (bs : List Nat) (cop : Bool) (B at_ : Nat) (w : World) (h : Fin w B p mb ab pl wt v bs cop (kp bs at_)) (hb : Bs bs) (hl : bs.length ≤ 30000) (ha : at_ < bs.length) :
    Calls Tryd.prog 22 #[.pointer (some ⟨p, 0, none⟩), .int .i64 at_] w fun e w' => e = .returned (.tuple #[]) ∧ Fin w' B p mb ab pl wt v bs cop (kp bs (at_ + 1)) ∧ Touch (Kps mb ab) w w' := by
  by_cases h3 : at_ + 3 ≤ bs.length
  · rw [show kp bs at_ = at_ by unfold kp; omega] at h
    rw [show kp bs (at_ + 1) = at_ + 1 by unfold kp; omega]
    exact keep_yes p mb ab pl wt v bs cop B at_ w h hb hl h3
  · have hk : kp bs (at_ + 1) = kp bs at_ := by unfold kp; omega
    rw [hk]
    have hby := h.by_
    obtain ⟨ao, c, rfl⟩ := by_shape hby
    refine (keep_no p ao bs.length c at_ w ((h.blk.cell 2).trans rfl) hl (by omega) (by omega)).mono ?_
    rintro e w' ⟨rfl, rfl⟩
    exact ⟨rfl, h, Touch.refl _ _⟩
end Go.Proofs.YtjjjchdocnoabaaDoor
