/-
  The document's own kinds of signs: span, Sign, Char, Blank, Begins, Goes.
-/
import Derived.Test.YtmnkdnlmpgmdgaaDoorUk
namespace Go.Proofs.YtmnkdnlmpgmdgaaDoor
open Go.RowKit U
set_option maxRecDepth 100000

/-- Is a number in a span? -/
def spP (v a b : Int) : Bool := decide (a ≤ v) && decide (v ≤ b)
theorem span_any (v a b : Int) (w : World) : Calls Tryd.prog 38 #[.int .i64 v, .int .i64 a, .int .i64 b] w fun e w' => e = .returned (.bool (spP v a b)) ∧ w = w' := by
  by_cases h1 : a ≤ v
  · by_cases h2 : v ≤ b
    · have HR : Hid (spP v a b = true) := Lib.hid (by simp [spP, h1, h2])
      go_enter Tryd.func38, Tryd.ntmps38
      go_wp2
      go_ret
      exact ⟨by rw [HR.out]; rfl, rfl⟩
    · have HR : Hid (spP v a b = false) := Lib.hid (by simp [spP, h2])
      go_enter Tryd.func38, Tryd.ntmps38
      go_wp2
      go_ret
      exact ⟨by rw [HR.out]; rfl, rfl⟩
  · have HR : Hid (spP v a b = false) := Lib.hid (by simp [spP, h1])
    go_enter Tryd.func38, Tryd.ntmps38
    go_wp2
    go_ret
    exact ⟨by rw [HR.out]; rfl, rfl⟩
theorem rSign_any (v : Int) (w : World) : Calls Tryd.prog 16 #[.int .i64 v] w fun e w' => e = .returned (.bool (Lib.validRune v)) ∧ w = w' := by
  have hv : Lib.validRune v = decide ((0 ≤ v ∧ v < 55296) ∨ (57343 < v ∧ v ≤ 1114111)) := rfl
  by_cases h1 : 0 ≤ v
  · by_cases h2 : v ≤ 1114111
    · by_cases h3 : v < 55296
      · have HR : Hid (Lib.validRune v = true) := Lib.hid (by rw [hv]; exact decide_eq_true (by omega))
        clear hv
        go_enter Tryd.func16, Tryd.ntmps16
        go_wp2
        go_ret
        exact ⟨by rw [HR.out]; rfl, rfl⟩
      · by_cases h4 : 57343 < v
        · have HR : Hid (Lib.validRune v = true) := Lib.hid (by rw [hv]; exact decide_eq_true (by omega))
          clear hv
          go_enter Tryd.func16, Tryd.ntmps16
          go_wp2
          go_ret
          exact ⟨by rw [HR.out]; rfl, rfl⟩
        · have HR : Hid (Lib.validRune v = false) := Lib.hid (by rw [hv]; exact decide_eq_false (by omega))
          clear hv
          go_enter Tryd.func16, Tryd.ntmps16
          go_wp2
          go_ret
          exact ⟨by rw [HR.out]; rfl, rfl⟩
    · have HR : Hid (Lib.validRune v = false) := Lib.hid (by rw [hv]; exact decide_eq_false (by omega))
      clear hv
      go_enter Tryd.func16, Tryd.ntmps16
      go_wp2
      go_ret
      exact ⟨by rw [HR.out]; rfl, rfl⟩
  · have HR : Hid (Lib.validRune v = false) := Lib.hid (by rw [hv]; exact decide_eq_false (by omega))
    clear hv
    go_enter Tryd.func16, Tryd.ntmps16
    go_wp2
    go_ret
    exact ⟨by rw [HR.out]; rfl, rfl⟩
theorem or_parts {a b : Bool} : (a || b) = true → a = true ∨ (a = false ∧ b = true) := by cases a <;> simp
theorem wth_cons (s : Int × Int) (L : List (Int × Int)) (r : Int) : wth (s :: L) r = (spP r s.1 s.2 || wth L r) := rfl

set_option maxHeartbeats 1600000 in
theorem rChar_any (v : Int) (w : World) : Calls Tryd.prog 19 #[.int .i64 v] w fun e w' => e = .returned (.bool (wth charL v)) ∧ w = w' := by
  have K1 := Lib.hid fun W => span_any v 32 55295 W
  have K2 := Lib.hid fun W => span_any v 57344 65533 W
  have K3 := Lib.hid fun W => span_any v 65536 1114111 W
  have hw : wth charL v = (spP v 32 55295 || (spP v 9 10 || (spP v 13 13 || (spP v 57344 65533 || (spP v 65536 1114111 || false))))) := rfl
  have h9 : spP v 9 10 = (decide (v = 9) || decide (v = 10)) := by
    unfold spP; rw [Bool.eq_iff_iff]; simp only [Bool.and_eq_true, Bool.or_eq_true, decide_eq_true_eq]; omega
  have h13 : spP v 13 13 = decide (v = 13) := by
    unfold spP; rw [Bool.eq_iff_iff]; simp only [Bool.and_eq_true, decide_eq_true_eq]; omega
  rw [h9, h13] at hw
  generalize spP v 32 55295 = a at K1 hw
  generalize spP v 57344 65533 = b at K2 hw
  generalize spP v 65536 1114111 = c at K3 hw
  obtain ⟨R, hR⟩ : ∃ R, R = wth charL v := ⟨_, rfl⟩
  rw [← hR] at hw ⊢
  clear hR h9 h13
  by_cases d1 : v = 9
  · subst d1
    have HR : Hid (R = true) := Lib.hid (by rw [hw]; simp)
    clear hw
    go_enter Tryd.func19, Tryd.ntmps19
    go_wp2
    go_ret
    exact ⟨by rw [HR.out]; rfl, rfl⟩
  by_cases d2 : v = 10
  · subst d2
    have HR : Hid (R = true) := Lib.hid (by rw [hw]; simp)
    clear hw
    go_enter Tryd.func19, Tryd.ntmps19
    go_wp2
    go_ret
    exact ⟨by rw [HR.out]; rfl, rfl⟩
  by_cases d3 : v = 13
  · subst d3
    have HR : Hid (R = true) := Lib.hid (by rw [hw]; simp)
    clear hw
    go_enter Tryd.func19, Tryd.ntmps19
    go_wp2
    go_ret
    exact ⟨by rw [HR.out]; rfl, rfl⟩
  have HR : Hid (R = (a || (b || c))) := Lib.hid (by rw [hw]; simp [d1, d2, d3])
  have g1 : (v == 9) = false := beq_eq_false_iff_ne.2 d1
  have g2 : (v == 10) = false := beq_eq_false_iff_ne.2 d2
  have g3 : (v == 13) = false := beq_eq_false_iff_ne.2 d3
  clear hw d1 d2 d3
  cases a <;> cases b <;> cases c
  all_goals
    go_enter Tryd.func19, Tryd.ntmps19
    go_wp2_with (first
      | (go_at_call 38; (with_reducible refine (K1.out _).mono ?_); rintro e w1 ⟨rfl, rfl⟩)
      | (go_at_call 38; (with_reducible refine (K2.out _).mono ?_); rintro e w1 ⟨rfl, rfl⟩)
      | (go_at_call 38; (with_reducible refine (K3.out _).mono ?_); rintro e w1 ⟨rfl, rfl⟩))
    go_ret
    exact ⟨by rw [HR.out]; rfl, rfl⟩
theorem rBlank_any (v : Int) (w : World) : Calls Tryd.prog 21 #[.int .i64 v] w fun e w' => e = .returned (.bool (wth blankL v)) ∧ w = w' := by
  have hw : wth blankL v = decide (v = 32 ∨ v = 9 ∨ v = 10 ∨ v = 13) := by
    have : wth blankL v = (spP v 32 32 || (spP v 9 10 || (spP v 13 13 || false))) := rfl
    rw [this]
    unfold spP; rw [Bool.eq_iff_iff]; simp only [Bool.and_eq_true, Bool.or_eq_true, decide_eq_true_eq, Bool.false_eq_true, or_false]; omega
  rw [hw]
  clear hw
  by_cases d1 : v = 32
  · subst d1
    go_enter Tryd.func21, Tryd.ntmps21
    go_wp2
    go_ret
    exact ⟨rfl, rfl⟩
  by_cases d2 : v = 9
  · subst d2
    go_enter Tryd.func21, Tryd.ntmps21
    go_wp2
    go_ret
    exact ⟨rfl, rfl⟩
  by_cases d3 : v = 10
  · subst d3
    go_enter Tryd.func21, Tryd.ntmps21
    go_wp2
    go_ret
    exact ⟨rfl, rfl⟩
  by_cases d4 : v = 13
  · subst d4
    go_enter Tryd.func21, Tryd.ntmps21
    go_wp2
    go_ret
    exact ⟨rfl, rfl⟩
  have HR : Hid (decide (v = 32 ∨ v = 9 ∨ v = 10 ∨ v = 13) = false) := Lib.hid (decide_eq_false (by omega))
  have g1 : (v == 32) = false := beq_eq_false_iff_ne.2 d1
  have g2 : (v == 9) = false := beq_eq_false_iff_ne.2 d2
  have g3 : (v == 10) = false := beq_eq_false_iff_ne.2 d3
  have g4 : (v == 13) = false := beq_eq_false_iff_ne.2 d4
  clear d1 d2 d3 d4
  go_enter Tryd.func21, Tryd.ntmps21
  go_wp2
  go_ret
  exact ⟨by rw [HR.out]; rfl, rfl⟩

def restL : List (Int × Int) := [(192, 214), (216, 246), (248, 767), (880, 893), (895, 8191), (8204, 8205), (8304, 8591), (11264, 12271), (12289, 55295), (63744, 64975), (65008, 65533), (65536, 983039)]
theorem begins_parts (v : Int) : wth beginsL v = ((spP v 65 90 || spP v 97 122) || (decide (v = 95) || wth restL v)) := by
  have h : wth beginsL v = (spP v 97 122 || (spP v 65 90 || (spP v 95 95 || wth restL v))) := rfl
  have h95 : spP v 95 95 = decide (v = 95) := by
    unfold spP; rw [Bool.eq_iff_iff]; simp only [Bool.and_eq_true, decide_eq_true_eq]; omega
  rw [h, h95]
  cases spP v 97 122 <;> cases spP v 65 90 <;> simp
def rest64 : Array Value := (restL.flatMap fun s => [Value.int .i64 s.1, Value.int .i64 s.2]).toArray
theorem rest_at : ∀ k, k < 12 → rest64[2 * k]? = some (.int .i64 (restL.getD k (0, 0)).1) ∧ rest64[2 * k + 1]? = some (.int .i64 (restL.getD k (0, 0)).2) := by
  intro k hk
  have : k = 0 ∨ k = 1 ∨ k = 2 ∨ k = 3 ∨ k = 4 ∨ k = 5 ∨ k = 6 ∨ k = 7 ∨ k = 8 ∨ k = 9 ∨ k = 10 ∨ k = 11 := by omega
  rcases this with rfl | rfl | rfl | rfl | rfl | rfl | rfl | rfl | rfl | rfl | rfl | rfl <;> exact ⟨rfl, rfl⟩

set_option maxHeartbeats 3200000 in
theorem rBegins_any (v : Int) (w : World) : Calls Tryd.prog 23 #[.int .i64 v] w fun e w' => e = .returned (.bool (wth beginsL v)) ∧ Below w.heap.size w w' := by
  have KS := Lib.hid fun (a b : Int) W => span_any v a b W
  have hw := begins_parts v
  obtain ⟨R, hR⟩ : ∃ R, R = wth beginsL v := ⟨_, rfl⟩
  rw [← hR] at hw ⊢
  have HW := Lib.hid hw
  clear hR hw
  obtain ⟨p1, hp1⟩ : ∃ p, p = spP v 65 90 := ⟨_, rfl⟩
  obtain ⟨p2, hp2⟩ : ∃ p, p = spP v 97 122 := ⟨_, rfl⟩
  have K1 := Lib.hid fun W => KS.out 65 90 W
  have K2 := Lib.hid fun W => KS.out 97 122 W
  rw [← hp1, ← hp2] at HW
  rw [← hp1] at K1
  rw [← hp2] at K2
  clear hp1 hp2
  cases p1 with
  | true =>
    have HR : Hid (R = true) := Lib.hid (by rw [HW.out]; rfl)
    go_enter Tryd.func23, Tryd.ntmps23
    go_wp2_with (go_at_call 38; (with_reducible refine (K1.out _).mono ?_); rintro e w1 ⟨rfl, rfl⟩)
    go_ret
    exact ⟨by rw [HR.out]; rfl, Below.refl _ _⟩
  | false =>
    cases p2 with
    | true =>
      have HR : Hid (R = true) := Lib.hid (by rw [HW.out]; rfl)
      go_enter Tryd.func23, Tryd.ntmps23
      go_wp2_with (first
        | (go_at_call 38; (with_reducible refine (K1.out _).mono ?_); rintro e w1 ⟨rfl, rfl⟩)
        | (go_at_call 38; (with_reducible refine (K2.out _).mono ?_); rintro e w1 ⟨rfl, rfl⟩))
      go_ret
      exact ⟨by rw [HR.out]; rfl, Below.refl _ _⟩
    | false =>
      by_cases d95 : v = 95
      · have HR : Hid (R = true) := Lib.hid (by rw [HW.out, decide_eq_true d95]; rfl)
        have g : (v == 95) = true := beq_iff_eq.2 d95
        clear d95
        go_enter Tryd.func23, Tryd.ntmps23
        go_wp2_with (first
          | (go_at_call 38; (with_reducible refine (K1.out _).mono ?_); rintro e w1 ⟨rfl, rfl⟩)
          | (go_at_call 38; (with_reducible refine (K2.out _).mono ?_); rintro e w1 ⟨rfl, rfl⟩))
        go_ret
        exact ⟨by rw [HR.out]; rfl, Below.refl _ _⟩
      have HR : Hid (R = wth restL v) := Lib.hid (by rw [HW.out, decide_eq_false d95]; rfl)
      have g : (v == 95) = false := beq_eq_false_iff_ne.2 d95
      clear d95 HW
      have HC : Hid (∀ k, k < 12 → (w.alloc (.cells rest64 3)).cell? ⟨w.heap.size, 2 * k, none⟩ = some (.int .i64 (restL.getD k (0, 0)).1) ∧ (w.alloc (.cells rest64 3)).cell? ⟨w.heap.size, 2 * k + 1, none⟩ = some (.int .i64 (restL.getD k (0, 0)).2)) := Lib.hid fun k hk => by
        rw [World.cell?_alloc_at _ _ _ _ rfl, World.cell?_alloc_at _ _ _ _ rfl]
        exact rest_at k hk
      have HB : Hid (Below w.heap.size w (w.alloc (.cells rest64 3))) := Lib.hid ((Below.refl _ w).alloc (Nat.le_refl _) _)
      obtain ⟨W0, hW0⟩ : ∃ W0, W0 = w.alloc (.cells rest64 3) := ⟨_, rfl⟩
      rw [← hW0] at HC HB
      go_enter Tryd.func23, Tryd.ntmps23
      go_wp2_with (first
        | (go_at_call 38; (with_reducible refine (K1.out _).mono ?_); rintro e w1 ⟨rfl, rfl⟩)
        | (go_at_call 38; (with_reducible refine (K2.out _).mono ?_); rintro e w1 ⟨rfl, rfl⟩))
      rw [show w.alloc (.cells #[.int .i64 192, .int .i64 214, .int .i64 216, .int .i64 246, .int .i64 248, .int .i64 767, .int .i64 880, .int .i64 893, .int .i64 895, .int .i64 8191, .int .i64 8204, .int .i64 8205, .int .i64 8304, .int .i64 8591, .int .i64 11264, .int .i64 12271, .int .i64 12289, .int .i64 55295, .int .i64 63744, .int .i64 64975, .int .i64 65008, .int .i64 65533, .int .i64 65536, .int .i64 983039] 3) = W0 from hW0.symm]
      obtain ⟨b, hb⟩ : ∃ b, b = w.heap.size := ⟨_, rfl⟩
      rw [← hb] at HC ⊢
      clear hW0 hb
      go_loopg [4] 12 (fun gh v4 wr => ∃ (k q : Nat), k ≤ 12 ∧ 12 - k ≤ gh ∧ v4 = .int .i64 (2 * k : Nat) ∧ wr = W0.drewN q ∧ Hid (R = wth (restL.drop k) v))
      case atStart => exact ⟨0, 0, by omega, by omega, rfl, rfl, HR⟩
      case round =>
        obtain ⟨k, q, hk, hgh, rfl, rfl, hrel⟩ := hrel
        by_cases hlt : k < 12
        · obtain ⟨c1, c2⟩ := HC.out k hlt
          have hst := hrel.out
          rw [wth_drop (show k < restL.length from hlt)] at hst
          obtain ⟨x, hx⟩ : ∃ x, x = (restL.getD k (0, 0)).1 := ⟨_, rfl⟩
          obtain ⟨y, hy⟩ : ∃ y, y = (restL.getD k (0, 0)).2 := ⟨_, rfl⟩
          rw [← hx, ← hy] at hst
          rw [← hx] at c1
          rw [← hy] at c2
          have hst : R = (spP v x y || wth (restL.drop (k + 1)) v) := hst
          have HST := Lib.hid hst
          have KX := Lib.hid fun W => KS.out x y W
          obtain ⟨s, hs⟩ : ∃ s, s = spP v x y := ⟨_, rfl⟩
          rw [← hs] at HST KX
          obtain ⟨j, hj⟩ : ∃ j, j = 2 * k := ⟨_, rfl⟩
          rw [← hj] at c1 c2 ⊢
          have hjj : (j : Int) < 24 := by omega
          obtain ⟨j1, hj1e⟩ : ∃ j1, j1 = j + 1 := ⟨_, rfl⟩
          rw [← hj1e] at c2
          have hj1 : IntKind.i64.wrap ((j : Int) + 1) = (j1 : Int) := by rw [IntKind.wrap_i64]; omega
          have hj2 : IntKind.i64.wrap ((j : Int) + 2) = ((2 * (k + 1) : Nat) : Int) := by rw [IntKind.wrap_i64]; omega
          have hj24 : (j1 : Int) < 24 := by omega
          clear hx hy hst hs hrel hj hj1e
          go_wp2_with fail
          go_quiet ((go_at_call 38; exact (KX.out _).mono fun e w' h => ⟨h.1, _, h.2.symm⟩))
          cases s with
          | true =>
            have HR2 : Hid (R = true) := Lib.hid (by rw [HST.out]; rfl)
            go_wp2
            go_ret
            exact ⟨by rw [HR2.out]; rfl, below_drewN (below_drewN HB.out _) _⟩
          | false =>
            have HR2 : Hid (R = wth (restL.drop (k + 1)) v) := Lib.hid (by rw [HST.out]; rfl)
            go_wp2
            go_roundg (12 - (k + 1))
            case measure => omega
            case rel => exact ⟨k + 1, _, by omega, Nat.le_refl _, by simp, (by first | rfl | exact World.drewN_drewN _ _ _), HR2⟩
        · obtain rfl : k = 12 := by omega
          have HR2 : Hid (R = false) := Lib.hid (by rw [hrel.out]; rfl)
          go_wp2
          go_ret
          exact ⟨by rw [HR2.out]; rfl, below_drewN HB.out _⟩
end Go.Proofs.YtmnkdnlmpgmdgaaDoor
