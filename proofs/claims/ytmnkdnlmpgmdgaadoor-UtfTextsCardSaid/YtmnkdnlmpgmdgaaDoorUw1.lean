/-
  The document's own Goes and Bytes.
-/
import Derived.Test.YtmnkdnlmpgmdgaaDoorUw0
namespace Go.Proofs.YtmnkdnlmpgmdgaaDoor
open Go.RowKit U
set_option maxRecDepth 100000

theorem goes_parts (v : Int) : goesP v = (wth beginsL v || (spP v 48 57 || (decide (v = 45) || (decide (v = 46) || (decide (v = 183) || (spP v 768 879 || spP v 8255 8256)))))) := by
  have h : wth goesL v = (spP v 48 57 || (spP v 45 46 || (spP v 183 183 || (spP v 768 879 || (spP v 8255 8256 || false))))) := rfl
  have h1 : spP v 45 46 = (decide (v = 45) || decide (v = 46)) := by
    unfold spP; rw [Bool.eq_iff_iff]; simp only [Bool.and_eq_true, Bool.or_eq_true, decide_eq_true_eq]; omega
  have h2 : spP v 183 183 = decide (v = 183) := by
    unfold spP; rw [Bool.eq_iff_iff]; simp only [Bool.and_eq_true, decide_eq_true_eq]; omega
  unfold goesP
  rw [h, h1, h2]
  simp [Bool.or_assoc]
set_option maxHeartbeats 6400000 in
theorem rGoes_any (v : Int) (w : World) : Calls Tryd.prog 25 #[.int .i64 v] w fun e w' => e = .returned (.bool (goesP v)) ∧ Below w.heap.size w w' := by
  have hw := goes_parts v
  have KB := Lib.hid (rBegins_any v w)
  have K1 := Lib.hid fun W => span_any v 48 57 W
  have K2 := Lib.hid fun W => span_any v 768 879 W
  have K3 := Lib.hid fun W => span_any v 8255 8256 W
  generalize wth beginsL v = p at hw KB
  generalize spP v 48 57 = a at hw K1
  generalize spP v 768 879 = b at hw K2
  generalize spP v 8255 8256 = c at hw K3
  obtain ⟨R, hR⟩ : ∃ R, R = goesP v := ⟨_, rfl⟩
  rw [← hR] at hw ⊢
  clear hR
  by_cases d : v = 45 ∨ v = 46 ∨ v = 183
  · have HR : Hid (R = true) := Lib.hid (by rw [hw]; rcases d with rfl | rfl | rfl <;> simp)
    clear hw
    cases p <;> cases a <;> rcases d with rfl | rfl | rfl
    all_goals
      go_enter Tryd.func25, Tryd.ntmps25
      go_wp2_with (first
        | (go_at_call 23; (with_reducible refine KB.out.mono ?_); rintro e w1 ⟨rfl, hb⟩; have HB := Lib.hid hb; clear hb)
        | (go_at_call 38; (with_reducible refine (K1.out _).mono ?_); rintro e wq ⟨rfl, rfl⟩))
      go_ret
      exact ⟨by rw [HR.out]; rfl, HB.out⟩
  · have d1 : ¬ v = 45 := fun e => d (.inl e)
    have d2 : ¬ v = 46 := fun e => d (.inr (.inl e))
    have d3 : ¬ v = 183 := fun e => d (.inr (.inr e))
    have HR : Hid (R = (p || (a || (b || c)))) := Lib.hid (by rw [hw]; simp [d1, d2, d3])
    have g1 : (v == 45) = false := beq_eq_false_iff_ne.2 d1
    have g2 : (v == 46) = false := beq_eq_false_iff_ne.2 d2
    have g3 : (v == 183) = false := beq_eq_false_iff_ne.2 d3
    clear hw d1 d2 d3 d
    cases p <;> cases a <;> cases b <;> cases c
    all_goals
      go_enter Tryd.func25, Tryd.ntmps25
      go_wp2_with (first
        | (go_at_call 23; (with_reducible refine KB.out.mono ?_); rintro e w1 ⟨rfl, hb⟩; have HB := Lib.hid hb; clear hb)
        | (go_at_call 38; (with_reducible refine (K1.out _).mono ?_); rintro e wq ⟨rfl, rfl⟩)
        | (go_at_call 38; (with_reducible refine (K2.out _).mono ?_); rintro e wq ⟨rfl, rfl⟩)
        | (go_at_call 38; (with_reducible refine (K3.out _).mono ?_); rintro e wq ⟨rfl, rfl⟩))
      go_ret
      exact ⟨by rw [HR.out]; rfl, HB.out⟩

theorem sl_row (w : World) (xs : List Nat) (cs : Array Value) (n : Nat) (hn : xs.length = n) (hc : cs = (u8s xs).toArray) (hb : Bs xs) (hm : n ≤ 1000) : SlTo xs w (.returned (.slice (some ⟨w.heap.size, 0, none⟩) n n)) (w.alloc (.cells cs 5)) := by
  subst hn
  exact ⟨_, _, rfl, sl_text w xs cs xs.length _ (0, 0) rfl rfl hc hb hm, lit_below w _⟩
set_option maxHeartbeats 1600000 in
theorem rBytes_any (v : Nat) (h : isSign v) (w : World) : Calls Tryd.prog 17 #[.int .i64 (v : Nat)] w (SlTo (enc v) w) := by
  obtain ⟨h1, _⟩ := h
  have heb := enc_byte h1
  unfold enc at heb ⊢
  by_cases c1 : v < 128
  · simp only [if_pos c1] at heb ⊢
    have z1 : (v : Int) < 128 := by omega
    have HEB := Lib.hid heb
    have HX : Hid (IntKind.u8.wrap (v : Int) = (v : Int)) := Lib.hid (by rw [IntKind.wrap_u8]; omega)
    have hx := HX.out
    clear c1 heb
    go_enter Tryd.func17, Tryd.ntmps17
    go_wp2
    go_ret
    exact sl_row w [v] _ 1 rfl (by simp [u8s]) HEB.out (by decide)
  by_cases c2 : v < 2048
  · simp only [if_neg c1, if_pos c2] at heb ⊢
    have z1 : ¬ (v : Int) < 128 := by omega
    have z2 : (v : Int) < 2048 := by omega
    have HEB := Lib.hid heb
    clear c1 c2 heb
    go_enter Tryd.func17, Tryd.ntmps17
    go_wp2
    go_ret
    exact sl_row w [192 + v / 64, 128 + v % 64] _ 2 rfl (by simp [u8s]) HEB.out (by decide)
  by_cases c3 : v < 65536
  · simp only [if_neg c1, if_neg c2, if_pos c3] at heb ⊢
    have z1 : ¬ (v : Int) < 128 := by omega
    have z2 : ¬ (v : Int) < 2048 := by omega
    have z3 : (v : Int) < 65536 := by omega
    have HEB := Lib.hid heb
    clear c1 c2 c3 heb
    go_enter Tryd.func17, Tryd.ntmps17
    go_wp2
    go_ret
    exact sl_row w [224 + v / 4096, 128 + v / 64 % 64, 128 + v % 64] _ 3 rfl (by simp [u8s]) HEB.out (by decide)
  simp only [if_neg c1, if_neg c2, if_neg c3] at heb ⊢
  have z1 : ¬ (v : Int) < 128 := by omega
  have z2 : ¬ (v : Int) < 2048 := by omega
  have z3 : ¬ (v : Int) < 65536 := by omega
  have HEB := Lib.hid heb
  clear c1 c2 c3 heb
  go_enter Tryd.func17, Tryd.ntmps17
  go_wp2
  go_ret
  exact sl_row w [240 + v / 262144, 128 + v / 4096 % 64, 128 + v / 64 % 64, 128 + v % 64] _ 4 rfl (by simp [u8s]) HEB.out (by decide)
end Go.Proofs.YtmnkdnlmpgmdgaaDoor
