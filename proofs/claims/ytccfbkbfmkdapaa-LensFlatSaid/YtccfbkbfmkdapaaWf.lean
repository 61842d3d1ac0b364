/-
  Counts that are all the same, plainly; the ways of LensFlat that end at once.
-/
import Derived.Test.YtccfbkbfmkdapaaTc
namespace Go.Proofs.Ytccfbkbfmkdapaa
open Go.RowKit

theorem usd_rep {M C : Nat} (hC : 0 < C) (k : Nat) (hk : k ≤ M) : usd (List.replicate M C) k = List.range k := by
  induction k with
  | zero => rfl
  | succ k ih => rw [usd_succ, ih (by omega), if_pos (by simp [List.getD, show k < M by omega, hC]), List.range_succ]
theorem rep_used {M C : Nat} {us : List Nat} (h : Used (List.replicate M C) us) (hC : 0 < C) : us.length = M ∧ cts (List.replicate M C) us = List.replicate M C := by
  have hl : us.length = M := by rw [h.len, List.length_replicate, usd_rep hC M (Nat.le_refl _), List.length_range]
  refine ⟨hl, List.eq_replicate_iff.2 ⟨by rw [cts_len, hl], fun x hx => ?_⟩⟩
  obtain ⟨s, hs, rfl⟩ := List.mem_map.1 hx
  have := (h.mem.1 hs).1
  rw [List.length_replicate] at this
  simp [List.getD, this]
theorem sumr_ge (n c : Nat) (f : Nat → Nat) (h : ∀ i, i < n → c ≤ f i) : n * c ≤ sumr n f := by
  have := sumr_le (n := n) (f := fun _ => c) (g := f) h
  rwa [sumr_const] at this
theorem sumr_most (n c : Nat) (f : Nat → Nat) (h : ∀ i, i < n → f i ≤ c) : sumr n f ≤ n * c := by
  have := sumr_le (n := n) (f := f) (g := fun _ => c) h
  rwa [sumr_const] at this
/-- What the law asks of the lengths. -/
theorem flat_facts {M C lim : Nat} {us : List Nat} (h : Used (List.replicate M C) us) (hC : 0 < C) (hM : 2 ≤ M) (hl : 1 ≤ lim ∧ lim ≤ 15) (h2 : us.length ≤ 2 ^ lim) {i j : Nat} (hi : i < M) (hj : j < M)
    (hlo : ∀ k, k < M → (lens (List.replicate M C) us lim).getD i 0 ≤ (lens (List.replicate M C) us lim).getD k 0) (hhi : ∀ k, k < M → (lens (List.replicate M C) us lim).getD k 0 ≤ (lens (List.replicate M C) us lim).getD j 0) :
    (lens (List.replicate M C) us lim).getD j 0 ≤ (lens (List.replicate M C) us lim).getD i 0 + 1 ∧ 2 ^ (lens (List.replicate M C) us lim).getD i 0 ≤ M ∧ M ≤ 2 ^ (lens (List.replicate M C) us lim).getD j 0 ∧ (lens (List.replicate M C) us lim).getD j 0 ≤ 15 := by
  obtain ⟨e1, e2⟩ := rep_used h hC
  have F := h.fit hl.1 h2 (by omega)
  have hk := F.kraft (by omega)
  rw [e2, List.length_replicate] at hk
  have hat : ∀ s, s < M → ∃ p, p < M ∧ (lens (List.replicate M C) us lim).getD s 0 = la (top (List.replicate M C) (lim - 1)) p := fun s hs => by
    have hm : s ∈ us := h.mem.2 ⟨by simpa using hs, by simp [List.getD, hs, hC]⟩
    refine ⟨us.idxOf s, by rw [← e1]; exact idx_lt hm, ?_⟩
    rw [lens_at _ _ _ (by simpa using hs), LF, if_pos hm, e2, lenG, if_neg (by simp; omega)]
  have hback : ∀ p, p < M → ∃ s, s < M ∧ (lens (List.replicate M C) us lim).getD s 0 = la (top (List.replicate M C) (lim - 1)) p := fun p hp => by
    have hp' : p < us.length := by omega
    have hm : us.getD p 0 ∈ us := by simp [List.getD, hp']
    have hs := (h.mem.1 hm).1
    refine ⟨us.getD p 0, by simpa using hs, ?_⟩
    rw [lens_at _ _ _ hs, LF_at h.nodup _ hp', e2, lenG, if_neg (by simp; omega)]
  obtain ⟨pi, hpi, ei⟩ := hat i hi
  obtain ⟨pj, hpj, ej⟩ := hat j hj
  have hst := flat_step M C (lim - 1) (2 * (List.replicate M C).length - 2)
  have h15 : ∀ p, la (top (List.replicate M C) (lim - 1)) p ≤ 15 := fun p => by
    have := Fit.la_le (cs := List.replicate M C) (d := lim - 1) p
    omega
  rw [ei] at hlo ⊢
  rw [ej] at hhi ⊢
  have hlo' : ∀ p, p < M → la (top (List.replicate M C) (lim - 1)) pi ≤ la (top (List.replicate M C) (lim - 1)) p := fun p hp => by
    obtain ⟨s, hs, e⟩ := hback p hp
    rw [← e]; exact hlo s hs
  have hhi' : ∀ p, p < M → la (top (List.replicate M C) (lim - 1)) p ≤ la (top (List.replicate M C) (lim - 1)) pj := fun p hp => by
    obtain ⟨s, hs, e⟩ := hback p hp
    rw [← e]; exact hhi s hs
  have a1 := step_la hst hpj hpi
  refine ⟨a1, ?_, ?_, h15 pj⟩
  · have h1 := sumr_most M (2 ^ (15 - la (top (List.replicate M C) (lim - 1)) pi)) (fun p => 2 ^ (15 - la (top (List.replicate M C) (lim - 1)) p)) fun p hp => Nat.pow_le_pow_right (by omega) (by have := hlo' p hp; omega)
    rw [hk] at h1
    have h2 : (32768 : Nat) = 2 ^ la (top (List.replicate M C) (lim - 1)) pi * 2 ^ (15 - la (top (List.replicate M C) (lim - 1)) pi) := by
      rw [← Nat.pow_add, show la (top (List.replicate M C) (lim - 1)) pi + (15 - la (top (List.replicate M C) (lim - 1)) pi) = 15 by have := h15 pi; omega]
    rw [h2] at h1
    exact Nat.le_of_mul_le_mul_right h1 (Nat.two_pow_pos _)
  · have h1 := sumr_ge M (2 ^ (15 - la (top (List.replicate M C) (lim - 1)) pj)) (fun p => 2 ^ (15 - la (top (List.replicate M C) (lim - 1)) p)) fun p hp => Nat.pow_le_pow_right (by omega) (by have := hhi' p hp; omega)
    rw [hk] at h1
    have h2 : (32768 : Nat) = 2 ^ la (top (List.replicate M C) (lim - 1)) pj * 2 ^ (15 - la (top (List.replicate M C) (lim - 1)) pj) := by
      rw [← Nat.pow_add, show la (top (List.replicate M C) (lim - 1)) pj + (15 - la (top (List.replicate M C) (lim - 1)) pj) = 15 by have := h15 pj; omega]
    rw [h2] at h1
    exact Nat.le_of_mul_le_mul_right h1 (Nat.two_pow_pos _)
theorem flat_a (m c l : Int) (w : World)  (_h : m < 2) :
    Calls Try.prog 7 #[.int .i64 m, .int .i64 c, .int .i64 l] w fun e w' => e = .returned (.bool true) ∧ Below w.heap.size w w' := by
  go_enter Try.func7, Try.ntmps7
  go_wp2_with fail
  refine (alive_any w).mono ?_
  rintro e w1 ⟨rfl, hb1⟩
  have HB := Lib.hid hb1
  clear hb1
  go_wp2
  go_ret
  exact ⟨rfl, HB.out⟩
theorem flat_b (m c l : Int) (w : World) (_h0 : 2 ≤ m) (_h : 300 < m) :
    Calls Try.prog 7 #[.int .i64 m, .int .i64 c, .int .i64 l] w fun e w' => e = .returned (.bool true) ∧ Below w.heap.size w w' := by
  have d0 : decide (m < 2) = false := decide_eq_false (by omega)
  go_enter Try.func7, Try.ntmps7
  go_wp2_with fail
  refine (alive_any w).mono ?_
  rintro e w1 ⟨rfl, hb1⟩
  have HB := Lib.hid hb1
  clear hb1
  go_wp2
  go_ret
  exact ⟨rfl, HB.out⟩
theorem flat_c (m c l : Int) (w : World) (_h0 : 2 ≤ m) (_h1 : m ≤ 300) (_h : c < 1) :
    Calls Try.prog 7 #[.int .i64 m, .int .i64 c, .int .i64 l] w fun e w' => e = .returned (.bool true) ∧ Below w.heap.size w w' := by
  have d0 : decide (m < 2) = false := decide_eq_false (by omega)
  have d1 : decide ((300 : Int) < m) = false := decide_eq_false (by omega)
  go_enter Try.func7, Try.ntmps7
  go_wp2_with fail
  refine (alive_any w).mono ?_
  rintro e w1 ⟨rfl, hb1⟩
  have HB := Lib.hid hb1
  clear hb1
  go_wp2
  go_ret
  exact ⟨rfl, HB.out⟩
theorem flat_d (m c l : Int) (w : World) (_h0 : 2 ≤ m) (_h1 : m ≤ 300) (_h2 : 1 ≤ c) (_h : 1073741824 < c) :
    Calls Try.prog 7 #[.int .i64 m, .int .i64 c, .int .i64 l] w fun e w' => e = .returned (.bool true) ∧ Below w.heap.size w w' := by
  have d0 : decide (m < 2) = false := decide_eq_false (by omega)
  have d1 : decide ((300 : Int) < m) = false := decide_eq_false (by omega)
  have d2 : decide (c < 1) = false := decide_eq_false (by omega)
  go_enter Try.func7, Try.ntmps7
  go_wp2_with fail
  refine (alive_any w).mono ?_
  rintro e w1 ⟨rfl, hb1⟩
  have HB := Lib.hid hb1
  clear hb1
  go_wp2
  go_ret
  exact ⟨rfl, HB.out⟩
theorem flat_e (m c l : Int) (w : World) (_h0 : 2 ≤ m) (_h1 : m ≤ 300) (_h2 : 1 ≤ c) (_h3 : c ≤ 1073741824) (_h : l < 9) :
    Calls Try.prog 7 #[.int .i64 m, .int .i64 c, .int .i64 l] w fun e w' => e = .returned (.bool true) ∧ Below w.heap.size w w' := by
  have d0 : decide (m < 2) = false := decide_eq_false (by omega)
  have d1 : decide ((300 : Int) < m) = false := decide_eq_false (by omega)
  have d2 : decide (c < 1) = false := decide_eq_false (by omega)
  have d3 : decide ((1073741824 : Int) < c) = false := decide_eq_false (by omega)
  go_enter Try.func7, Try.ntmps7
  go_wp2_with fail
  refine (alive_any w).mono ?_
  rintro e w1 ⟨rfl, hb1⟩
  have HB := Lib.hid hb1
  clear hb1
  go_wp2
  go_ret
  exact ⟨rfl, HB.out⟩
theorem flat_f (m c l : Int) (w : World) (_h0 : 2 ≤ m) (_h1 : m ≤ 300) (_h2 : 1 ≤ c) (_h3 : c ≤ 1073741824) (_h4 : 9 ≤ l) (_h : 15 < l) :
    Calls Try.prog 7 #[.int .i64 m, .int .i64 c, .int .i64 l] w fun e w' => e = .returned (.bool true) ∧ Below w.heap.size w w' := by
  have d0 : decide (m < 2) = false := decide_eq_false (by omega)
  have d1 : decide ((300 : Int) < m) = false := decide_eq_false (by omega)
  have d2 : decide (c < 1) = false := decide_eq_false (by omega)
  have d3 : decide ((1073741824 : Int) < c) = false := decide_eq_false (by omega)
  have d4 : decide (l < 9) = false := decide_eq_false (by omega)
  go_enter Try.func7, Try.ntmps7
  go_wp2_with fail
  refine (alive_any w).mono ?_
  rintro e w1 ⟨rfl, hb1⟩
  have HB := Lib.hid hb1
  clear hb1
  go_wp2
  go_ret
  exact ⟨rfl, HB.out⟩
theorem nat_rep (M C : Nat) : nat (List.replicate M (C : Int)) = List.replicate M C := by simp [nat]
theorem flat_built (bo : Option Addr) (cu M C lim : Nat) (w : World) (h : IS w bo (List.replicate M (C : Int))) (h2 : M ≤ 300) (h3 : 1 ≤ C ∧ C ≤ 1073741824) (h5 : 9 ≤ lim) (h6 : lim ≤ 15) :
    Calls Try.prog 10 #[.slice bo M cu, .int .i64 lim] w fun e w' => ∃ g us, e = .returned (.tuple #[.slice (some ⟨g, 0, none⟩) M M, .int .i64 0]) ∧ Used (List.replicate M C) us ∧ us.length ≤ 2 ^ lim ∧ IS w' (some ⟨g, 0, none⟩) (ints (lens (List.replicate M C) us lim)) ∧ Below w.heap.size w w' := by
  have hF : Fine (List.replicate M (C : Int)) lim := ⟨by simp; omega, fun z hz => by have := (List.mem_replicate.1 hz).2; unfold maxC; omega, by omega⟩
  have hB := build_fine bo cu (List.replicate M (C : Int)) lim w h hF
  rw [List.length_replicate] at hB
  refine hB.mono ?_
  rintro e w' (⟨hn, _⟩ | ⟨g, us, rfl, hU, hul, hb, hbe, _⟩)
  · exfalso
    rw [nat_rep, usd_rep (by omega) M (Nat.le_refl _), List.length_range] at hn
    have : 2 ^ 9 ≤ 2 ^ lim := Nat.pow_le_pow_right (by omega) h5
    omega
  · rw [nat_rep] at hU hb
    exact ⟨g, us, by rw [List.length_replicate], hU, hul, built_is (by simp) hb, hbe⟩
end Go.Proofs.Ytccfbkbfmkdapaa
