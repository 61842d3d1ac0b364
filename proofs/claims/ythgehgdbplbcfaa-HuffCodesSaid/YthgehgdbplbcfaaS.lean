/-
  Contracts of Put and Next.
-/
import Derived.Test.YthgehgdbplbcfaaR2
namespace Go.Proofs.Ythgehgdbplbcfaa
open Go.RowKit

theorem CodeAt.u {w w1 : World} {p : Nat} {ls : List Nat} (h : CodeAt w p ls) (ht : Touch (U w.heap.size) w w1) : CodeAt w1 p ls := h.below (ht.below (Nat.le_refl _) fun _ k => k)
theorem WrT.code {w w1 : World} {p pw N n : Nat} {ls : List Nat} (h : CodeAt w p ls) (hw : WrT w w1 w.heap.size pw N n) : CodeAt w1 p ls := by
  obtain ⟨g, _, ht⟩ := hw
  exact h.u ht
theorem RdT.code {w w1 : World} {p pr at_ : Nat} {bs ls : List Nat} (h : CodeAt w p ls) (hr : RdT w w1 pr bs at_) : CodeAt w1 p ls := by
  obtain ⟨g, _, ht⟩ := hr
  exact h.u ht

theorem rv_cd {ls : List Nat} (H : Ok ls) {s : Nat} (_hs : ln ls s ≠ 0) : rv (ln ls s) (cd ls s) < 4294967296 ∧ rv (ln ls s) (cd ls s) % 2 ^ ln ls s = rv (ln ls s) (cd ls s) := by
  have h1 := rv_lt (ln ls s) (cd ls s)
  have h2 : 2 ^ ln ls s ≤ 2 ^ 15 := Nat.pow_le_pow_right (by omega) (ln_le H s)
  exact ⟨by omega, Nat.mod_eq_of_lt h1⟩

set_option maxHeartbeats 800000 in
theorem Put_yes {w w1 : World} {p pw N n : Nat} {ls : List Nat} (h : CodeAt w p ls) (hw : WrT w w1 w.heap.size pw N n) (hn : n ≤ 7000000000) (s N' n' : Nat) (hs : ln ls s ≠ 0) (hN : N + rv (ln ls s) (cd ls s) * 2 ^ n = N') (hn' : n + ln ls s = n') :
    Calls Try.prog 25 #[.pointer (some ⟨p, 0, none⟩), .pointer (some ⟨pw, 0, none⟩), .int .i64 s] w1 fun e w' => e = .returned (.bool true) ∧ WrT w w' w.heap.size pw N' n' := by
  have HC := Lib.hid (WrT.code h hw)
  have HW := Lib.hid hw
  have hr := rv_cd h.ok hs
  obtain ⟨V, hV⟩ : ∃ V, V = rv (ln ls s) (cd ls s) := ⟨_, rfl⟩
  obtain ⟨m, hm⟩ : ∃ m, m = ln ls s := ⟨_, rfl⟩
  have hm32 : m ≤ 32 := by have := ln_le h.ok s; omega
  have HS := Lib.hid hs
  rw [← hV, ← hm] at hr
  rw [← hV] at hN
  rw [← hm] at hn'
  have hv := hr.1
  have HR := Lib.hid hr.2
  have HV := Lib.hid hV.symm
  have HM := Lib.hid hm.symm
  have HN := Lib.hid hN
  have HN' := Lib.hid hn'
  clear h hw hr hV hm hN hn' hs
  go_enter Try.func25, Try.ntmps25
  go_wp2_with (first
    | (go_at_call 15; (refine (Bits_yes p s ls _ HC.out HS.out V m HV.out HM.out).mono ?_); rintro e w2 ⟨rfl, nq, rfl⟩)
    | (go_at_call 37; (refine ((HW.out.drewN _).put hn V m V N' hv hm32 HR.out HN.out).mono ?_); rintro e w3 ⟨rfl, hw3⟩; have HW3 := Lib.hid hw3; clear hw3))
  go_ret
  exact ⟨rfl, by rw [← HN'.out]; exact HW3.out⟩

set_option maxHeartbeats 800000 in
theorem Put_no {w w1 : World} {p pw N n : Nat} {ls : List Nat} (h : CodeAt w p ls) (hw : WrT w w1 w.heap.size pw N n) (s : Int) (hs : s < 0 ∨ ls.length ≤ s ∨ ∃ k : Nat, s = k ∧ k < ls.length ∧ ln ls k = 0) :
    Calls Try.prog 25 #[.pointer (some ⟨p, 0, none⟩), .pointer (some ⟨pw, 0, none⟩), .int .i64 s] w1 fun e w' => e = .returned (.bool false) ∧ w1 = w' := by
  have HC := Lib.hid (WrT.code h hw)
  have HS := Lib.hid hs
  clear h hw hs
  go_enter Try.func25, Try.ntmps25
  go_wp2_with (go_at_call 15; (refine (Bits_no p s ls _ HC.out HS.out).mono ?_); rintro e w2 ⟨rfl, rfl⟩)
  go_ret
  exact ⟨rfl, rfl⟩

/-- The fifteen bits ahead, the first one highest. -/
def ahead (bs : List Nat) (at_ : Nat) : Nat := rv 15 (pk bs at_ 15)
theorem ahead_lt (bs : List Nat) (at_ : Nat) : ahead bs at_ < 32768 := rv_lt 15 _
theorem pk_lt (bs : List Nat) (at_ n : Nat) : pk bs at_ n < 2 ^ n := Nat.mod_lt _ (Nat.two_pow_pos n)

def NextOk (w : World) (pr : Nat) (bs : List Nat) (s m : Nat) (e : Ending) (w' : World) : Prop := e = .returned (.tuple #[.int .i64 s, .int .i64 0]) ∧ RdT w w' pr bs m
def NextNo (w : World) (pr : Nat) (bs : List Nat) (m : Nat) (er : Int) (e : Ending) (w' : World) : Prop := e = .returned (.tuple #[.int .i64 0, .int .i64 er]) ∧ RdT w w' pr bs m

set_option maxHeartbeats 1600000 in
theorem Next_ok {w w1 : World} {p pr at_ : Nat} {bs ls : List Nat} (h : CodeAt w p ls) (hr : RdT w w1 pr bs at_) (hl : bs.length ≤ 1000000) (s : Nat) (hb : Beg ls (ahead bs at_) s) (hle : at_ + ln ls s ≤ 8 * bs.length) :
    Calls Try.prog 21 #[.pointer (some ⟨p, 0, none⟩), .pointer (some ⟨pr, 0, none⟩)] w1 (NextOk w pr bs s (at_ + ln ls s)) := by
  have HO := Lib.hid h.ok
  have HC := Lib.hid (RdT.code h hr)
  have HR := Lib.hid hr
  have hX := pk_lt bs at_ 15
  have hA := ahead_lt bs at_
  have HB := Lib.hid hb
  obtain ⟨X, hXe⟩ : ∃ X, X = pk bs at_ 15 := ⟨_, rfl⟩
  obtain ⟨A, hAe⟩ : ∃ A, A = rv 15 X := ⟨_, rfl⟩
  obtain ⟨m, hm⟩ : ∃ m, m = ln ls s := ⟨_, rfl⟩
  have hm1 : 1 ≤ m := by have := hb.1; omega
  have hm15 : m ≤ 15 := by have := ln_le h.ok s; omega
  have hA' : A = ahead bs at_ := by unfold ahead; rw [hAe, hXe]
  rw [← hXe] at hX
  rw [← hA'] at hA
  rw [← hm] at hle
  have HX := Lib.hid hXe.symm
  have HA := Lib.hid hAe.symm
  have HA' := Lib.hid hA'
  have HM := Lib.hid hm
  clear h hr hXe hAe hA' hb
  rw [← hm]
  clear hm
  have hX' : X < 4294967296 := by omega
  have d1 : decide ((8 * (bs.length : Int) - at_) < m) = false := by simp; omega
  have d2 : ((8 * (bs.length : Int) - at_) == 0) = false := by simp; omega
  have d3 : ((m : Int) == 0) = false := by simp; omega
  have hK : Hid (∀ W, CodeAt W p ls → Calls Try.prog 36 #[.pointer (some ⟨p, 0, none⟩), .int .i64 A] W fun e w' => e = .returned (.tuple #[.int .i64 s, .int .i64 m]) ∧ ∃ nq, w' = W.drewN nq) := Lib.hid fun W hW => (find_any p A ls W hW hA).mono fun e w' k => by
    refine ⟨?_, k.2⟩
    rcases k.1 with ⟨t, ht, he⟩ | ⟨hro, _⟩
    · rw [HA'.out] at ht
      obtain rfl := beg_one HO.out HB.out ht
      rw [he, HM.out]
    · exact absurd HB.out (none_of HO.out (by rw [← HA'.out]; exact hro) s)
  go_enter Try.func21, Try.ntmps21
  go_wp2_with (first
    | (go_at_call 35; (refine (HR.out.peek (by omega) (by omega) 15 X (by omega) HX.out).mono ?_); rintro e w2 ⟨rfl, rfl⟩)
    | (go_at_call 28; (refine (reverse_yes X 15 _ hX' (by omega)).mono ?_); rw [HA.out]; rintro e w2 ⟨rfl, rfl⟩)
    | (go_at_call 36; (refine (hK.out _ HC.out).mono ?_); rintro e w2 ⟨rfl, nq, rfl⟩)
    | (go_at_call 34; (refine ((HR.out.drewN _).left (by omega) (by omega)).mono ?_); rintro e w3 ⟨rfl, nq3, rfl⟩)
    | (go_at_call 20; (refine ((HR.out.drewN _).skip (by omega) m (by omega)).mono ?_); rintro e w4 ⟨rfl, hr4⟩; have HR4 := Lib.hid hr4; clear hr4))
  go_ret2
  exact ⟨rfl, HR4.out⟩

/-- The search's answer, in whatever world the code stands. -/
def Finds (p A : Nat) (ls : List Nat) (t m : Nat) : Prop := ∀ W, CodeAt W p ls → Calls Try.prog 36 #[.pointer (some ⟨p, 0, none⟩), .int .i64 A] W fun e w' => e = .returned (.tuple #[.int .i64 t, .int .i64 m]) ∧ ∃ nq, w' = W.drewN nq
theorem finds_yes {p A : Nat} {ls : List Nat} (H : Ok ls) (hA : A < 32768) {s : Nat} (hb : Beg ls A s) : Finds p A ls s (ln ls s) := fun W hW => (find_any p A ls W hW hA).mono fun e w' k => by
  refine ⟨?_, k.2⟩
  rcases k.1 with ⟨t, ht, he⟩ | ⟨hro, _⟩
  · obtain rfl := beg_one H hb ht
    exact he
  · exact absurd hb (none_of H hro s)
theorem finds_no {p A : Nat} {ls : List Nat} (H : Ok ls) (hA : A < 32768) (hr : room ls ≤ A) : Finds p A ls 0 0 := fun W hW => (find_any p A ls W hW hA).mono fun e w' k => by
  refine ⟨?_, k.2⟩
  rcases k.1 with ⟨t, ht, _⟩ | ⟨_, he⟩
  · exact absurd ht (none_of H hr t)
  · exact he
theorem finds_some {p A : Nat} {ls : List Nat} (H : Ok ls) (hA : A < 32768) : (∃ s, Beg ls A s ∧ Finds p A ls s (ln ls s)) ∨ (room ls ≤ A ∧ Finds p A ls 0 0) := by
  by_cases hr : room ls ≤ A
  · exact .inr ⟨hr, finds_no H hA hr⟩
  · left
    -- the search over all lengths
    have key : ∀ n, n ≤ 16 → A < sp ls n → ∃ s, Beg ls A s := by
      intro n
      induction n with
      | zero => intro _ h; simp [sp] at h
      | succ n ih =>
        intro hn h
        by_cases h1 : A < sp ls n
        · exact ih (by omega) h1
        · have hge := over_ge (ls := ls) (A := A) (n := n) (by omega) (by omega)
          have hlt := (over_lt (ls := ls) (A := A) (n := n) (by omega)).2 h
          have hn0 : n ≠ 0 := by
            intro e
            subst e
            rw [sp_one] at h
            omega
          obtain ⟨s, _, hls, hrs⟩ := rank_all (ls := ls) (n := n) (r := A / 2 ^ (15 - n) - fc ls n) hn0 (by omega)
          exact ⟨s, over_sym hn0 hge hls hrs⟩
    obtain ⟨s, hs⟩ := key 16 (Nat.le_refl _) (by unfold room at hr; omega)
    exact ⟨s, hs, finds_yes H hA hs⟩

set_option maxHeartbeats 1600000 in
theorem next_no {w w1 : World} {p pr at_ : Nat} {bs ls : List Nat} (h : CodeAt w p ls) (hr : RdT w w1 pr bs at_) (hl : bs.length ≤ 1000000) (ha : at_ ≤ 8 * bs.length) (t m : Nat) (hm : m ≤ 15) (hf : Finds p (ahead bs at_) ls t m) (er : Int)
    (hc : (er = 15 ∧ (8 * bs.length < at_ + m ∨ at_ = 8 * bs.length)) ∨ (er = 10 ∧ m = 0 ∧ at_ < 8 * bs.length)) :
    Calls Try.prog 21 #[.pointer (some ⟨p, 0, none⟩), .pointer (some ⟨pr, 0, none⟩)] w1 (NextNo w pr bs at_ er) := by
  have HC := Lib.hid (RdT.code h hr)
  have HR := Lib.hid hr
  have hX := pk_lt bs at_ 15
  have hA := ahead_lt bs at_
  obtain ⟨X, hXe⟩ : ∃ X, X = pk bs at_ 15 := ⟨_, rfl⟩
  obtain ⟨A, hAe⟩ : ∃ A, A = rv 15 X := ⟨_, rfl⟩
  have hA' : A = ahead bs at_ := by unfold ahead; rw [hAe, hXe]
  rw [← hA'] at hf hA
  rw [← hXe] at hX
  have HX := Lib.hid hXe.symm
  have HA := Lib.hid hAe.symm
  have HF : Hid (∀ W, CodeAt W p ls → Calls Try.prog 36 #[.pointer (some ⟨p, 0, none⟩), .int .i64 A] W fun e w' => e = .returned (.tuple #[.int .i64 t, .int .i64 m]) ∧ ∃ nq, w' = W.drewN nq) := Lib.hid hf
  clear h hr hXe hAe hA' hf
  have hX' : X < 4294967296 := by omega
  rcases hc with ⟨rfl, hc⟩ | ⟨rfl, rfl, hc⟩
  · by_cases h1 : 8 * bs.length < at_ + m
    · have d1 : decide ((8 * (bs.length : Int) - at_) < m) = true := by simp; omega
      clear hc
      go_enter Try.func21, Try.ntmps21
      go_wp2_with (first
        | (go_at_call 35; (refine (HR.out.peek (by omega) (by omega) 15 X (by omega) HX.out).mono ?_); rintro e w2 ⟨rfl, rfl⟩)
        | (go_at_call 28; (refine (reverse_yes X 15 _ hX' (by omega)).mono ?_); rw [HA.out]; rintro e w2 ⟨rfl, rfl⟩)
        | (go_at_call 36; (with_reducible refine (HF.out _ HC.out).mono ?_); rintro e w2 ⟨rfl, nq, rfl⟩)
        | (go_at_call 34; (refine ((HR.out.drewN _).left (by omega) (by omega)).mono ?_); rintro e w3 ⟨rfl, nq3, rfl⟩))
      go_ret2
      exact ⟨rfl, HR.out.drewN _⟩
    · have h2 : at_ = 8 * bs.length := by omega
      have h3 : m = 0 := by omega
      have d1 : decide ((8 * (bs.length : Int) - at_) < (0 : Nat)) = false := by simp; omega
      have d2 : ((8 * (bs.length : Int) - at_) == 0) = true := by simp; omega
      have H2 := Lib.hid h2
      subst h3
      clear hc h1 h2
      go_enter Try.func21, Try.ntmps21
      go_wp2_with (first
        | (go_at_call 35; (refine (HR.out.peek (by omega) (by omega) 15 X (by omega) HX.out).mono ?_); rintro e w2 ⟨rfl, rfl⟩)
        | (go_at_call 28; (refine (reverse_yes X 15 _ hX' (by omega)).mono ?_); rw [HA.out]; rintro e w2 ⟨rfl, rfl⟩)
        | (go_at_call 36; (with_reducible refine (HF.out _ HC.out).mono ?_); rintro e w2 ⟨rfl, nq, rfl⟩)
        | (go_at_call 34; (refine ((HR.out.drewN _).left (by omega) (by omega)).mono ?_); rintro e w3 ⟨rfl, nq3, rfl⟩))
      go_ret2
      exact ⟨rfl, HR.out.drewN _⟩
  · have d1 : decide ((8 * (bs.length : Int) - at_) < (0 : Nat)) = false := by simp; omega
    have d2 : ((8 * (bs.length : Int) - at_) == 0) = false := by simp; omega
    go_enter Try.func21, Try.ntmps21
    go_wp2_with (first
      | (go_at_call 35; (refine (HR.out.peek (by omega) (by omega) 15 X (by omega) HX.out).mono ?_); rintro e w2 ⟨rfl, rfl⟩)
      | (go_at_call 28; (refine (reverse_yes X 15 _ hX' (by omega)).mono ?_); rw [HA.out]; rintro e w2 ⟨rfl, rfl⟩)
      | (go_at_call 36; (with_reducible refine (HF.out _ HC.out).mono ?_); rintro e w2 ⟨rfl, nq, rfl⟩)
      | (go_at_call 34; (refine ((HR.out.drewN _).left (by omega) (by omega)).mono ?_); rintro e w3 ⟨rfl, nq3, rfl⟩))
    go_ret2
    exact ⟨rfl, HR.out.drewN _⟩
end Go.Proofs.Ythgehgdbplbcfaa
