/-
  Symbols that are written: their bits, one behind the other; what is read of them; their cost. And the state of a row of puts.
-/
import Derived.Test.YthgehgdbplbcfaaPa
import Derived.Test.YthgehgdbplbcfaaG
namespace Go.Proofs.Ythgehgdbplbcfaa
open Go.RowKit

/-- The bits, and how many there are, behind one more symbol. -/
def wstep (ls : List Nat) (t : Nat × Nat) (s : Nat) : Nat × Nat := (t.1 + rv (ln ls s) (cd ls s) * 2 ^ t.2, t.2 + ln ls s)
def wl (ls : List Nat) (l : List Nat) : Nat × Nat := l.foldl (wstep ls) (0, 0)
theorem wl_app (ls l : List Nat) (s : Nat) : wl ls (l ++ [s]) = wstep ls (wl ls l) s := by simp [wl]
theorem foldl_more (ls l : List Nat) (t : Nat × Nat) : ∃ M, (l.foldl (wstep ls) t).1 = t.1 + M * 2 ^ t.2 ∧ t.2 ≤ (l.foldl (wstep ls) t).2 := by
  induction l generalizing t with
  | nil => exact ⟨0, by simp, Nat.le_refl _⟩
  | cons s r ih =>
    obtain ⟨M, h1, h2⟩ := ih (wstep ls t s)
    refine ⟨rv (ln ls s) (cd ls s) + M * 2 ^ ln ls s, ?_, ?_⟩
    · rw [List.foldl_cons, h1]
      simp only [wstep, Nat.pow_add, Nat.add_mul]
      rw [Nat.mul_assoc M, Nat.mul_comm (2 ^ t.2), Nat.add_assoc]
    · rw [List.foldl_cons]
      simp only [wstep] at h2 ⊢
      omega
theorem wl_lt (ls l : List Nat) : (wl ls l).1 < 2 ^ (wl ls l).2 := by
  have key : ∀ (l : List Nat) (t : Nat × Nat), t.1 < 2 ^ t.2 → (l.foldl (wstep ls) t).1 < 2 ^ (l.foldl (wstep ls) t).2 := by
    intro l
    induction l with
    | nil => intro t h; exact h
    | cons s r ih =>
      intro t h
      rw [List.foldl_cons]
      exact ih _ (put_lt h (rv_lt _ _))
  exact key l (0, 0) (by simp)
/-- What stands at the k-th symbol's place. -/
theorem wl_at (ls l : List Nat) (k : Nat) (hk : k < l.length) :
    (wl ls l).1 / 2 ^ (wl ls (l.take k)).2 % 2 ^ ln ls (l.getD k 0) = rv (ln ls (l.getD k 0)) (cd ls (l.getD k 0)) ∧ (wl ls (l.take k)).2 + ln ls (l.getD k 0) ≤ (wl ls l).2 ∧ wl ls (l.take (k + 1)) = wstep ls (wl ls (l.take k)) (l.getD k 0) := by
  have e : l.take (k + 1) = l.take k ++ [l.getD k 0] := by
    rw [List.take_succ_eq_append_getElem hk]
    simp [List.getD, hk]
  have e2 : l = l.take (k + 1) ++ l.drop (k + 1) := (List.take_append_drop _ _).symm
  have e3 : wl ls (l.take (k + 1)) = wstep ls (wl ls (l.take k)) (l.getD k 0) := by rw [e, wl_app]
  have e4 : wl ls l = (l.drop (k + 1)).foldl (wstep ls) (wl ls (l.take (k + 1))) := by
    have : wl ls (l.take (k + 1) ++ l.drop (k + 1)) = (l.drop (k + 1)).foldl (wstep ls) (wl ls (l.take (k + 1))) := by rw [wl, List.foldl_append]; rfl
    rwa [← e2] at this
  obtain ⟨M, h1, h2⟩ := foldl_more ls (l.drop (k + 1)) (wl ls (l.take (k + 1)))
  rw [← e4, e3] at h1 h2
  have hA := wl_lt ls (l.take k)
  have hV := rv_lt (ln ls (l.getD k 0)) (cd ls (l.getD k 0))
  simp only [wstep] at h1 h2
  refine ⟨?_, h2, e3⟩
  generalize wl ls (l.take k) = t at *
  generalize ln ls (l.getD k 0) = n at *
  generalize rv n (cd ls (l.getD k 0)) = V at *
  rw [h1, Nat.pow_add, show t.1 + V * 2 ^ t.2 + M * (2 ^ t.2 * 2 ^ n) = t.1 + (V + M * 2 ^ n) * 2 ^ t.2 by rw [Nat.add_mul, Nat.mul_assoc M, Nat.mul_comm (2 ^ n), Nat.add_assoc]]
  rw [Nat.add_mul_div_right _ _ (Nat.two_pow_pos _), Nat.div_eq_of_lt hA, Nat.zero_add, Nat.add_mul_mod_self_right, Nat.mod_eq_of_lt hV]
theorem wl_le {ls : List Nat} (H : Ok ls) (l : List Nat) : (wl ls l).2 ≤ l.length * 15 := by
  have key : ∀ (l : List Nat) (t : Nat × Nat), (l.foldl (wstep ls) t).2 ≤ t.2 + l.length * 15 := by
    intro l
    induction l with
    | nil => intro t; simp
    | cons s r ih =>
      intro t
      rw [List.foldl_cons]
      have h1 := ih (wstep ls t s)
      have h2 := ln_le H s
      simp only [wstep, List.length_cons] at h1 ⊢
      omega
  simpa [wl] using key l (0, 0)

/-- Which code the bits begin with. -/
theorem beg_of {ls bs : List Nat} (H : Ok ls) {s at_ : Nat} (hs : ln ls s ≠ 0) (h : num bs / 2 ^ at_ % 2 ^ ln ls s = rv (ln ls s) (cd ls s)) : Beg ls (ahead bs at_) s := by
  refine ⟨hs, ?_⟩
  have hle := ln_le H s
  unfold ahead
  have h2 := rv_div (ln ls s) (15 - ln ls s) (pk bs at_ 15)
  rw [show ln ls s + (15 - ln ls s) = 15 by omega] at h2
  rw [h2, ← rv_mod]
  unfold pk
  rw [Nat.mod_mod_of_dvd _ (Nat.pow_dvd_pow 2 hle), h, lo_of H hs]

/-! ### The cost -/
def sumlt (ls l : List Nat) (k : Nat) : Nat := ((l.filter fun x => decide (x < k)).map (ln ls)).sum
theorem sumlt_step (ls l : List Nat) (k : Nat) : sumlt ls l (k + 1) = sumlt ls l k + l.count k * ln ls k := by
  unfold sumlt
  induction l with
  | nil => simp
  | cons x r ih =>
    simp only [List.filter_cons, List.count_cons]
    by_cases h1 : x < k
    · simp [h1, show x < k + 1 by omega, show ¬ x = k by omega, ih]; omega
    · by_cases h2 : x = k
      · subst h2; simp [ih, Nat.add_mul]; omega
      · simp [h1, show ¬ x < k + 1 by omega, h2, ih]
theorem sumlt_all (ls l : List Nat) (N : Nat) (h : ∀ x ∈ l, x < N) : sumlt ls l N = (l.map (ln ls)).sum := by
  unfold sumlt
  rw [List.filter_eq_self.2 (fun x hx => by simpa using h x hx)]
theorem wl_sum (ls l : List Nat) : (wl ls l).2 = (l.map (ln ls)).sum := by
  have key : ∀ (l : List Nat) (t : Nat × Nat), (l.foldl (wstep ls) t).2 = t.2 + (l.map (ln ls)).sum := by
    intro l
    induction l with
    | nil => intro t; simp
    | cons s r ih =>
      intro t
      rw [List.foldl_cons, ih]
      simp only [wstep, List.map_cons, List.sum_cons]
      omega
  simpa [wl] using key l (0, 0)
def cz (N : Nat) (l : List Nat) : List Int := (List.range N).map fun s => ((l.count s : Nat) : Int)
theorem cz_len (N : Nat) (l : List Nat) : (cz N l).length = N := by simp [cz]
theorem cz_at (N : Nat) (l : List Nat) (s : Nat) (h : s < N) : (cz N l).getD s 0 = (l.count s : Nat) := by simp [cz, List.getD, h]
theorem cst_cz (ls l : List Nat) (hl : l.length ≤ 1000) (k : Nat) (hk : k ≤ ls.length) : cst ls (cz ls.length l) k = sumlt ls l k := by
  induction k with
  | zero =>
    have : l.filter (fun x => decide (x < 0)) = [] := by simp
    rw [cst, sumlt, this]; rfl
  | succ k ih =>
    rw [cst, sumlt_step, ih (by omega), cz_at _ _ _ (by omega)]
    have hc : l.count k ≤ l.length := List.count_le_length
    by_cases h0 : l.count k = 0
    · simp [h0]
    · rw [if_pos ⟨by omega, by omega⟩, Int.toNat_natCast]
theorem cost_len {ls l : List Nat} (hl : l.length ≤ 1000) (h : ∀ x ∈ l, ln ls x ≠ 0) : cst ls (cz ls.length l) ls.length = (wl ls l).2 := by
  rw [cst_cz ls l hl ls.length (Nat.le_refl _), sumlt_all ls l _ (fun x hx => ln_lt (h x hx)), wl_sum]

/-! ### A row of puts -/
theorem Put_to {w1 : World} {base p pw N n : Nat} {g : Option Nat} {ls : List Nat} (h : CodeAt w1 p ls) (hw : Wr w1 base pw g N n) (hn : n ≤ 7000000000) (s N' n' : Nat) (hs : ln ls s ≠ 0) (hN : N + rv (ln ls s) (cd ls s) * 2 ^ n = N') (hn' : n + ln ls s = n') :
    Calls Try.prog 25 #[.pointer (some ⟨p, 0, none⟩), .pointer (some ⟨pw, 0, none⟩), .int .i64 s] w1 fun e w' => e = .returned (.bool true) ∧ PutTo w1 base pw g N' n' w' := by
  have HC := Lib.hid h
  have HW := Lib.hid fun q : Nat => hw.touch ((Touch.refl (fun _ => False) w1).drewN q) (fun _ _ h => h)
  have hr := rv_cd h.ok hs
  obtain ⟨V, hV⟩ : ∃ V, V = rv (ln ls s) (cd ls s) := ⟨_, rfl⟩
  obtain ⟨m, hm⟩ : ∃ m, m = ln ls s := ⟨_, rfl⟩
  have hm32 : m ≤ 32 := by have := ln_le h.ok s; omega
  have HS := Lib.hid hs
  rw [← hV, ← hm] at hr
  rw [← hV] at hN
  rw [← hm] at hn'
  have hv := hr.1
  have HR := Lib.hid hr.2
  have HV := Lib.hid hV.symm
  have HM := Lib.hid hm.symm
  have HN := Lib.hid hN
  have HN' := Lib.hid hn'
  clear h hw hr hV hm hN hn' hs
  go_enter Try.func25, Try.ntmps25
  go_wp2_with (first
    | (go_at_call 15; (refine (Bits_yes p s ls _ HC.out HS.out V m HV.out HM.out).mono ?_); rintro e w2 ⟨rfl, nq, rfl⟩)
    | (go_at_call 37; (refine ((HW.out _).put hn V m V hv hm32 HR.out).mono ?_); rintro e w3 ⟨rfl, hw3⟩; have HW3 := Lib.hid hw3; clear hw3))
  go_ret
  refine ⟨rfl, ?_⟩
  obtain ⟨g', h1, h2, h3⟩ := HW3.out
  rw [HN.out, HN'.out] at h1
  exact ⟨g', h1, ((Touch.refl _ w1).drewN nq).trans h2, h3⟩
theorem Put_none {w1 : World} {p pw : Nat} {ls : List Nat} (h : CodeAt w1 p ls) (s : Int) (hs : s < 0 ∨ ls.length ≤ s ∨ ∃ k : Nat, s = k ∧ k < ls.length ∧ ln ls k = 0) :
    Calls Try.prog 25 #[.pointer (some ⟨p, 0, none⟩), .pointer (some ⟨pw, 0, none⟩), .int .i64 s] w1 fun e w' => e = .returned (.bool false) ∧ w1 = w' := by
  have HC := Lib.hid h
  have HS := Lib.hid hs
  clear h hs
  go_enter Try.func25, Try.ntmps25
  go_wp2_with (go_at_call 15; (refine (Bits_no p s ls _ HC.out HS.out).mono ?_); rintro e w2 ⟨rfl, rfl⟩)
  go_ret
  exact ⟨rfl, rfl⟩

def nz (l : List Nat) : List Int := l.map Int.ofNat
theorem nz_len (l : List Nat) : (nz l).length = l.length := by simp [nz]
theorem nz_app (l : List Nat) (s : Nat) : nz (l ++ [s]) = nz l ++ [(s : Int)] := by simp [nz]
theorem nz_at (l : List Nat) (k : Nat) (h : k < l.length) : (nz l).getD k 0 = (l.getD k 0 : Nat) := by simp [nz, List.getD, h]

/-- A writer, counts, and the row of what was sent. -/
structure Bw (B pw gc : Nat) (so : Option Addr) (sc : Nat) (C : Array Value) (m : Nat) (l : List Nat) (N n : Nat) (w wr : World) : Prop where
  wri : ∃ g, Wr wr B pw g N n ∧ ∀ k, Foot pw g k → k ≠ gc ∧ (Value.slice so m sc).ownBlock ≠ some k
  cnt : Blk wr gc 3 C
  own : wr.ownsRow B 3 1 (.slice so m sc) m (iv (nz l))
  hm : l.length = m
  ne : (Value.slice so m sc).ownBlock ≠ some gc
  touch : Touch (U B) w wr
  lo : B ≤ gc
section
variable {B pw gc m sc : Nat} {so : Option Addr} {C : Array Value} {l : List Nat} {N n : Nat} {w wr w' : World}
theorem Bw.drewN (h : Bw B pw gc so sc C m l N n w wr) (q : Nat) : Bw B pw gc so sc C m l N n w (wr.drewN q) := by
  obtain ⟨g, h1, h2⟩ := h.wri
  have t := (Touch.refl (fun _ => False) wr).drewN q
  exact ⟨⟨g, h1.touch t (fun _ _ h => h), h2⟩, h.cnt, ownsRow_touch h.own t (fun _ _ h => h), h.hm, h.ne, h.touch.drewN q, h.lo⟩
theorem Bw.put {g : Option Nat} {N' n' : Nat} (h : Bw B pw gc so sc C m l N n w wr) (hg : ∀ k, Foot pw g k → k ≠ gc ∧ (Value.slice so m sc).ownBlock ≠ some k) (hw : Wr wr B pw g N n) (hp : PutTo wr B pw g N' n' w') : Bw B pw gc so sc C m l N' n' w w' := by
  obtain ⟨g', h1, h2, h3⟩ := hp
  refine ⟨⟨g', h1, fun k hk => ?_⟩, h.cnt.touch h2 (fun hf => (hg _ hf).1 rfl), ownsRow_touch h.own h2 (fun k hk hf => (hg k hf).2 hk), h.hm, h.ne, h.touch.trans (h2.mono fun k hk => (hw.foot hk).1), h.lo⟩
  rcases hk with rfl | hk
  · exact hg _ (.inl rfl)
  · rcases h3 k hk with h4 | h4
    · exact hg _ (.inr h4)
    · have := h.cnt.lt
      exact ⟨by omega, fun e => by have := (h.own.lt k e).2; omega⟩
theorem Bw.app {so' : Option Addr} {sc' : Nat} {s : Nat} (h : Bw B pw gc so sc C m l N n w wr) (hA : Apg wr B 3 1 (.slice so m sc) (m + 1) (iv (nz l) ++ [.int .i64 (s : Int)]) (.slice so' (m + 1) sc') w') : Bw B pw gc so' sc' C (m + 1) (l ++ [s]) N n w w' := by
  obtain ⟨g, h1, h2⟩ := h.wri
  refine ⟨⟨g, h1.touch hA.touch (fun k hk e => (h2 k hk).2 e), fun k hk => ⟨(h2 k hk).1, fun e => ?_⟩⟩, h.cnt.touch hA.touch h.ne, ?_, by rw [List.length_append, h.hm]; rfl, fun e => ?_, h.touch.trans (hA.touch.mono fun k hk => (h.own.lt k hk).1), h.lo⟩
  · rcases hA.row k e with h3 | h3
    · exact (h2 k hk).2 h3
    · have := (h1.foot hk).2; omega
  · have := hA.own
    rw [nz_app, ← iv_app]
    exact this
  · rcases hA.row gc e with h3 | h3
    · exact h.ne h3
    · have := h.cnt.lt; omega
theorem Bw.set (h : Bw B pw gc so sc C m l N n w wr) (i : Nat) (u : Value) : Bw B pw gc so sc (C.setIfInBounds i u) m l N n w (wr.setCell ⟨gc, i, none⟩ u) := by
  obtain ⟨g, h1, h2⟩ := h.wri
  have t : Touch (fun k => k = gc) wr (wr.setCell ⟨gc, i, none⟩ u) := (Touch.refl _ _).setCell _ _ (.inl rfl)
  exact ⟨⟨g, h1.touch t (fun k hk e => (h2 k hk).1 e), h2⟩, h.cnt.setCell i u, ownsRow_touch h.own t (fun k hk e => by subst e; exact h.ne hk), h.hm, h.ne, h.touch.setCell _ _ (.inl h.lo), h.lo⟩
theorem Bw.base (h : Bw B pw gc so sc C m l N n w wr) : B ≤ wr.heap.size := by
  have := h.lo
  have := h.cnt.lt
  omega
theorem Bw.alloc (h : Bw B pw gc so sc C m l N n w wr) (o : Obj) : Bw B pw gc so sc C m l N n w (wr.alloc o) := by
  obtain ⟨g, h1, h2⟩ := h.wri
  have t := (Touch.refl (fun _ => False) wr).alloc o
  exact ⟨⟨g, h1.touch t (fun _ _ h => h), h2⟩, h.cnt.touch t (fun h => h), ownsRow_touch h.own t (fun _ _ h => h), h.hm, h.ne, h.touch.alloc o, h.lo⟩
end
end Go.Proofs.Ythgehgdbplbcfaa
