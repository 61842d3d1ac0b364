/-
  What built lengths are, plainly; lists of three counts.
-/
import Derived.Test.YtccfbkbfmkdapaaIj
namespace Go.Proofs.Ytccfbkbfmkdapaa
open Go.RowKit

theorem made_is (w : World) (zs : List Int) (cs : Array Value) (e : TypeId) (hcs : cs.toList = zs.map fun z => Value.int .i64 z) : IS (w.alloc (.cells cs e)) (some ⟨w.heap.size, 0, none⟩) zs := by
  refine .inr ⟨_, 0, rfl, fun j hj => ?_⟩
  rw [Nat.zero_add, World.cell?_alloc_at _ _ _ _ rfl]
  have : cs[j]? = cs.toList[j]? := by simp
  rw [this, hcs]
  simp [List.getD, hj]

theorem two_pow_lim {lim : Nat} (h : 1 ≤ lim) : lim - 1 + 1 = lim := by omega
theorem Used.len {ns us : List Nat} (h : Used ns us) : us.length = (usd ns ns.length).length := h.perm.length_eq
/-- Lengths that Build finds are Fit's. -/
theorem Used.fit {ns us : List Nat} {lim : Nat} (h : Used ns us) (hl : 1 ≤ lim) (h2 : us.length ≤ 2 ^ lim) (h3 : 2 ≤ us.length) : Fit (cts ns us) (lim - 1) :=
  ⟨h.up, by rw [cts_len]; exact h3, by rw [cts_len, two_pow_lim hl]; exact h2⟩
/-- The lengths of places are from 1 up to the limit. -/
theorem lenG_bounds {ns us : List Nat} {lim : Nat} (h : Used ns us) (hl : 1 ≤ lim) (h2 : us.length ≤ 2 ^ lim) {i : Nat} (hi : i < us.length) : 1 ≤ lenG (cts ns us) (lim - 1) i ∧ lenG (cts ns us) (lim - 1) i ≤ lim := by
  unfold lenG
  rw [cts_len]
  by_cases h1 : us.length = 1
  · rw [if_pos h1]; exact ⟨Nat.le_refl _, hl⟩
  · rw [if_neg h1]
    have F := h.fit hl h2 (by omega)
    exact ⟨F.la_pos (by rw [cts_len]; exact hi), by have := Fit.la_le (cs := cts ns us) (d := lim - 1) i; omega⟩
theorem idx_lt {us : List Nat} {s : Nat} (h : s ∈ us) : us.idxOf s < us.length := List.idxOf_lt_length_iff.2 h
theorem getD_idx {us : List Nat} {s : Nat} (h : s ∈ us) : us.getD (us.idxOf s) 0 = s := by
  simp [List.getD, idx_lt h]
/-- The lengths of symbols: 0 just for a count of 0, else from 1 up to the limit. -/
theorem LF_bounds {ns us : List Nat} {lim : Nat} (h : Used ns us) (hl : 1 ≤ lim) (h2 : us.length ≤ 2 ^ lim) {s : Nat} (hs : s < ns.length) :
    (ns.getD s 0 = 0 → LF us (lenG (cts ns us) (lim - 1)) s = 0) ∧ (0 < ns.getD s 0 → 1 ≤ LF us (lenG (cts ns us) (lim - 1)) s ∧ LF us (lenG (cts ns us) (lim - 1)) s ≤ lim) := by
  refine ⟨fun e => ?_, fun e => ?_⟩
  · unfold LF
    rw [if_neg fun hm => by have := (h.mem.1 hm).2; omega]
  · have hm : s ∈ us := h.mem.2 ⟨hs, e⟩
    unfold LF
    rw [if_pos hm]
    exact lenG_bounds h hl h2 (idx_lt hm)

/-! ### Sums over symbols are sums over places -/
theorem sumr_list (n : Nat) (f : Nat → Nat) : sumr n f = ((List.range n).map f).sum := rfl
theorem sum_filter (l : List Nat) (p : Nat → Bool) (f : Nat → Nat) (h : ∀ x ∈ l, p x = false → f x = 0) : (l.map f).sum = ((l.filter p).map f).sum := by
  induction l with
  | nil => rfl
  | cons a l ih =>
    have ih := ih fun x hx => h x (List.mem_cons_of_mem _ hx)
    rw [List.map_cons, List.sum_cons, List.filter_cons]
    by_cases hp : p a = true
    · rw [if_pos hp, List.map_cons, List.sum_cons, ih]
    · rw [if_neg hp, ih, h a (List.mem_cons_self ..) (by simpa using hp), Nat.zero_add]
theorem sum_getD (l : List Nat) (f : Nat → Nat) : (l.map f).sum = sumr l.length fun i => f (l.getD i 0) := by
  rw [sumr_list]
  congr 1
  apply List.ext_getElem
  · simp
  · intro i h1 h2
    simp only [List.length_map] at h1
    simp [List.getD, h1]
/-- A sum over all symbols of what is 0 at counts of 0. -/
theorem sum_used {ns us : List Nat} (h : Used ns us) (f : Nat → Nat) (hf : ∀ s, ns.getD s 0 = 0 → f s = 0) : sumr ns.length f = sumr us.length fun i => f (us.getD i 0) := by
  rw [← sum_getD, sumr_list, (h.perm.map f).sum_nat]
  exact sum_filter _ _ _ fun x _ hx => hf x (by have := of_decide_eq_false hx; omega)
/-- .. of lengths. -/
theorem sum_LF {ns us : List Nat} (h : Used ns us) (G : Nat → Nat) (f : Nat → Nat → Nat) (hf : ∀ s, f s 0 = 0) : sumr ns.length (fun s => f s (LF us G s)) = sumr us.length fun i => f (us.getD i 0) (G i) := by
  rw [sum_used h (fun s => f s (LF us G s)) fun s e => ?_]
  · refine sumr_congr fun i hi => ?_
    rw [LF_at h.nodup G hi]
  · have : LF us G s = 0 := by
      unfold LF
      rw [if_neg fun hm => by have := (h.mem.1 hm).2; omega]
    simp only [this, hf]
/-- All lengths as a list. -/
def lens (ns us : List Nat) (lim : Nat) : List Nat := (List.range ns.length).map (LF us (lenG (cts ns us) (lim - 1)))
theorem lens_len (ns us : List Nat) (lim : Nat) : (lens ns us lim).length = ns.length := by simp [lens]
theorem lens_at (ns us : List Nat) (lim : Nat) {s : Nat} (hs : s < ns.length) : (lens ns us lim).getD s 0 = LF us (lenG (cts ns us) (lim - 1)) s := by simp [lens, List.getD, hs]
theorem lens_le {ns us : List Nat} {lim : Nat} (h : Used ns us) (hl : 1 ≤ lim) (h2 : us.length ≤ 2 ^ lim) : ∀ x ∈ lens ns us lim, x ≤ lim := fun x hx => by
  obtain ⟨s, hs, rfl⟩ := List.mem_map.1 hx
  have hs := List.mem_range.1 hs
  have := LF_bounds h hl h2 hs
  by_cases e : ns.getD s 0 = 0
  · rw [this.1 e]; omega
  · exact (this.2 (by omega)).2
/-- What they cost. -/
def bst (cs : List Nat) (D : Nat) : Nat := if cs.length = 0 then 0 else if cs.length = 1 then cs.getD 0 0 else best cs D
theorem lens_cost {ns us : List Nat} {lim : Nat} (h : Used ns us) (hl : 1 ≤ lim) (h2 : us.length ≤ 2 ^ lim) : cst ns (lens ns us lim) ns.length = bst (cts ns us) (lim - 1) := by
  have e1 : cst ns (lens ns us lim) ns.length = sumr ns.length fun s => ns.getD s 0 * LF us (lenG (cts ns us) (lim - 1)) s := sumr_congr fun i hi => by rw [lens_at ns us lim hi]
  rw [e1, sum_LF h _ (fun s x => ns.getD s 0 * x) (fun s => Nat.mul_zero _)]
  unfold bst
  rw [cts_len]
  by_cases h0 : us.length = 0
  · rw [if_pos h0, h0]; rfl
  · rw [if_neg h0]
    by_cases h1 : us.length = 1
    · rw [if_pos h1, h1, sumr_succ, sumr_zero, cts_at _ _ _ (by omega)]
      unfold lenG
      rw [cts_len, if_pos h1]
      omega
    · rw [if_neg h1]
      have F := h.fit hl h2 (by omega)
      rw [← F.costs, cts_len]
      refine sumr_congr fun i hi => ?_
      rw [cts_at _ _ _ hi]
      unfold lenG
      rw [cts_len, if_neg h1]
theorem part1_sum (ls : List Nat) : rsum ls = sumr ls.length fun i => part1 (ls.getD i 0) := by
  unfold rsum
  rw [sum_getD]
/-- Their room. -/
theorem lens_room {ns us : List Nat} {lim : Nat} (h : Used ns us) (hl : 1 ≤ lim ∧ lim ≤ 15) (h2 : us.length ≤ 2 ^ lim) :
    room (lens ns us lim) = if us.length = 0 then 0 else if us.length = 1 then 16384 else 32768 := by
  rw [room_rsum _ fun x hx => by have := lens_le h hl.1 h2 x hx; omega, part1_sum, lens_len]
  have e1 : sumr ns.length (fun i => part1 ((lens ns us lim).getD i 0)) = sumr ns.length fun s => part1 (LF us (lenG (cts ns us) (lim - 1)) s) := sumr_congr fun i hi => by rw [lens_at ns us lim hi]
  rw [e1, sum_LF h _ (fun _ x => part1 x) (fun s => rfl)]
  by_cases h0 : us.length = 0
  · rw [if_pos h0, h0]; rfl
  · rw [if_neg h0]
    by_cases h1 : us.length = 1
    · rw [if_pos h1, h1, sumr_succ, sumr_zero]
      unfold lenG
      rw [cts_len, if_pos h1]
      rfl
    · rw [if_neg h1]
      have F := h.fit hl.1 h2 (by omega)
      rw [← F.kraft (by omega), cts_len]
      refine sumr_congr fun i hi => ?_
      unfold lenG
      rw [cts_len, if_neg h1]
      have := F.la_pos (i := i) (by rw [cts_len]; exact hi)
      unfold part1
      rw [if_neg (by omega)]
theorem built_is {w' : World} {g : Nat} {ns us : List Nat} {lim : Nat} {N : Nat} (hN : N = ns.length) (h : Blk w' g 3 (ia N (LF us (lenG (cts ns us) (lim - 1))))) : IS w' (some ⟨g, 0, none⟩) (ints (lens ns us lim)) :=
  blk_is h _ (by rw [ints_len, lens_len, hN]) fun j hj => by rw [ints_at, lens_at ns us lim (by omega)]
theorem Up.three {a b c : Nat} (h : Up [a, b, c]) : a ≤ b ∧ b ≤ c := by
  unfold Up at h
  simp at h
  omega
/-- Counts 5, 1, 0, 1. -/
theorem three {us : List Nat} (h : Used [5, 1, 0, 1] us) : us = [1, 3, 0] ∨ us = [3, 1, 0] := by
  have hn := h.nodup
  have hl : us.length = 3 := h.len
  have hm : ∀ s ∈ us, s = 0 ∨ s = 1 ∨ s = 3 := fun s hs => by
    have := h.mem.1 hs
    rcases (show s = 0 ∨ s = 1 ∨ s = 2 ∨ s = 3 by have := this.1; simp at this; omega) with rfl | rfl | rfl | rfl
    · simp
    · simp
    · simp at this
    · simp
  match us, hl with
  | [a, b, c], _ =>
    have hu := Up.three (h.up)
    simp at hn hm
    rcases hm.1 with rfl | rfl | rfl <;> rcases hm.2.1 with rfl | rfl | rfl <;> rcases hm.2.2 with rfl | rfl | rfl <;> simp at hn hu ⊢
theorem three_len : lenG [1, 1, 5] 14 0 = 2 ∧ lenG [1, 1, 5] 14 1 = 2 ∧ lenG [1, 1, 5] 14 2 = 1 := by
  have F : Fit [1, 1, 5] 14 := ⟨by simp [Up], by decide, by decide⟩
  have e : lenG [1, 1, 5] 14 = la (top [1, 1, 5] 14) := rfl
  rw [e]
  have hk := F.kraft (by omega)
  have a1 := la_anti (top [1, 1, 5] 14) (show 0 ≤ 1 by omega)
  have a2 := la_anti (top [1, 1, 5] 14) (show 1 ≤ 2 by omega)
  have b0 := Fit.la_le (cs := [1, 1, 5]) (d := 14) 0
  have b2 := F.la_pos (i := 2) (by decide)
  have hs : sumr 3 (fun i => 2 ^ (15 - la (top [1, 1, 5] 14) i)) = 2 ^ (15 - la (top [1, 1, 5] 14) 0) + 2 ^ (15 - la (top [1, 1, 5] 14) 1) + 2 ^ (15 - la (top [1, 1, 5] 14) 2) := by
    rw [sumr_succ, sumr_succ, sumr_succ, sumr_zero, Nat.zero_add]
  rw [show ([1, 1, 5] : List Nat).length = 3 from rfl, hs] at hk
  generalize la (top [1, 1, 5] 14) 0 = x at *
  generalize la (top [1, 1, 5] 14) 1 = y at *
  generalize la (top [1, 1, 5] 14) 2 = z at *
  have hd : ∀ x y z : Fin 16, (2 ^ (15 - x.val) + 2 ^ (15 - y.val) + 2 ^ (15 - z.val) = 32768 ∧ y.val ≤ x.val ∧ z.val ≤ y.val ∧ 1 ≤ z.val) → (x.val = 2 ∧ y.val = 2 ∧ z.val = 1) := by decide +kernel
  exact hd ⟨x, by omega⟩ ⟨y, by omega⟩ ⟨z, by omega⟩ ⟨hk, a1, a2, b2⟩
theorem lens_three {us : List Nat} (h : Used [5, 1, 0, 1] us) : lens [5, 1, 0, 1] us 15 = [1, 2, 0, 2] := by
  have h3 := three_len
  rcases three h with rfl | rfl
  · have e : cts [5, 1, 0, 1] [1, 3, 0] = [1, 1, 5] := rfl
    unfold lens
    rw [e, show (15 - 1 : Nat) = 14 from rfl]
    simp [LF, List.range_succ, List.range_zero, List.idxOf, List.findIdx_cons, h3.1, h3.2.1, h3.2.2]
  · have e : cts [5, 1, 0, 1] [3, 1, 0] = [1, 1, 5] := rfl
    unfold lens
    rw [e, show (15 - 1 : Nat) = 14 from rfl]
    simp [LF, List.range_succ, List.range_zero, List.idxOf, List.findIdx_cons, h3.1, h3.2.1, h3.2.2]
end Go.Proofs.Ytccfbkbfmkdapaa
