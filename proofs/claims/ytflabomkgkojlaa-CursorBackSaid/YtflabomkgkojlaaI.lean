/-
  Fields in memory; kinds; the small calls on them.
-/
import Derived.Test.YtflabomkgkojlaaH
namespace Go.Proofs.Ytflabomkgkojlaa
open Go.RowKit

/-! ### Kinds -/
/-- A slice's address at which these numbers lie. -/
def KSrc (w : World) (ao : Option Addr) (ks : List Int) : Prop :=
  ks = [] ∨ ∃ b off, ao = some ⟨b, off, none⟩ ∧ ∀ j, j < ks.length → w.cell? ⟨b, off + j, none⟩ = some (.int .i64 (ks.getD j 0))
theorem KSrc.below {w w' : World} {ao : Option Addr} {ks : List Int} (h : KSrc w ao ks) (hb : Below w.heap.size w w') : KSrc w' ao ks := by
  rcases h with h | ⟨b, off, rfl, hc⟩
  · exact .inl h
  · exact .inr ⟨b, off, rfl, fun j hj => by
      have := hc j hj
      exact (hb.cell (World.block_lt_of_cell? w _ this)).trans this⟩

/-- How many of the kinds are rows. -/
def cnt (ks : List Int) : Nat := (ks.filter fun k => k == 2).length
theorem cnt_snoc (l : List Int) (k : Int) : cnt (l ++ [k]) = cnt l + if k = 2 then 1 else 0 := by
  unfold cnt
  rw [List.filter_append, List.length_append]
  by_cases h : k = 2 <;> simp [h]
theorem cnt_le (l : List Int) : cnt l ≤ l.length := List.length_filter_le _ _
theorem ktake_next (l : List Int) (k : Nat) (h : k < l.length) : l.take (k + 1) = l.take k ++ [l.getD k 0] := by
  rw [List.take_add_one]
  simp [List.getD, h]
theorem cnt_step {ks : List Int} {k : Nat} (h : k < ks.length) : cnt (ks.take (k + 1)) = cnt (ks.take k) + if ks.getD k 0 = 2 then 1 else 0 := by
  rw [ktake_next ks k h, cnt_snoc]

set_option maxHeartbeats 400000 in
theorem count_any (ao : Option Addr) (c : Nat) (ks : List Int) (w : World) (h : KSrc w ao ks) (hm : ks.length ≤ 1000000) :
    Calls Try.prog 26 #[.slice ao ks.length c] w fun e w' => e = .returned (.int .i64 (cnt ks : Nat)) ∧ w = w' := by
  have HS := Lib.hid h
  clear h
  go_enter Try.func26, Try.ntmps26
  go_wp2
  go_loop [3, 8] (fun vn vi => ∃ k : Nat, k ≤ ks.length ∧ vi = .int .i64 k ∧ vn = .int .i64 (cnt (ks.take k) : Nat)) (fun _ vi => ks.length - (intOf vi).toNat)
  case atStart => exact ⟨0, Nat.zero_le _, rfl, rfl⟩
  case round =>
    obtain ⟨k, hk, rfl, rfl⟩ := hrel
    by_cases hlt : k < ks.length
    · have hkk : (k : Int) < ks.length := by omega
      have hcl : cnt (ks.take k) ≤ 1000000 := by
        have := cnt_le (ks.take k)
        rw [List.length_take] at this
        omega
      have HN := Lib.hid (cnt_step hlt)
      rcases HS.out with h0 | ⟨b, off, rfl, hc⟩
      · rw [h0] at hlt; simp at hlt
      have hcell := hc k hlt
      clear hc
      obtain ⟨x, hx⟩ : ∃ x, x = ks.getD k 0 := ⟨_, rfl⟩
      obtain ⟨z, hz⟩ : ∃ z, z = cnt (ks.take k) := ⟨_, rfl⟩
      rw [← hx] at hcell HN
      rw [← hz] at hcl HN ⊢
      clear hx hz
      by_cases h2 : x = 2
      · subst h2
        go_wp2
        go_round
        case rel => exact ⟨k + 1, by omega, by go_num, by rw [HN.out, if_pos rfl]; go_num⟩
        case measure => simp [intOf]; omega
      · have HX := Lib.hid h2
        go_wp2
        go_round
        case rel => exact ⟨k + 1, by omega, by go_num, by rw [HN.out, if_neg HX.out]; go_num⟩
        case measure => simp [intOf]; omega
    · have hk' : k = ks.length := by omega
      subst hk'
      rw [List.take_length]
      obtain ⟨z, hz⟩ : ∃ z, z = cnt ks := ⟨_, rfl⟩
      have HZ := Lib.hid hz
      rw [← hz]
      clear hz
      go_wp2
      go_ret
      rw [← HZ.out]
      exact ⟨rfl, rfl⟩

set_option maxHeartbeats 400000 in
theorem all_any (ao : Option Addr) (c : Nat) (ks : List Int) (w : World) (h : KSrc w ao ks) (hm : ks.length ≤ 1000000) :
    Calls Try.prog 29 #[.slice ao ks.length c] w fun e w' => e = .returned (.int .i64 (cnt ks : Nat)) ∧ w = w' := by
  have HS := Lib.hid h
  clear h
  go_enter Try.func29, Try.ntmps29
  go_wp2
  go_loop [3, 4] (fun vn vi => ∃ k : Nat, k ≤ ks.length ∧ vi = .int .i64 k ∧ vn = .int .i64 (cnt (ks.take k) : Nat)) (fun _ vi => ks.length - (intOf vi).toNat)
  case atStart => exact ⟨0, Nat.zero_le _, rfl, rfl⟩
  case round =>
    obtain ⟨k, hk, rfl, rfl⟩ := hrel
    by_cases hlt : k < ks.length
    · have hkk : (k : Int) < ks.length := by omega
      have hcl : cnt (ks.take k) ≤ 1000000 := by
        have := cnt_le (ks.take k)
        rw [List.length_take] at this
        omega
      have HN := Lib.hid (cnt_step hlt)
      rcases HS.out with h0 | ⟨b, off, rfl, hc⟩
      · rw [h0] at hlt; simp at hlt
      have hcell := hc k hlt
      clear hc
      obtain ⟨x, hx⟩ : ∃ x, x = ks.getD k 0 := ⟨_, rfl⟩
      obtain ⟨z, hz⟩ : ∃ z, z = cnt (ks.take k) := ⟨_, rfl⟩
      rw [← hx] at hcell HN
      rw [← hz] at hcl HN ⊢
      clear hx hz
      by_cases h2 : x = 2
      · subst h2
        go_wp2
        go_round
        case rel => exact ⟨k + 1, by omega, by go_num, by rw [HN.out, if_pos rfl]; go_num⟩
        case measure => simp [intOf]; omega
      · have HX := Lib.hid h2
        go_wp2
        go_round
        case rel => exact ⟨k + 1, by omega, by go_num, by rw [HN.out, if_neg HX.out]; go_num⟩
        case measure => simp [intOf]; omega
    · have hk' : k = ks.length := by omega
      subst hk'
      rw [List.take_length]
      obtain ⟨z, hz⟩ : ∃ z, z = cnt ks := ⟨_, rfl⟩
      have HZ := Lib.hid hz
      rw [← hz]
      clear hz
      go_wp2
      go_ret
      rw [← HZ.out]
      exact ⟨rfl, rfl⟩

/-- A number's kind. -/
def isN (k : Int) : Bool := k == 0 || k == 1
theorem isN_0 : isN 0 = true := rfl
theorem isN_1 : isN 1 = true := rfl
theorem isN_no {k : Int} (h0 : k ≠ 0) (h1 : k ≠ 1) : isN k = false := by simp [isN, h0, h1]
theorem isN_yes {k : Int} (h : isN k = true) : k = 0 ∨ k = 1 := by simpa [isN] using h

theorem isnum_any (k : Int) (w : World) : Calls Try.prog 38 #[.int .i64 k] w fun e w' => e = .returned (.bool (isN k)) ∧ w = w' := by
  have h : Calls Try.prog 38 #[.int .i64 k] w fun e w' => e = .returned (.bool (k == 0 || k == 1)) ∧ w = w' := by
    go_enter Try.func38, Try.ntmps38
    go_wp2
    all_goals go_ret
    all_goals first | exact ⟨rfl, rfl⟩ | (have hk : k = 0 := (by assumption); exact ⟨(by rw [hk]; rfl), rfl⟩)
  exact h

/-! ### Fields -/
structure Fd where
  k : Int
  n : Nat
  b : List Nat
/-- A field as it lies: its bytes' address and room. -/
structure Fe where
  f : Fd
  ao : Option Addr
  c : Nat
def Fe.cells (x : Fe) : List Value := [.int .i64 x.f.k, .int .i64 (x.f.n : Nat), .slice x.ao x.f.b.length x.c]
def fcells (l : List Fe) : List Value := l.flatMap Fe.cells
theorem fcells_len (l : List Fe) : (fcells l).length = l.length * 3 := by
  induction l with
  | nil => rfl
  | cons x r ih => simp only [fcells, List.flatMap_cons, List.length_append] at ih ⊢; rw [ih]; simp [Fe.cells]; omega
theorem fcells_app (a b : List Fe) : fcells (a ++ b) = fcells a ++ fcells b := by simp [fcells]
theorem fcells_one (x : Fe) : fcells [x] = x.cells := by simp [fcells]
theorem fcells_at : ∀ (l : List Fe) (i j : Nat) (x : Fe), l[i]? = some x → j < 3 → (fcells l)[i * 3 + j]? = x.cells[j]?
  | [], i, j, x, h, _ => by simp at h
  | y :: r, 0, j, x, h, hj => by
    simp only [List.getElem?_cons_zero, Option.some.injEq] at h
    subst h
    rw [fcells, List.flatMap_cons, Nat.zero_mul, Nat.zero_add, List.getElem?_append_left (by simp [Fe.cells]; omega)]
  | y :: r, i + 1, j, x, h, hj => by
    rw [fcells, List.flatMap_cons, List.getElem?_append_right (by simp [Fe.cells]; omega)]
    have := fcells_at r i j x (by simpa using h) hj
    rw [fcells] at this
    rw [← this]
    congr 1
    simp [Fe.cells]; omega

/-- A list of fields that lies at the head of a block. -/
def Fs (w : World) (ao : Option Addr) (l : List Fe) : Prop :=
  (∀ x ∈ l, Sl w x.ao x.c x.f.b) ∧ (l = [] ∨ ∃ g, ao = some ⟨g, 0, none⟩ ∧ ∀ j u, (fcells l)[j]? = some u → w.cell? ⟨g, j, none⟩ = some u)
theorem Fs.below {w w' : World} {ao : Option Addr} {l : List Fe} (h : Fs w ao l) (hb : Below w.heap.size w w') : Fs w' ao l := by
  refine ⟨fun x hx => (h.1 x hx).below hb, ?_⟩
  rcases h.2 with h | ⟨g, rfl, hc⟩
  · exact .inl h
  · exact .inr ⟨g, rfl, fun j u hu => by
      have := hc j u hu
      exact (hb.cell (World.block_lt_of_cell? w _ this)).trans this⟩
/-- One of them. -/
structure FAt (w : World) (g i : Nat) (x : Fe) : Prop where
  c0 : w.cell? ⟨g, i * 3, none⟩ = some (.int .i64 x.f.k)
  c1 : w.cell? ⟨g, i * 3 + 1, none⟩ = some (.int .i64 (x.f.n : Nat))
  c2 : w.cell? ⟨g, i * 3 + 2, none⟩ = some (.slice x.ao x.f.b.length x.c)
  sl : Sl w x.ao x.c x.f.b
theorem Fs.get {w : World} {ao : Option Addr} {l : List Fe} (h : Fs w ao l) {i : Nat} {x : Fe} (hx : l[i]? = some x) : ∃ g, ao = some ⟨g, 0, none⟩ ∧ FAt w g i x := by
  rcases h.2 with h0 | ⟨g, rfl, hc⟩
  · rw [h0] at hx; simp at hx
  · exact ⟨g, rfl, hc _ _ (by have := fcells_at l i 0 x hx (by omega); exact this), hc _ _ (by have := fcells_at l i 1 x hx (by omega); exact this), hc _ _ (by have := fcells_at l i 2 x hx (by omega); exact this), h.1 x (List.mem_of_getElem? hx)⟩
theorem FAt.below {w w' : World} {g i : Nat} {x : Fe} (h : FAt w g i x) (hb : Below w.heap.size w w') : FAt w' g i x :=
  ⟨(hb.cell (World.block_lt_of_cell? w _ h.c0)).trans h.c0, (hb.cell (World.block_lt_of_cell? w _ h.c1)).trans h.c1, (hb.cell (World.block_lt_of_cell? w _ h.c2)).trans h.c2, h.sl.below hb⟩

/-- A list of fields of the call's own. -/
structure FOwn (w : World) (base e : Nat) (v : Value) (l : List Fe) : Prop where
  own : w.ownsRow base e 3 v l.length (fcells l)
  sl : ∀ x ∈ l, Sl w x.ao x.c x.f.b
  apart : ∀ x ∈ l, x.f.b ≠ [] → ∀ ad, x.ao = some ad → v.ownBlock ≠ some ad.block

theorem FOwn.below {w w' : World} {base e : Nat} {v : Value} {l : List Fe} (h : FOwn w base e v l) (hb : Below w.heap.size w w') : FOwn w' base e v l :=
  ⟨ownsRow_below h.own hb, fun x hx => (h.sl x hx).below hb, h.apart⟩
theorem FOwn.nil (w : World) (base e : Nat) : FOwn w base e (.slice none 0 0) [] := ⟨World.ownsRow_nil _ _ _ _, (fun x h => by cases h), (fun x h => by cases h)⟩
theorem FOwn.fs {w : World} {base e : Nat} {ao : Option Addr} {c : Nat} {l : List Fe} (h : FOwn w base e (.slice ao l.length c) l) : Fs w ao l := by
  refine ⟨h.sl, ?_⟩
  by_cases h0 : l = []
  · exact .inl h0
  · right
    obtain ⟨g, cap, hv, _, hlt⟩ := h.own.form (List.length_pos_iff.2 h0)
    have hA : ao = some ⟨g, 0, none⟩ := by injection hv
    subst hA
    refine ⟨g, rfl, fun j u hu => ?_⟩
    have := h.own.cells (g := g) rfl j u hu
    rwa [Addr.add_lit, Nat.zero_add] at this
theorem Sl.block_lt {w : World} {ao : Option Addr} {c : Nat} {xs : List Nat} (h : Sl w ao c xs) (hx : xs ≠ []) : ∀ ad, ao = some ad → ad.block < w.heap.size := by
  intro ad e
  rcases h.src with h0 | ⟨b, off, rfl, hc⟩
  · exact absurd h0 hx
  · obtain rfl := Option.some.inj e
    exact World.block_lt_of_cell? w _ (hc 0 (List.length_pos_iff.2 hx))
theorem Sl.touch {S : Nat → Prop} {w w' : World} {ao : Option Addr} {c : Nat} {xs : List Nat} (h : Sl w ao c xs) (ht : Touch S w w') (hs : xs ≠ [] → ∀ ad, ao = some ad → ¬ S ad.block) : Sl w' ao c xs :=
  ⟨h.src.touch ht fun _ _ e hx => hs hx _ e, h.le, h.big, h.nil, h.bs⟩
/-- One more behind. -/
theorem FOwn.app {w w' : World} {base e : Nat} {v v' : Value} {l : List Fe} {x : Fe} (h : FOwn w base e v l) (hx : Sl w x.ao x.c x.f.b) (hap : x.f.b ≠ [] → ∀ ad, x.ao = some ad → v.ownBlock ≠ some ad.block)
    (hA : Apd w base e 3 v (l.length + 1) (fcells l ++ x.cells) v' w') : FOwn w' base e v' (l ++ [x]) := by
  have hall : ∀ y ∈ l ++ [x], Sl w y.ao y.c y.f.b ∧ (y.f.b ≠ [] → ∀ ad, y.ao = some ad → v.ownBlock ≠ some ad.block) := by
    intro y hy
    rcases List.mem_append.1 hy with hy | hy
    · exact ⟨h.sl y hy, h.apart y hy⟩
    · rw [List.mem_singleton] at hy; subst hy; exact ⟨hx, hap⟩
  refine ⟨?_, fun y hy => ?_, fun y hy hne ad had hc => ?_⟩
  · rw [List.length_append, fcells_app, fcells_one]; exact hA.own
  · exact (hall y hy).1.touch hA.touch (hall y hy).2
  · rcases hA.row _ hc with h1 | h1
    · exact (hall y hy).2 hne ad had h1
    · have := (hall y hy).1.block_lt hne ad had
      omega
end Go.Proofs.Ytflabomkgkojlaa
