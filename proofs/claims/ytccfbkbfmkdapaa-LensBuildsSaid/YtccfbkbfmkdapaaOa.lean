/-
  Contracts: outside and its closure, ContainsFunc over it.
-/
import Derived.Test.YtccfbkbfmkdapaaG
namespace Go.Proofs.Ytccfbkbfmkdapaa
open Go.RowKit

/-- A number that is not within bounds. -/
def Bad (l m n : Int) : Prop := n < l ∨ m < n
instance (l m n : Int) : Decidable (Bad l m n) := inferInstanceAs (Decidable (_ ∨ _))
/-- The bounds that such a closure has kept. -/
structure Kept (w : World) (p q : Nat) (l m : Int) : Prop where
  lo : w.cell? ⟨p, 0, none⟩ = some (.int .i64 l)
  hi : w.cell? ⟨q, 0, none⟩ = some (.int .i64 m)
def fnOut (p q : Nat) : Value := .func (.func 35) #[] #[.pointer (some ⟨p, 0, none⟩), .pointer (some ⟨q, 0, none⟩)]
theorem Kept.below {w w' : World} {p q : Nat} {l m : Int} {B : Nat} (h : Kept w p q l m) (hb : Below B w w') (hp : p < B) (hq : q < B) : Kept w' p q l m :=
  ⟨(hb.cell (p := ⟨p, 0, none⟩) hp).trans h.lo, (hb.cell (p := ⟨q, 0, none⟩) hq).trans h.hi⟩
theorem Kept.lt {w : World} {p q : Nat} {l m : Int} (h : Kept w p q l m) : p < w.heap.size ∧ q < w.heap.size :=
  ⟨World.block_lt_of_cell? w _ h.lo, World.block_lt_of_cell? w _ h.hi⟩
theorem Kept.on {w w' : World} {p q : Nat} {l m : Int} (h : Kept w p q l m) (hb : Below w.heap.size w w') : Kept w' p q l m := h.below hb h.lt.1 h.lt.2
theorem Kept.drewN {w : World} {p q : Nat} {l m : Int} (h : Kept w p q l m) (n : Nat) : Kept (w.drewN n) p q l m := ⟨h.lo, h.hi⟩

/-- A closure that tells numbers out of bounds has been made. -/
def MadeOut (l m : Int) (w : World) (e : Ending) (w' : World) : Prop := ∃ p q, e = .returned (fnOut p q) ∧ Kept w' p q l m ∧ Below w.heap.size w w' ∧ w.heap.size ≤ p ∧ w.heap.size ≤ q

theorem outside_any (l m : Int) (w : World) : Calls Try.prog 21 #[.int .i64 l, .int .i64 m] w (MadeOut l m w) := by
  go_enter Try.func21, Try.ntmps21
  go_wp2
  go_ret
  refine ⟨_, _, rfl, ?_, ((Below.refl _ w).alloc (Nat.le_refl _) _).alloc (by simp) _, Nat.le_refl _, by simp⟩
  exact ⟨by simp, by simp⟩

theorem bad_yes (p q : Nat) (l m n : Int) (w : World) (hK : Kept w p q l m) (h : Bad l m n) :
    Calls Try.prog 35 #[.int .i64 n, .pointer (some ⟨p, 0, none⟩), .pointer (some ⟨q, 0, none⟩)] w fun e w' => e = .returned (.bool true) ∧ w' = w := by
  have h1 := hK.lo
  have h2 := hK.hi
  clear hK
  by_cases c : n < l
  · go_enter Try.func35, Try.ntmps35
    go_wp2
    go_ret
    exact ⟨rfl, rfl⟩
  · have c2 : m < n := by rcases h with h | h; exact absurd h c; exact h
    have c' : l ≤ n := Int.not_lt.mp c
    clear h c
    go_enter Try.func35, Try.ntmps35
    go_wp2
    go_ret
    exact ⟨rfl, rfl⟩
theorem bad_no (p q : Nat) (l m n : Int) (w : World) (hK : Kept w p q l m) (h : ¬ Bad l m n) :
    Calls Try.prog 35 #[.int .i64 n, .pointer (some ⟨p, 0, none⟩), .pointer (some ⟨q, 0, none⟩)] w fun e w' => e = .returned (.bool false) ∧ w' = w := by
  have h1 := hK.lo
  have h2 := hK.hi
  have c1 : l ≤ n := Int.not_lt.mp fun c => h (.inl c)
  have c2 : n ≤ m := Int.not_lt.mp fun c => h (.inr c)
  clear hK h
  have d2 : decide (m < n) = false := decide_eq_false (by omega)
  have d1 : decide (n < l) = false := decide_eq_false (by omega)
  go_enter Try.func35, Try.ntmps35
  go_wp2
  go_ret
  exact ⟨rfl, rfl⟩
theorem bad_any (p q : Nat) (l m n : Int) (w : World) (hK : Kept w p q l m) :
    Calls Try.prog 35 #[.int .i64 n, .pointer (some ⟨p, 0, none⟩), .pointer (some ⟨q, 0, none⟩)] w fun e w' => e = .returned (.bool (decide (Bad l m n))) ∧ w' = w := by
  by_cases h : Bad l m n
  · rw [decide_eq_true h]; exact bad_yes p q l m n w hK h
  · rw [decide_eq_false h]; exact bad_no p q l m n w hK h

set_option maxHeartbeats 800000 in
theorem index_no (ao : Option Addr) (c p q : Nat) (l m : Int) (zs : List Int) (w : World) (hl : zs.length ≤ 1000) (h : IS w ao zs) (hK : Kept w p q l m) (hg : ∀ z ∈ zs, ¬ Bad l m z) :
    Calls Try.prog 36 #[.slice ao zs.length c, fnOut p q] w fun e w' => e = .returned (.int .i64 (-1)) ∧ w' = w := by
  have HI := Lib.hid h
  have HK := Lib.hid hK
  have HG := Lib.hid hg
  clear h hK hg
  unfold fnOut
  go_enter Try.func36, Try.ntmps36
  go_wp2
  go_loop [8] (fun i => ∃ k : Nat, k ≤ zs.length ∧ i = .int .i64 k) (fun i => zs.length - (intOf i).toNat)
  case atStart => exact ⟨0, Nat.zero_le _, rfl⟩
  case round =>
    obtain ⟨k, hk, rfl⟩ := hrel
    by_cases hlt : k < zs.length
    · have hkk : (k : Int) < zs.length := by omega
      obtain ⟨b, off, rfl, hcell⟩ := HI.out.at hlt
      have HB := Lib.hid (HG.out _ (getD_mem hlt))
      obtain ⟨x, hx⟩ : ∃ x, x = zs.getD k 0 := ⟨_, rfl⟩
      rw [← hx] at hcell HB
      clear hx
      go_wp2_with (go_at_call 35; (refine (bad_no p q l m x _ HK.out HB.out).mono ?_); rintro e w' ⟨rfl, rfl⟩)
      go_round
      case rel => exact ⟨k + 1, by omega, by go_num⟩
      case measure => simp [intOf]; omega
    · have hk' : k = zs.length := by omega
      subst hk'
      go_wp2
      go_ret
      exact ⟨rfl, rfl⟩
set_option maxHeartbeats 800000 in
theorem index_yes (ao : Option Addr) (c p q : Nat) (l m : Int) (zs : List Int) (w : World) (hl : zs.length ≤ 1000) (h : IS w ao zs) (hK : Kept w p q l m) (hg : ∃ z ∈ zs, Bad l m z) :
    Calls Try.prog 36 #[.slice ao zs.length c, fnOut p q] w fun e w' => (∃ k : Nat, e = .returned (.int .i64 k)) ∧ w' = w := by
  have HI := Lib.hid h
  have HK := Lib.hid hK
  have HG := Lib.hid hg
  clear h hK hg
  unfold fnOut
  go_enter Try.func36, Try.ntmps36
  go_wp2
  go_loop [8] (fun i => ∃ k : Nat, k ≤ zs.length ∧ i = .int .i64 k ∧ ∀ j, j < k → ¬ Bad l m (zs.getD j 0)) (fun i => zs.length - (intOf i).toNat)
  case atStart => exact ⟨0, Nat.zero_le _, rfl, fun j hj => absurd hj (Nat.not_lt_zero j)⟩
  case round =>
    obtain ⟨k, hk, rfl, hj⟩ := hrel
    have HJ := Lib.hid hj
    clear hj
    by_cases hlt : k < zs.length
    · have hkk : (k : Int) < zs.length := by omega
      obtain ⟨b, off, rfl, hcell⟩ := HI.out.at hlt
      obtain ⟨x, hx⟩ : ∃ x, x = zs.getD k 0 := ⟨_, rfl⟩
      have HX := Lib.hid hx
      rw [← hx] at hcell
      clear hx
      by_cases hb : Bad l m x
      · have HB := Lib.hid hb
        clear hb
        go_wp2_with (go_at_call 35; (refine (bad_yes p q l m x _ HK.out HB.out).mono ?_); rintro e w' ⟨rfl, rfl⟩)
        go_ret
        exact ⟨⟨k, rfl⟩, rfl⟩
      · have HB := Lib.hid hb
        clear hb
        go_wp2_with (go_at_call 35; (refine (bad_no p q l m x _ HK.out HB.out).mono ?_); rintro e w' ⟨rfl, rfl⟩)
        go_round
        case rel =>
          refine ⟨k + 1, by omega, by go_num, fun j hj => ?_⟩
          by_cases e : j = k
          · subst e; rw [← HX.out]; exact HB.out
          · exact HJ.out j (by omega)
        case measure => simp [intOf]; omega
    · exfalso
      obtain ⟨z, hz, hb⟩ := HG.out
      obtain ⟨j, hj, rfl⟩ := List.getElem_of_mem hz
      have := HJ.out j (by omega)
      simp [List.getD, hj] at this
      exact this hb
/-- One is out of bounds. -/
def anyBad (l m : Int) (zs : List Int) : Bool := zs.any fun z => decide (Bad l m z)
theorem contains_any (ao : Option Addr) (c p q : Nat) (l m : Int) (zs : List Int) (w : World) (hl : zs.length ≤ 1000) (h : IS w ao zs) (hK : Kept w p q l m) :
    Calls Try.prog 22 #[.slice ao zs.length c, fnOut p q] w fun e w' => e = .returned (.bool (anyBad l m zs)) ∧ w' = w := by
  by_cases hg : ∃ z ∈ zs, Bad l m z
  · have HR := Lib.hid (index_yes ao c p q l m zs w hl h hK hg)
    have e : anyBad l m zs = true := by
      obtain ⟨z, hz, hb⟩ := hg
      unfold anyBad
      rw [List.any_eq_true]
      exact ⟨z, hz, decide_eq_true hb⟩
    rw [e]
    clear h hK hg e
    unfold fnOut at HR ⊢
    go_enter Try.func22, Try.ntmps22
    go_wp2_with (go_at_call 36; (with_reducible refine HR.out.mono ?_); rintro e w' ⟨⟨k, rfl⟩, rfl⟩)
    go_ret
    exact ⟨by simp, rfl⟩
  · have HR := Lib.hid (index_no ao c p q l m zs w hl h hK fun z hz hb => hg ⟨z, hz, hb⟩)
    have e : anyBad l m zs = false := by
      unfold anyBad
      rw [List.any_eq_false]
      intro z hz hb
      exact hg ⟨z, hz, of_decide_eq_true hb⟩
    rw [e]
    clear h hK hg e
    unfold fnOut at HR ⊢
    go_enter Try.func22, Try.ntmps22
    go_wp2_with (go_at_call 36; (with_reducible refine HR.out.mono ?_); rintro e w' ⟨rfl, rfl⟩)
    go_ret
    exact ⟨by simp, rfl⟩
end Go.Proofs.Ytccfbkbfmkdapaa
