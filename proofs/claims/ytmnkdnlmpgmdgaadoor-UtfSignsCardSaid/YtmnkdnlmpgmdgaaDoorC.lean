
/-
  Small calls on bytes: number, clone, compare, numbers appended.
-/
import Derived.Test.YtmnkdnlmpgmdgaaDoorB
import Derived.Shelf.Slices.Clone
namespace Go.Proofs.YtmnkdnlmpgmdgaaDoor
open Go.RowKit

theorem or_i64 (a b : Nat) (ha : a < 9223372036854775808) (hb : b < 9223372036854775808) : bits BinOp.or IntKind.i64 (a : Int) (b : Int) = ((a ||| b : Nat) : Int) := by
  have hx : a ||| b < 2 ^ 63 := Nat.or_lt_two_pow (by omega) (by omega)
  have h1 : (BitVec.ofInt 64 (a : Int)).toNat = a := by
    rw [BitVec.ofInt_natCast, BitVec.toNat_ofNat]; exact Nat.mod_eq_of_lt (by omega)
  have h2 : (BitVec.ofInt 64 (b : Int)).toNat = b := by
    rw [BitVec.ofInt_natCast, BitVec.toNat_ofNat]; exact Nat.mod_eq_of_lt (by omega)
  show IntKind.i64.wrap ((BitVec.ofInt 64 (a : Int) ||| BitVec.ofInt 64 (b : Int)).toNat : Int) = _
  rw [BitVec.toNat_or, h1, h2, IntKind.wrap_i64]
  omega

theorem take_next (l : List Nat) (k : Nat) (h : k < l.length) : l.take (k + 1) = l.take k ++ [l.getD k 0] := by
  rw [List.take_add_one]
  simp [List.getD, h]

theorem num_step {xs : List Nat} {k x z : Nat} (hb : Bs xs) (hk : k < xs.length) (hl : xs.length ≤ 4) (hx : x = xs.getD k 0) (hz : z = num (xs.take k)) :
    bits BinOp.or IntKind.i64 (z : Int) (wrap64 ((x : Int) * 2 ^ (8 * k))) = ((num (xs.take (k + 1)) : Nat) : Int) := by
  have h1 : z < 256 ^ k := by
    have := num_lt (hb.take k)
    rw [List.length_take, Nat.min_eq_left (by omega)] at this
    omega
  have h2 : x < 256 := by rw [hx]; exact hb.at k
  rw [take_next xs k hk, num_app, ← hx, ← hz, List.length_take, Nat.min_eq_left (by omega)]
  have e256 : (256 : Nat) ^ k = 2 ^ (8 * k) := by rw [Nat.pow_mul]
  have h3 : num [x] = x := by simp [num]
  rw [h3]
  have h4 : x * 2 ^ (8 * k) < 4294967296 ∧ 256 ^ k * x < 4294967296 ∧ z < 4294967296 := by
    have p1 : 2 ^ (8 * k) ≤ 2 ^ 24 := Nat.pow_le_pow_right (by omega) (by omega)
    have p2 : (2 : Nat) ^ 24 = 16777216 := by decide
    rw [p2] at p1
    rw [e256] at ⊢
    rw [e256] at h1
    have p3 : x * 2 ^ (8 * k) ≤ 255 * 16777216 := Nat.mul_le_mul (by omega) p1
    have p4 := Nat.mul_comm (2 ^ (8 * k)) x
    omega
  have h5 : wrap64 ((x : Int) * 2 ^ (8 * k)) = ((x * 2 ^ (8 * k) : Nat) : Int) := by
    have : (x : Int) * 2 ^ (8 * k) = ((x * 2 ^ (8 * k) : Nat) : Int) := by simp
    rw [this]
    unfold wrap64
    omega
  have q0 : x * 2 ^ (8 * k) < 4294967296 := h4.1
  have q1 : z < 9223372036854775808 := Nat.lt_trans h4.2.2 (by decide)
  have q2 : x * 2 ^ (8 * k) < 9223372036854775808 := Nat.lt_trans q0 (by decide)
  rw [e256] at h1
  have q4 := Nat.two_pow_add_eq_or_of_lt (i := 8 * k) h1 x
  rw [h5, or_i64 _ _ q1 q2, e256]
  congr 1
  rw [Nat.or_comm, Nat.mul_comm x, ← q4, Nat.add_comm]

theorem clone_nil (c : Nat) (w : World) (n : Nat) :
    Calls Tryd.prog 34 #[.slice none n c] w fun e w' => e = .returned (.slice none 0 0) ∧ w = w' := by
  have q22 : ∀ (w : World) (a : Option Addr) (n c n' c' : Nat), (binOp .eql 22 (.slice a n c) (.slice none n' c')).run Tryd.prog w = .ok (.bool a.isNone) w := fun w a n c n' c' => Lib.run_eql_slice_nil w _ _ a n c n' c' Tryd.underlying22
  go_enter Tryd.func34, Tryd.ntmps34
  go_wp2
  go_ret
  exact ⟨rfl, rfl⟩

/-- A slice of these bytes in memory of the call's own. -/
def Fresh (B : Nat) (w' : World) (ao : Option Addr) (c : Nat) (xs : List Nat) : Prop := Sl w' ao c xs ∧ ∀ ad, ao = some ad → B ≤ ad.block
def Cloned (xs : List Nat) (w : World) (e : Ending) (w' : World) : Prop := ∃ ao c, e = .returned (.slice ao xs.length c) ∧ Fresh w.heap.size w' ao c xs ∧ Below w.heap.size w w'

theorem clone_some (ad : Addr) (c : Nat) (xs : List Nat) (w : World) (h : Sl w (some ad) c xs) (hm : xs.length ≤ 1000000000) :
    Calls Tryd.prog 34 #[.slice (some ad) xs.length c] w (Cloned xs w) := by
  have q22 : ∀ (w : World) (a : Option Addr) (n c n' c' : Nat), (binOp .eql 22 (.slice a n c) (.slice none n' c')).run Tryd.prog w = .ok (.bool a.isNone) w := fun w a n c n' c' => Lib.run_eql_slice_nil w _ _ a n c n' c' Tryd.underlying22
  have HS := Lib.hid (h.below ((Below.refl _ w).alloc (Nat.le_refl _) (.cells #[] 5)))
  have hbs := h.bs
  clear h
  go_enter Tryd.func34, Tryd.ntmps34
  go_wp2_with (at_builtin; refine wpList_append_x at22 rfl (.tmp 5) (.tmp 6) rfl w.heap.size (.slice (some ⟨w.heap.size, 0, none⟩) 0 0) (.slice (some ad) xs.length c) 0 xs.length [] (u8s xs) rfl rfl (own_empty w 5 1) HS.out.cells (by rw [u8s_len, Nat.mul_one]) (u8s_one xs) (by simp) (by omega) (by omega) ?c2)
  case c2 =>
  intro ao c' w' hA
  have hA' : Apd (w.alloc (.cells #[] 5)) w.heap.size 5 1 (.slice (some ⟨w.heap.size, 0, none⟩) 0 0) xs.length (u8s xs) (.slice ao xs.length c') w' := by simpa using hA
  have hb : Below w.heap.size w w' := ((Below.refl _ w).alloc (Nat.le_refl _) _).trans (hA'.below (own_empty w 5 1) (by simp))
  have hf : Fresh w.heap.size w' ao c' xs := ⟨own_sl hA'.own hbs, fun a ha => by
    subst ha
    exact (hA'.own.lt a.block rfl).1⟩
  clear hA hA' HS
  go_wp2
  go_ret
  exact ⟨ao, c', rfl, hf, hb⟩

/-- bytes.Clone. -/
theorem clone_any (ao : Option Addr) (c : Nat) (xs : List Nat) (w : World) (h : Sl w ao c xs) (hm : xs.length ≤ 1000000000) :
    Calls Tryd.prog 34 #[.slice ao xs.length c] w (Cloned xs w) := by
  cases ao with
  | none =>
    have h0 := h.nil rfl
    have h1 := h.le
    have hx : xs = [] := List.eq_nil_of_length_eq_zero (by omega)
    subst hx
    exact (clone_nil c w 0).mono fun e w' ⟨he, hw⟩ => by subst hw; exact ⟨none, 0, he, ⟨Sl.none_ w, fun _ h => by cases h⟩, Below.refl _ _⟩
  | some ad => exact clone_some ad c xs w h hm

def Drew (w w' : World) : Prop := ∃ q, w' = w.drewN q

set_option maxHeartbeats 400000 in
theorem same_eq (a1 a2 : Option Addr) (c1 c2 : Nat) (xs : List Nat) (w : World) (h1 : Sl w a1 c1 xs) (h2 : Sl w a2 c2 xs) :
    Calls Tryd.prog 14 #[.slice a1 xs.length c1, .slice a2 xs.length c2] w fun e w' => e = .returned (.bool true) ∧ Drew w w' := by
  have H1 := Lib.hid h1
  have H2 := Lib.hid h2
  have hm := h1.le
  have hm2 := h1.big
  unfold maxLen at hm2
  clear h1 h2
  go_enter Tryd.func14, Tryd.ntmps14
  go_wp2
  go_loopg [5] xs.length (fun gh vi wr => ∃ (k q : Nat), k ≤ xs.length ∧ xs.length - k ≤ gh ∧ vi = .int .i64 k ∧ wr = w.drewN q)
  case atStart => exact ⟨0, 0, Nat.zero_le _, by omega, rfl, rfl⟩
  case round =>
    obtain ⟨k, q, hk, hgh, rfl, rfl⟩ := hrel
    by_cases hlt : k < xs.length
    · have hkk : (k : Int) < xs.length := by omega
      rcases H1.out.src with h0 | ⟨b1, o1, rfl, hc1⟩
      · rw [h0] at hlt; simp at hlt
      rcases H2.out.src with h0 | ⟨b2, o2, rfl, hc2⟩
      · rw [h0] at hlt; simp at hlt
      have e1 := hc1 k hlt
      have e2 := hc2 k hlt
      clear hc1 hc2
      go_wp2_with fail
      go_quiet (fail)
      go_wp2
      go_roundg (xs.length - (k + 1))
      case measure => omega
      case rel => exact ⟨k + 1, _, by omega, Nat.le_refl _, by go_num, (by first | rfl | exact World.drewN_drewN _ _ _)⟩
    · go_wp2
      go_ret
      exact ⟨rfl, _, rfl⟩

/-! ### Numbers appended -/
theorem shr_step (n : Int) (k : Nat) : (n / 2 ^ (8 * k)) % 256 = n / 256 ^ k % 256 := by
  rw [Int.pow_mul]; rfl

theorem cells_one (w : World) (e : TypeId) (u : Value) : CellsAt (w.alloc (.cells #[u] e)) (.slice (some ⟨w.heap.size, 0, none⟩) 1 1) 1 [u] := by
  refine .inr ⟨_, _, rfl, fun j v hv => ?_⟩
  have hj : j = 0 := by
    have := (List.getElem?_eq_some_iff.1 hv).1
    simp at this; omega
  subst hj
  rw [Addr.add_lit, World.cell?_alloc_at _ _ _ _ rfl]
  simpa using hv

def PutN (base : Nat) (v : Value) (xs : List Nat) (w : World) (e : Ending) (w' : World) : Prop := ∃ ao c, e = .returned (.slice ao xs.length c) ∧ Apd w base 5 1 v xs.length (u8s xs) (.slice ao xs.length c) w'

end Go.Proofs.YtmnkdnlmpgmdgaaDoor
