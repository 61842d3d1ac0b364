/-
  Rows of signs, plainly; rows of signs in memory.
-/
import Derived.Test.YtmnkdnlmpgmdgaaDoorUk
namespace Go.Proofs.YtmnkdnlmpgmdgaaDoor
open Go.RowKit U
set_option maxRecDepth 100000

/-- The signs among numbers. -/
def sgn (zs : List Int) : List Nat := (zs.filter Lib.validRune).map Int.toNat
/-- The bytes of signs. -/
def byt (ss : List Nat) : List Nat := ss.flatMap enc
theorem byt_app (a b : List Nat) : byt (a ++ b) = byt a ++ byt b := List.flatMap_append
theorem byt_one (v : Nat) : byt [v] = enc v := by simp [byt]
theorem take_snoc (zs : List Int) (k : Nat) (h : k < zs.length) : zs.take (k + 1) = zs.take k ++ [zs.getD k 0] := by
  rw [List.take_add_one]
  simp [List.getD, h]
theorem sgn_yes {zs : List Int} {k : Nat} (h : k < zs.length) (hv : Lib.validRune (zs.getD k 0) = true) : sgn (zs.take (k + 1)) = sgn (zs.take k) ++ [(zs.getD k 0).toNat] := by
  rw [take_snoc zs k h, sgn, sgn, List.filter_append, List.map_append]
  congr 1
  simp only [List.filter_cons, hv, if_true, List.filter_nil, List.map_cons, List.map_nil]
theorem sgn_no {zs : List Int} {k : Nat} (h : k < zs.length) (hv : Lib.validRune (zs.getD k 0) = false) : sgn (zs.take (k + 1)) = sgn (zs.take k) := by
  have e : [zs.getD k 0].filter Lib.validRune = [] := by rw [List.filter_cons, hv]; rfl
  rw [take_snoc zs k h, sgn, sgn, List.filter_append, List.map_append, e, List.map_nil, List.append_nil]
theorem sgn_sign (zs : List Int) : ∀ v ∈ sgn zs, isSign v := fun v hv => by
  obtain ⟨z, hz, rfl⟩ := List.mem_map.1 hv
  obtain ⟨v, rfl, h⟩ := sign_of (List.mem_filter.1 hz).2
  exact h
theorem sgn_len (zs : List Int) : (sgn zs).length ≤ zs.length := by
  rw [sgn, List.length_map]; exact List.length_filter_le _ _
theorem byt_bs {ss : List Nat} (h : ∀ v ∈ ss, isSign v) : Bs (byt ss) := fun x hx => by
  obtain ⟨v, hv, hx⟩ := List.mem_flatMap.1 hx
  exact enc_byte (h v hv).1 x hx
theorem byt_len (ss : List Nat) : (byt ss).length ≤ 4 * ss.length := by
  induction ss with
  | nil => simp [byt]
  | cons v t ih =>
    have := enc_le v
    simp only [byt, List.flatMap_cons, List.length_append, List.length_cons] at ih ⊢
    omega
/-- A sign behind the bytes of signs. -/
theorem putL_yes {ss : List Nat} {z : Int} (hv : Lib.validRune z = true) : putL (byt ss) z = byt (ss ++ [z.toNat]) := by
  unfold putL; rw [if_pos hv, byt_app, byt_one]
theorem putL_no {xs : List Nat} {z : Int} (hv : Lib.validRune z = false) : putL xs z = xs := by
  unfold putL; rw [hv]; rfl
/-- The sign at the place of one of them. -/
theorem nx_at {ss : List Nat} (h : ∀ v ∈ ss, isSign v) {k : Nat} (hk : k < ss.length) : nx ((byt ss).drop (byt (ss.take k)).length) = (ss.getD k 0, (enc (ss.getD k 0)).length) := by
  have e : ss = ss.take k ++ (ss.getD k 0 :: ss.drop (k + 1)) := by
    have e0 : ss.getD k 0 = ss[k] := by simp [List.getD, hk]
    rw [e0, ← List.drop_eq_getElem_cons hk, List.take_append_drop]
  have e2 : byt ss = byt (ss.take k) ++ (enc (ss.getD k 0) ++ byt (ss.drop (k + 1))) := by
    conv => lhs; rw [e]
    rw [byt_app]
    congr 1
  rw [e2, List.drop_left]
  refine nx_enc (h _ ?_) _
  simp [List.getD, hk]
theorem byt_snoc {ss : List Nat} {k : Nat} (hk : k < ss.length) : (byt (ss.take (k + 1))).length = (byt (ss.take k)).length + (enc (ss.getD k 0)).length := by
  rw [take_next ss k hk, byt_app, byt_one, List.length_append]
/-- Bytes of signs that are all as they must be, and where not. -/
theorem al_signs (p : Nat → Bool) : ∀ (ss : List Nat) (k : Nat), (∀ v ∈ ss, isSign v) → (al p (byt ss) k).isNone = ss.all p
  | [], k, _ => rfl
  | v :: t, k, h => by
    have hv := h v (by simp)
    have hne : byt (v :: t) ≠ [] := fun e => by
      have := congrArg List.length e
      have hp := enc_pos v
      simp only [byt, List.flatMap_cons, List.length_append, List.length_nil] at this
      omega
    have e : byt (v :: t) = enc v ++ byt t := by simp [byt]
    have hp := enc_pos v
    rw [al_step p hne, e, nx_enc hv]
    simp only
    by_cases c : p v = true
    · have hn : ¬ ((enc v).length = 0 ∨ p v = false) := fun h1 => by
        rcases h1 with h1 | h1
        · omega
        · rw [c] at h1; cases h1
      rw [if_neg hn, List.drop_left, al_signs p t _ fun x hx => h x (by simp [hx])]
      simp [c]
    · rw [if_pos (.inr (by simpa using c))]
      simp [c]
theorem alA_signs (p : Nat → Bool) {ss : List Nat} (h : ∀ v ∈ ss, isSign v) : (alA p (byt ss)).2 = ss.all p := by
  rw [← al_signs p ss 0 h]
  unfold alA
  cases al p (byt ss) 0 <;> rfl
theorem all_snoc (p : Nat → Bool) (ss : List Nat) (v : Nat) : (ss ++ [v]).all p = (ss.all p && p v) := by simp

/-- Signs that came in. -/
def RS (w : World) (ao : Option Addr) (zs : List Int) : Prop := zs = [] ∨ ∃ b off, ao = some ⟨b, off, none⟩ ∧ ∀ j, j < zs.length → w.cell? ⟨b, off + j, none⟩ = some (.int .i32 (zs.getD j 0))
theorem RS.below {w w' : World} {ao : Option Addr} {zs : List Int} (h : RS w ao zs) (hb : Below w.heap.size w w') : RS w' ao zs := by
  rcases h with h | ⟨b, off, h1, h2⟩
  · exact .inl h
  · exact .inr ⟨b, off, h1, fun j hj => (hb.cell (World.block_lt_of_cell? w _ (h2 j hj))).trans (h2 j hj)⟩
theorem RS.at {w : World} {ao : Option Addr} {zs : List Int} (h : RS w ao zs) {k : Nat} (hk : k < zs.length) : ∃ b off, ao = some ⟨b, off, none⟩ ∧ w.cell? ⟨b, off + k, none⟩ = some (.int .i32 (zs.getD k 0)) := by
  rcases h with h | ⟨b, off, h1, h2⟩
  · rw [h] at hk; simp at hk
  · exact ⟨b, off, h1, h2 k hk⟩
/-- Signs in a row of the call's own. -/
def r32 (ss : List Nat) : List Value := ss.map fun x : Nat => Value.int .i32 (x : Int)
theorem r32_len (ss : List Nat) : (r32 ss).length = ss.length := by simp [r32]
theorem r32_app (a b : List Nat) : r32 a ++ r32 b = r32 (a ++ b) := by simp [r32]
theorem at39 : AT 39 21 (.int .i32 0) 1 4 := ⟨by kernel_rfl, by kernel_rfl, rfl, by omega⟩
theorem own32_cell {w : World} {base : Nat} {a : Option Addr} {n c : Nat} {ss : List Nat} (h : w.ownsRow base 21 1 (.slice a n c) n (r32 ss)) {k : Nat} (hk : k < ss.length) : ∃ g, a = some ⟨g, 0, none⟩ ∧ w.cell? ⟨g, k, none⟩ = some (.int .i32 (ss.getD k 0 : Nat)) := by
  have hl : (r32 ss).length = n := by have := h.1; omega
  rcases h.2 with ⟨h0, h1⟩ | ⟨g, cap, cur, hv, hb', hh, hnc, hcm, hcs, htake⟩
  · rw [r32_len] at hl; omega
  · injection hv with e1 e2 e3
    subst e1
    refine ⟨g, rfl, ?_⟩
    have := h.cells (g := g) rfl k (.int .i32 (ss.getD k 0 : Nat)) (by simp [r32, List.getD, hk])
    rwa [Addr.add_lit, Nat.zero_add] at this
end Go.Proofs.YtmnkdnlmpgmdgaaDoor
