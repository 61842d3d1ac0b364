
/-
  Rows of tokens in memory.
-/
import Derived.Test.YtjjjchdocnoabaaDoorMp
import Derived.Test.YtjjjchdocnoabaaDoorG
import Derived.Test.YtjjjchdocnoabaaDoorJ
import Derived.Test.YtjjjchdocnoabaaDoorF
namespace Go.Proofs.YtjjjchdocnoabaaDoor
open Go.RowKit
set_option maxRecDepth 100000

/-- The cells of tokens. -/
def tcl (r : List M.Tok) : List Value := r.flatMap fun t => [.int .u8 (t.lit : Nat), .int .i64 (t.len : Nat), .int .i64 (t.dist : Nat)]
theorem tcl_cons (t : M.Tok) (r : List M.Tok) : tcl (t :: r) = .int .u8 (t.lit : Nat) :: .int .i64 (t.len : Nat) :: .int .i64 (t.dist : Nat) :: tcl r := rfl
theorem tcl_app (a b : List M.Tok) : tcl a ++ tcl b = tcl (a ++ b) := by simp [tcl]
theorem tcl_len (r : List M.Tok) : (tcl r).length = r.length * 3 := by
  induction r with
  | nil => rfl
  | cons t r ih => rw [tcl_cons, List.length_cons, List.length_cons, List.length_cons, ih, List.length_cons]; omega
theorem tcl_one (r : List M.Tok) : ∀ u ∈ tcl r, u.oneCell' = true := by
  induction r with
  | nil => intro u hu; cases hu
  | cons t r ih =>
    intro u hu
    rw [tcl_cons, List.mem_cons, List.mem_cons, List.mem_cons] at hu
    rcases hu with rfl | rfl | rfl | hu
    · rfl
    · rfl
    · rfl
    · exact ih u hu
/-- The token at a place. -/
def tk (r : List M.Tok) (k : Nat) : M.Tok := r.getD k ⟨0, 0, 0⟩
theorem tcl_at (r : List M.Tok) (k : Nat) (h : k < r.length) : (tcl r)[k * 3]? = some (.int .u8 ((tk r k).lit : Nat)) ∧ (tcl r)[k * 3 + 1]? = some (.int .i64 ((tk r k).len : Nat)) ∧ (tcl r)[k * 3 + 2]? = some (.int .i64 ((tk r k).dist : Nat)) := by
  induction r generalizing k with
  | nil => simp at h
  | cons t r ih =>
    cases k with
    | zero => exact ⟨rfl, rfl, rfl⟩
    | succ k =>
      have := ih k (by simpa using h)
      rw [tcl_cons, show (k + 1) * 3 = k * 3 + 1 + 1 + 1 by omega]
      simp only [List.getElem?_cons_succ, show k * 3 + 1 + 1 + 1 + 1 = k * 3 + 1 + 1 + 1 + 1 from rfl]
      exact this
theorem tk_take (r : List M.Tok) (k : Nat) (h : k < r.length) : r.take (k + 1) = r.take k ++ [tk r k] := by
  rw [List.take_succ_eq_append_getElem h]
  unfold tk
  rw [List.getD_eq_getElem?_getD, List.getElem?_eq_getElem h]; rfl
theorem tk_mem (r : List M.Tok) (k : Nat) (h : k < r.length) : tk r k ∈ r := by
  unfold tk
  rw [List.getD_eq_getElem?_getD, List.getElem?_eq_getElem h]
  exact List.getElem_mem h

/-- A slice's address at which these tokens lie. -/
def KS (w : World) (ao : Option Addr) (r : List M.Tok) : Prop := r = [] ∨ ∃ b off, ao = some ⟨b, off, none⟩ ∧ w.rangeAt b off (tcl r)
theorem KS.on {w w' : World} {ao : Option Addr} {r : List M.Tok} (h : KS w ao r) (hb : Below w.heap.size w w') : KS w' ao r := by
  rcases h with h | ⟨b, off, rfl, hc⟩
  · exact .inl h
  · exact .inr ⟨b, off, rfl, fun j v hv => by
      have := hc j v hv
      exact (hb.cell (World.block_lt_of_cell? w _ this)).trans this⟩
theorem KS.at {w : World} {ao : Option Addr} {r : List M.Tok} (h : KS w ao r) {k : Nat} (hk : k < r.length) :
    ∃ b off, ao = some ⟨b, off, none⟩ ∧ w.cell? ⟨b, off + k * 3, none⟩ = some (.int .u8 ((tk r k).lit : Nat)) ∧ w.cell? ⟨b, off + k * 3 + 1, none⟩ = some (.int .i64 ((tk r k).len : Nat)) ∧ w.cell? ⟨b, off + k * 3 + 2, none⟩ = some (.int .i64 ((tk r k).dist : Nat)) := by
  rcases h with rfl | ⟨b, off, rfl, hc⟩
  · simp at hk
  · obtain ⟨h1, h2, h3⟩ := tcl_at r k hk
    exact ⟨b, off, rfl, hc _ _ h1, by have := hc _ _ h2; rwa [← Nat.add_assoc] at this, by have := hc _ _ h3; rwa [← Nat.add_assoc] at this⟩
theorem KS.take {w : World} {ao : Option Addr} {r : List M.Tok} (h : KS w ao r) (k : Nat) : KS w ao (r.take k) := by
  rcases h with rfl | ⟨b, off, rfl, hc⟩
  · exact .inl (by simp)
  · refine .inr ⟨b, off, rfl, fun j v hv => hc j v ?_⟩
    have hsplit : tcl r = tcl (r.take k) ++ tcl (r.drop k) := by rw [tcl_app, List.take_append_drop]
    rw [hsplit, List.getElem?_append_left (List.getElem?_eq_some_iff.1 hv).1]
    exact hv
theorem own_ks {w : World} {base e : Nat} {ao : Option Addr} {c n : Nat} {r : List M.Tok} (h : w.ownsRow base e 3 (.slice ao n c) n (tcl r)) (hn : r.length = n) : KS w ao r := by
  subst hn
  rcases h.2 with ⟨e, h0⟩ | ⟨g, cap, cur, e, hbg, hh, hnc, hcm, hcs, htake⟩
  · exact .inl (List.eq_nil_of_length_eq_zero h0)
  · simp only [Value.slice.injEq] at e
    obtain ⟨rfl, _, rfl⟩ := e
    refine .inr ⟨g, 0, rfl, fun j v hv => ?_⟩
    have hj : j < r.length * 3 := by
      have := (List.getElem?_eq_some_iff.1 hv).1
      rwa [tcl_len] at this
    rw [Nat.zero_add, World.ownsRow.cellAt h j (by omega), hv]
theorem cells_three (w : World) (e : TypeId) (x y z : Value) : CellsAt (w.alloc (.cells #[x, y, z] e)) (.slice (some ⟨w.heap.size, 0, none⟩) 1 1) 1 [x, y, z] := by
  refine .inr ⟨_, 1, rfl, fun j u hu => ?_⟩
  rw [Addr.add_lit, Nat.zero_add, (Blk.made w e _).cell]
  simpa using hu
theorem at_rtok : AT 30 51 (.agg #[.int .u8 0, .int .i64 0, .int .i64 0]) 3 24 := ⟨by kernel_rfl, by kernel_rfl, rfl, by omega⟩
theorem at_tok : AT 25 34 (.agg #[.int .u8 0, .int .i64 0, .int .i64 0]) 3 24 := ⟨by kernel_rfl, by kernel_rfl, rfl, by omega⟩
/-- Tokens of which each fits its fields. -/
def Fits (r : List M.Tok) : Prop := ∀ t ∈ r, t.lit < 256 ∧ t.len ≤ 1000000 ∧ t.dist ≤ 1000000
end Go.Proofs.YtjjjchdocnoabaaDoor
