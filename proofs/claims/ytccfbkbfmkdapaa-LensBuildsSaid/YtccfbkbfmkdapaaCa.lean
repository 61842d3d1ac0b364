/-
  Coins in memory; contract of singlesOf.
-/
import Derived.Test.YtccfbkbfmkdapaaG
import Derived.Test.YtccfbkbfmkdapaaNo
namespace Go.Proofs.Ytccfbkbfmkdapaa
open Go.RowKit

/-- The cells of coins. -/
def cl (r : List (Nat × Bool)) : List Value := r.flatMap fun x => [.int .i64 (x.1 : Nat), .bool x.2]
theorem cl_nil : cl [] = [] := rfl
theorem cl_cons (x : Nat × Bool) (r : List (Nat × Bool)) : cl (x :: r) = .int .i64 (x.1 : Nat) :: .bool x.2 :: cl r := rfl
theorem cl_app (a b : List (Nat × Bool)) : cl a ++ cl b = cl (a ++ b) := by simp [cl]
theorem cl_len (r : List (Nat × Bool)) : (cl r).length = r.length * 2 := by
  induction r with
  | nil => rfl
  | cons x r ih => rw [cl_cons, List.length_cons, List.length_cons, ih, List.length_cons]; omega
theorem cl_one (r : List (Nat × Bool)) : ∀ u ∈ cl r, u.oneCell' = true := by
  induction r with
  | nil => intro u hu; cases hu
  | cons x r ih =>
    intro u hu
    rw [cl_cons, List.mem_cons, List.mem_cons] at hu
    rcases hu with rfl | rfl | hu
    · rfl
    · rfl
    · exact ih u hu
/-- The coin at a place. -/
def cn' (r : List (Nat × Bool)) (k : Nat) : Nat × Bool := r.getD k (0, false)
theorem cl_at (r : List (Nat × Bool)) (k : Nat) (h : k < r.length) : (cl r)[k * 2]? = some (.int .i64 ((cn' r k).1 : Nat)) ∧ (cl r)[k * 2 + 1]? = some (.bool (cn' r k).2) := by
  induction r generalizing k with
  | nil => simp at h
  | cons x r ih =>
    cases k with
    | zero => exact ⟨rfl, rfl⟩
    | succ k =>
      have := ih k (by simpa using h)
      rw [cl_cons, show (k + 1) * 2 = k * 2 + 1 + 1 by omega, List.getElem?_cons_succ, List.getElem?_cons_succ, List.getElem?_cons_succ, List.getElem?_cons_succ]
      exact this
theorem cn_mem {r : List (Nat × Bool)} {k : Nat} (h : k < r.length) : cn' r k ∈ r := by
  unfold cn'
  rw [List.getD_eq_getElem?_getD, List.getElem?_eq_getElem h]
  exact List.getElem_mem h

/-- A slice's address at which these coins lie. -/
def CS (w : World) (ao : Option Addr) (r : List (Nat × Bool)) : Prop := r = [] ∨ ∃ b off, ao = some ⟨b, off, none⟩ ∧ w.rangeAt b off (cl r)
theorem CS.on {w w' : World} {ao : Option Addr} {r : List (Nat × Bool)} (h : CS w ao r) (hb : Below w.heap.size w w') : CS w' ao r := by
  rcases h with h | ⟨b, off, rfl, hc⟩
  · exact .inl h
  · exact .inr ⟨b, off, rfl, fun j v hv => by
      have := hc j v hv
      exact (hb.cell (World.block_lt_of_cell? w _ this)).trans this⟩
theorem CS.at {w : World} {ao : Option Addr} {r : List (Nat × Bool)} (h : CS w ao r) {k : Nat} (hk : k < r.length) :
    ∃ b off, ao = some ⟨b, off, none⟩ ∧ w.cell? ⟨b, off + k * 2, none⟩ = some (.int .i64 ((cn' r k).1 : Nat)) ∧ w.cell? ⟨b, off + k * 2 + 1, none⟩ = some (.bool (cn' r k).2) := by
  rcases h with rfl | ⟨b, off, rfl, hc⟩
  · simp at hk
  · have := cl_at r k hk
    exact ⟨b, off, rfl, hc _ _ this.1, by have := hc _ _ this.2; rwa [← Nat.add_assoc] at this⟩

/-- Numbers as integers. -/
def ints (l : List Nat) : List Int := l.map fun x : Nat => (x : Int)
theorem ints_len (l : List Nat) : (ints l).length = l.length := by simp [ints]
theorem ints_at (l : List Nat) (k : Nat) : (ints l).getD k 0 = (l.getD k 0 : Nat) := by
  unfold ints
  rcases Nat.lt_or_ge k l.length with h | h <;> simp [List.getD, h]
theorem IS.nat {w : World} {ao : Option Addr} {l : List Nat} (h : IS w ao (ints l)) {k : Nat} (hk : k < l.length) : ∃ b off, ao = some ⟨b, off, none⟩ ∧ w.cell? ⟨b, off + k, none⟩ = some (.int .i64 (l.getD k 0 : Nat)) := by
  have := h.at (k := k) (by rw [ints_len]; exact hk)
  rwa [ints_at] at this

/-- The counts of symbols. -/
def cts (ns us : List Nat) : List Nat := us.map fun u => ns.getD u 0
theorem cts_len (ns us : List Nat) : (cts ns us).length = us.length := by simp [cts]
theorem cts_at (ns us : List Nat) (k : Nat) (h : k < us.length) : (cts ns us).getD k 0 = ns.getD (us.getD k 0) 0 := by simp [cts, List.getD, h]
def sgF (cs : List Nat) (k i : Nat) : Value := if i / 2 < k then (if i % 2 = 0 then .int .i64 (cs.getD (i / 2) 0 : Nat) else .bool true) else (if i % 2 = 0 then .int .i64 0 else .bool false)
theorem sg_set (cs : List Nat) (n k : Nat) : ((va (n * 2) (sgF cs k)).setIfInBounds (k * 2) (.int .i64 (cs.getD k 0 : Nat))).setIfInBounds (k * 2 + 1) (.bool true) = va (n * 2) (sgF cs (k + 1)) := by
  rw [va_set, va_set]
  refine va_congr fun i _ => ?_
  unfold sgF
  by_cases e1 : i = k * 2 + 1
  · rw [if_pos e1, if_pos (by omega), if_neg (by omega)]
  · rw [if_neg e1]
    by_cases e2 : i = k * 2
    · rw [if_pos e2, if_pos (by omega), if_pos (by omega), show i / 2 = k by omega]
    · rw [if_neg e2]
      by_cases e3 : i / 2 < k
      · rw [if_pos e3, if_pos (show i / 2 < k + 1 by omega)]
      · rw [if_neg e3, if_neg (show ¬ i / 2 < k + 1 by omega)]
theorem sg_cl (cs : List Nat) (w : World) (g : Nat) (h : Blk w g 77 (va (cs.length * 2) (sgF cs cs.length))) : w.rangeAt g 0 (cl (cs.map fun c => (c, true))) := fun j v hv => by
  have hj : j < cs.length * 2 := by
    have := (List.getElem?_eq_some_iff.1 hv).1
    rwa [cl_len, List.length_map] at this
  have hk : j / 2 < cs.length := by omega
  have := cl_at (cs.map fun c => (c, true)) (j / 2) (by simpa using hk)
  rw [Nat.zero_add, h.cell, va_at _ _ j hj, ← hv]
  unfold sgF
  rw [if_pos hk]
  have e : cn' (cs.map fun c => (c, true)) (j / 2) = (cs.getD (j / 2) 0, true) := by simp [cn', List.getD, hk]
  rw [e] at this
  rcases Nat.mod_two_eq_zero_or_one j with e1 | e1
  · rw [if_pos e1, show j = j / 2 * 2 by omega, this.1]
    simp
  · rw [if_neg (by omega)]
    have h2 := this.2
    rw [show j / 2 * 2 + 1 = j by omega] at h2
    exact h2.symm

/-- New coins. -/
def CoinsOf (r : List (Nat × Bool)) (w : World) (e : Ending) (w' : World) : Prop := ∃ ao c, e = .returned (.slice ao r.length c) ∧ CS w' ao r ∧ Below w.heap.size w w' ∧ r.length ≤ c ∧ (ao = none → c = 0) ∧ ∀ b off, ao = some ⟨b, off, none⟩ → w.heap.size ≤ b

set_option maxHeartbeats 1600000 in
theorem singles_any (ao bo : Option Addr) (c e : Nat) (ns us : List Nat) (w : World) (h : IS w ao (ints ns)) (hu : IS w bo (ints us)) (hl : us.length ≤ 320) (hb : ∀ u ∈ us, u < ns.length) :
    Calls Try.prog 26 #[.slice ao ns.length c, .slice bo us.length e] w (CoinsOf ((cts ns us).map fun c => (c, true)) w) := by
  have HI := Lib.hid h
  have HU := Lib.hid hu
  have HB := Lib.hid hb
  clear h hu hb
  go_enter Try.func26, Try.ntmps26
  go_wp2_with (refine wpList_make_z rfl 56 (.tmp 9) (.tmp 9) rfl 77 (.agg #[.int .i64 0, .bool false]) 2 16 us.length (by kernel_rfl) (by kernel_rfl) .i64 .i64 us.length us.length rfl rfl rfl rfl (by omega) (by omega) ?_; intro W hb ht hs; have HS := Lib.hid hs; clear hs)
  obtain ⟨g, hg⟩ : ∃ g, g = w.heap.size := ⟨_, rfl⟩
  have HG := Lib.hid hg
  rw [← hg] at hb ⊢
  have H0 : Hid (Blk W g 77 (va (us.length * 2) (sgF (cts ns us) 0)) ∧ Below w.heap.size w W) := Lib.hid ⟨by
    have e : va (us.length * 2) (fun i => (Value.agg #[.int .i64 0, .bool false]).cells[i % (Value.agg #[.int .i64 0, .bool false]).cells.size]!) = va (us.length * 2) (sgF (cts ns us) 0) := va_congr fun i _ => by
      unfold sgF
      rw [if_neg (by omega)]
      rcases Nat.mod_two_eq_zero_or_one i with e1 | e1
      · rw [if_pos e1]; simp [Value.cells, e1]
      · rw [if_neg (by omega)]; simp [Value.cells, e1]
    rw [← e]; exact hb, ht.none_below⟩
  clear hb ht hg HS
  go_loopw [13] (fun iv wr => ∃ k : Nat, k ≤ us.length ∧ iv = .int .i64 k ∧ Blk wr g 77 (va (us.length * 2) (sgF (cts ns us) k)) ∧ Below w.heap.size w wr) (fun iv _ => us.length - (intOf iv).toNat)
  case atStart => exact ⟨0, Nat.zero_le _, rfl, H0.out⟩
  case round =>
    obtain ⟨k, hk, rfl, hrel⟩ := hrel
    have HR := Lib.hid hrel
    clear hrel H0
    by_cases hlt : k < us.length
    · have hkk : (k : Int) < us.length := by omega
      obtain ⟨b1, o1, rfl, c1⟩ := (HU.out.below HR.out.2).nat hlt
      obtain ⟨u, hu⟩ : ∃ u, u = us.getD k 0 := ⟨_, rfl⟩
      have hun : u < ns.length := by rw [hu]; refine HB.out _ ?_; rw [List.getD_eq_getElem?_getD, List.getElem?_eq_getElem hlt]; exact List.getElem_mem hlt
      have HUU := Lib.hid hu
      rw [← hu] at c1
      clear hu
      obtain ⟨b2, o2, rfl, c2⟩ := (HI.out.below HR.out.2).nat hun
      obtain ⟨x, hx⟩ : ∃ x, x = ns.getD u 0 := ⟨_, rfl⟩
      have HX := Lib.hid hx
      rw [← hx] at c2
      clear hx
      have hun' : (u : Int) < ns.length := by omega
      have q1 := (HR.out.1.cell (k * 2)).trans (va_at _ _ (k * 2) (by omega))
      have q2 := (HR.out.1.cell (k * 2 + 1)).trans (va_at _ _ (k * 2 + 1) (by omega))
      have f1 := HR.out.1.free (k * 2)
      have f2 := HR.out.1.free (k * 2 + 1)
      go_wp2
      go_roundw
      case rel =>
        refine ⟨k + 1, by omega, by go_num, ?_, ?_⟩
        · have h1 := (HR.out.1.setCell (k * 2) (.int .i64 (x : Nat))).setCell (k * 2 + 1) (.bool true)
          rw [HX.out, HUU.out, ← cts_at ns us k hlt, sg_set] at h1
          rw [HX.out, HUU.out, ← cts_at ns us k hlt]
          exact h1
        · have hw : w.heap.size ≤ g := by rw [HG.out]; exact Nat.le_refl _
          exact (HR.out.2.setCell (p := ⟨g, k * 2, none⟩) hw _).setCell (p := ⟨g, k * 2 + 1, none⟩) hw _
      case measure => simp [intOf]; omega
    · have hk' : k = us.length := by omega
      subst hk'
      go_wp2
      go_ret
      refine ⟨some ⟨g, 0, none⟩, us.length, by simp [cts_len], .inr ⟨g, 0, rfl, sg_cl _ _ _ ?_⟩, HR.out.2, by simp [cts_len], fun e => (by cases e), fun b off e => by cases e; rw [HG.out]; exact Nat.le_refl _⟩
      rw [cts_len]
      exact HR.out.1
end Go.Proofs.Ytccfbkbfmkdapaa
