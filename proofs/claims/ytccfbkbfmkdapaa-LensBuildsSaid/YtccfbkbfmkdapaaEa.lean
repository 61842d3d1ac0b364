/-
  Contracts: slices.Backward and its iterator over rows of coins.
-/
import Derived.Test.YtccfbkbfmkdapaaLw
namespace Go.Proofs.Ytccfbkbfmkdapaa
open Go.RowKit Go.Shelf

attribute [local go_sem] Oper.semAt_some

/-- A slice, told by its parts. -/
abbrev Sv := Option Addr × Nat × Nat
def sv (x : Sv) : Value := .slice x.1 x.2.1 x.2.2
def encb (x : Nat × Sv) : Array Value := #[.int .i64 (x.1 : Nat), sv x.2]
/-- From the last one on. -/
def bk (k : Nat) (rs : Nat → Sv) : List (Nat × Sv) := (List.range k).map fun p => (k - 1 - p, rs (k - 1 - p))
theorem bk_len (k : Nat) (rs : Nat → Sv) : (bk k rs).length = k := by simp [bk]
theorem bk_at (k : Nat) (rs : Nat → Sv) (p : Nat) (h : p < k) : (bk k rs)[p]? = some (k - 1 - p, rs (k - 1 - p)) := by simp [bk, h]

set_option maxRecDepth 100000 in
set_option maxHeartbeats 4000000 in
theorem back_in (S : Nat → Prop) (n l B n₀ : Nat) (hn : 1 ≤ n) (g c k : Nat) (rs : Nat → Sv) (hk : k ≤ 15) (J : List (Nat × Sv) → World → Prop)
    (hY : ∀ pre x W, J pre W → (bk k rs)[pre.length]? = some x → YieldAt FW (n - 1) Try.prog l (encb x) W fun e W' => e = .returned (.bool true) ∧ J (pre ++ [x]) W' ∧ Beb S n₀ W W')
    (W : World) (hB : W.cell? ⟨B, 0, none⟩ = some (.slice (some ⟨g, 0, none⟩) k c)) (hBl : B < n₀) (hBs : ¬ S B) (hC : ∀ j, j < k → W.cell? ⟨g, j, none⟩ = some (sv (rs j))) (hgl : g < n₀) (hgs : ¬ S g) (h0 : J [] W) :
    CallsIn FW n Try.prog 46 #[.func (.yield l) #[] #[], .pointer (some ⟨B, 0, none⟩)] W fun e W' => (∃ v, e = .returned v) ∧ J (bk k rs) W' := by
  have HC := Lib.hid hC
  have HB := Lib.hid hB
  have e0 : IntKind.i64.wrap ((k : Int) - 1) = (k : Int) - 1 := by rw [IntKind.wrap_i64]; omega
  clear hC
  refine callsIn_of_wp Try.func46 rfl trivial ?_ rfl
  simp only [Try.ntmps46, List.size_toArray, List.length_cons, List.length_nil, Nat.reduceAdd, Nat.reduceSub, Array.replicate_succ, Array.replicate_zero, List.push_toArray, List.append_toArray, List.nil_append, List.cons_append]
  gi_wp2
  clear e0 hB
  gi_loopw [3] (fun v wr => ∃ (p : Nat) (z : Int), v = .int .i64 z ∧ p ≤ k ∧ z = (k : Int) - 1 - p ∧ J ((bk k rs).take p) wr ∧ Beb S n₀ W wr) (fun i _ => (intOf i + 1).toNat)
  case atStart => exact ⟨0, _, rfl, Nat.zero_le _, by simp, h0, Beb.refl _ _ _⟩
  case round =>
    obtain ⟨p, z, rfl, hp, hz, hJ, hb⟩ := hrel
    have hbox := (hb.cell (p := ⟨B, 0, none⟩) hBl hBs).trans HB.out
    by_cases hlt : p < k
    · obtain ⟨q, hq⟩ : ∃ q, q = k - 1 - p := ⟨_, rfl⟩
      have hzq : z = (q : Int) := by omega
      subst hzq
      have hqk : (q : Int) < k := by omega
      have hc := (hb.cell (p := ⟨g, q, none⟩) hgl hgs).trans (HC.out q (by omega))
      obtain ⟨x, hx⟩ : ∃ x, x = rs q := ⟨_, rfl⟩
      obtain ⟨x1, x2, x3⟩ := x
      rw [← hx] at hc
      have hc2 : wr.cell? ⟨g, q, none⟩ = some (.slice x1 x2 x3) := hc
      have hat : (bk k rs)[((bk k rs).take p).length]? = some (q, (x1, x2, x3)) := by
        rw [List.length_take, bk_len, Nat.min_eq_left hp, bk_at k rs p hlt, ← hq, ← hx]
      obtain ⟨fn, tmps, assign, body, hy', hR⟩ := hY _ (q, (x1, x2, x3)) wr hJ hat
      simp only [encb, sv] at hy'
      have HQ := Lib.hid (And.intro hq (And.intro hx hz))
      clear hc hx hz
      have hq0 : (0 : Int) ≤ q := by omega
      clear hq
      gi_wp2
      refine hR.mono ?_
      have hts : (bk k rs).take p ++ [(q, (x1, x2, x3))] = (bk k rs).take (p + 1) := by
        rw [List.take_add_one, bk_at k rs p hlt, ← HQ.out.1, ← HQ.out.2.1]
        rfl
      rintro e W3 ⟨rfl, hJ3, hk3⟩
      gi_wp2
      go_roundw
      case rel =>
        rw [hts] at hJ3
        have hz2 := HQ.out.2.2
        exact ⟨p + 1, _, rfl, by omega, by first | omega | go_num | (rw [wrap64]; omega), hJ3, hb.trans hk3⟩
      case measure => first | (simp [intOf]; done) | (simp [intOf]; omega)
    · have hzn : z = -1 := by omega
      subst hzn
      gi_wp2
      go_end0
      refine ⟨⟨_, rfl⟩, ?_⟩
      rwa [List.take_of_length_le (by rw [bk_len]; omega)] at hJ

/-- The iterator stops where a round says so. -/
theorem back_stops (S : Nat → Prop) (n : Nat) (hn : 1 ≤ n) (B : Nat) (g c k : Nat) (rs : Nat → Sv) (hk : k ≤ 15) (w : World) (hB : w.cell? ⟨B, 0, none⟩ = some (.slice (some ⟨g, 0, none⟩) k c)) (hBs : ¬ S B)
    (hC : ∀ j, j < k → w.cell? ⟨g, j, none⟩ = some (sv (rs j))) (hg : g < w.heap.size) (hgs : ¬ S g) :
    Hands n 46 #[.pointer (some ⟨B, 0, none⟩)] encb (Beb S w.heap.size) (bk k rs) w := fun l J W hW hY h0 =>
  back_in S n l B w.heap.size hn g c k rs hk J hY W ((hW.cell (p := ⟨B, 0, none⟩) (World.block_lt_of_cell? w _ hB)).trans hB) (World.block_lt_of_cell? w _ hB) hBs (fun j hj => (hW.cell (p := ⟨g, j, none⟩) hg).trans (hC j hj)) hg hgs h0

theorem backward_any (ao : Option Addr) (l c : Nat) (w : World) :
    Calls Try.prog 40 #[.slice ao l c] w fun e w' => e = .returned (.func (.func 46) #[] #[.pointer (some ⟨w.heap.size, 0, none⟩)]) ∧ w' = w.alloc (.cells #[.slice ao l c] 54) := by
  go_enter Try.func40, Try.ntmps40
  go_wp2
  go_ret
  exact ⟨rfl, rfl⟩
end Go.Proofs.Ytccfbkbfmkdapaa
