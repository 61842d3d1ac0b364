/-
  Contracts: twoByTwo and its iterator: coins, two each time.
-/
import Derived.Test.YtccfbkbfmkdapaaCb
import Derived.RangeFuncNested
import Derived.RangeFuncBound
import Derived.RangeFuncCalls
import Derived.RangeFuncLeaves
import Derived.Shelf.Abstract
import Derived.Shelf.RegionOpen
import Derived.OwnWalkIn
import Derived.TacticsInMore
import Derived.LoopNIn
import Derived.LoopIn
namespace Go.Proofs.Ytccfbkbfmkdapaa
open Go.RowKit Go.Shelf

attribute [local go_sem] Oper.semAt_some

/-- Two each time. -/
def two {α : Type} : List α → List (α × α)
  | a :: b :: t => (a, b) :: two t
  | _ => []
theorem two_len {α : Type} : ∀ l : List α, (two l).length = l.length / 2
  | [] => by simp [two]
  | [_] => by simp [two]
  | a :: b :: t => by simp [two, two_len t]; omega
theorem two_at : ∀ (r : List (Nat × Bool)) (k : Nat), 2 * k + 1 < r.length → (two r)[k]? = some (cn' r (2 * k), cn' r (2 * k + 1))
  | [], k, h => by simp at h
  | [_], k, h => by simp at h
  | a :: b :: t, 0, _ => rfl
  | a :: b :: t, k + 1, h => by
    rw [two, List.getElem?_cons_succ, two_at t k (by simp at h; omega), show 2 * (k + 1) = 2 * k + 1 + 1 by omega]
    rfl
theorem two_pairs : ∀ r : List (Nat × Bool), (two r).map (fun p => p.1.1 + p.2.1) = pairs (cost r)
  | [] => rfl
  | [_] => rfl
  | a :: b :: t => by simp only [two, List.map_cons, two_pairs t]; rfl

/-- A coin as a value. -/
def cv (x : Nat × Bool) : Value := .agg #[.int .i64 (x.1 : Nat), .bool x.2]
def encs (x : (Nat × Bool) × (Nat × Bool)) : Array Value := #[cv x.1, cv x.2]

abbrev FW : Fence := Fence.wide

/-- Of the blocks below n only those of S may have changed. -/
structure Beb (S : Nat → Prop) (n : Nat) (w w' : World) : Prop where
  os : w'.os = w.os
  tape : w'.tape = w.tape
  output : w'.output = w.output
  size : w.heap.size ≤ w'.heap.size
  block : ∀ k, k < n → ¬ S k → w'.heap[k]? = w.heap[k]?
theorem Beb.refl (S : Nat → Prop) (n : Nat) (w : World) : Beb S n w w := ⟨rfl, rfl, rfl, Nat.le_refl _, fun _ _ _ => rfl⟩
theorem Beb.trans {S : Nat → Prop} {n : Nat} {a b c : World} (h : Beb S n a b) (k : Beb S n b c) : Beb S n a c :=
  ⟨k.os.trans h.os, k.tape.trans h.tape, k.output.trans h.output, Nat.le_trans h.size k.size, fun i hi hs => (k.block i hi hs).trans (h.block i hi hs)⟩
theorem Beb.drew {S : Nat → Prop} {n : Nat} {a b : World} (h : Beb S n a b) : Beb S n a b.drew := ⟨h.os, h.tape, h.output, h.size, h.block⟩
theorem Beb.cell {S : Nat → Prop} {n : Nat} {a b : World} (h : Beb S n a b) {p : Addr} (hp : p.block < n) (hs : ¬ S p.block) : b.cell? p = a.cell? p := World.cell?_of_block (h.block _ hp hs)
theorem Beb.of_below {S : Nat → Prop} {n m : Nat} {a b : World} (h : Below m a b) (hn : n ≤ m) : Beb S n a b := ⟨h.os, h.tape, h.output, h.size, fun k hk _ => h.block k (by omega)⟩
theorem beb_b {S : Nat → Prop} {n : Nat} {w : World} (hn : n ≤ w.heap.size) (W : World) (l : Nat) (o o' : Obj) (hl : w.heap.size ≤ l) (_ : W.heap[l]? = some o) (_ : o.isCells = false) (_ : o.isWalk = false) : Beb S n W (W.putObj l o') :=
  ⟨rfl, rfl, rfl, by simp, fun k hk _ => World.putObj_heap_other (by omega)⟩
theorem CS.low {S : Nat → Prop} {w w' : World} {ao : Option Addr} {r : List (Nat × Bool)} {B : Nat} (h : CS w ao r) (hb : Beb S B w w') (hl : ∀ b off, ao = some ⟨b, off, none⟩ → r ≠ [] → b < B ∧ ¬ S b) : CS w' ao r := by
  rcases h with h | ⟨b, off, rfl, hc⟩
  · exact .inl h
  · by_cases e : r = []
    · exact .inl e
    · exact .inr ⟨b, off, rfl, fun j v hv => (hb.cell (p := ⟨b, off + j, none⟩) (hl b off rfl e).1 (hl b off rfl e).2).trans (hc j v hv)⟩

set_option maxRecDepth 100000 in
set_option maxHeartbeats 4000000 in
theorem two_in (S : Nat → Prop) (n l B n₀ : Nat) (hn : 1 ≤ n) (ao : Option Addr) (c : Nat) (r : List (Nat × Bool)) (hr : r.length ≤ 640) (J Jx : List ((Nat × Bool) × (Nat × Bool)) → World → Prop) (hJd : ∀ pre W, J pre W → J pre W.drew)
    (hY : ∀ pre x W, J pre W → pre.length < (two r).length → YieldAt FW (n - 1) Try.prog l (encs x) W fun e W' =>
      (e = .returned (.bool true) ∧ J (pre ++ [x]) W' ∧ Beb S n₀ W W') ∨ (e = .returned (.bool false) ∧ Jx (pre ++ [x]) W'))
    (W : World) (hB : W.cell? ⟨B, 0, none⟩ = some (.slice ao r.length c)) (hBl : B < n₀) (hBs : ¬ S B) (hC : CS W ao r) (hCl : ∀ b off, ao = some ⟨b, off, none⟩ → r ≠ [] → b < n₀ ∧ ¬ S b) (h0 : J [] W) :
    CallsIn FW n Try.prog 47 #[.func (.yield l) #[] #[], .pointer (some ⟨B, 0, none⟩)] W fun e W' => (∃ v, e = .returned v) ∧
      ((∃ ys, ys = two r ∧ J ys W') ∨ (∃ pre, pre <+: two r ∧ Jx pre W')) := by
  have HC := Lib.hid hC
  have HCl := Lib.hid hCl
  have HB := Lib.hid hB
  clear hC hCl hB
  refine callsIn_of_wp Try.func47 rfl trivial ?_ rfl
  simp only [Try.ntmps47, List.size_toArray, List.length_cons, List.length_nil, Nat.reduceAdd, Nat.reduceSub, Array.replicate_succ, Array.replicate_zero, List.push_toArray, List.append_toArray, List.nil_append, List.cons_append]
  gi_wp2
  gi_loopw [3] (fun v wr => ∃ t i : Nat, v = .int .i64 i ∧ i = 2 * t + 1 ∧ 2 * t ≤ r.length ∧ J ((two r).take t) wr ∧ Beb S n₀ W wr) (fun i _ => r.length + 2 - (intOf i).toNat)
  case atStart => exact ⟨0, 1, rfl, rfl, Nat.zero_le _, h0, Beb.refl _ _ _⟩
  case round =>
    obtain ⟨t, i, rfl, hi, ht, hJ, hb⟩ := hrel
    have hbox := (hb.cell (p := ⟨B, 0, none⟩) hBl hBs).trans HB.out
    by_cases hlt : i < r.length
    · have hlt' : (i : Int) < r.length := by omega
      have hCS := HC.out.low hb HCl.out
      obtain ⟨b1, o1, rfl, q1, q2⟩ := hCS.at (k := 2 * t) (by omega)
      obtain ⟨b2, o2, e2, q3, q4⟩ := hCS.at (k := 2 * t + 1) (by omega)
      obtain ⟨rfl, rfl⟩ : b1 = b2 ∧ o1 = o2 := by simpa using e2
      clear e2
      obtain ⟨x, hx⟩ : ∃ x, x = cn' r (2 * t) := ⟨_, rfl⟩
      obtain ⟨y, hy⟩ : ∃ y, y = cn' r (2 * t + 1) := ⟨_, rfl⟩
      rw [← hx] at q1 q2
      rw [← hy] at q3 q4
      obtain ⟨x1, x2⟩ := x
      obtain ⟨y1, y2⟩ := y
      have HXY := Lib.hid (And.intro hx hy)
      obtain ⟨j, hj⟩ : ∃ j, j = 2 * t := ⟨_, rfl⟩
      rw [← hi] at q3 q4
      rw [← hj] at q1 q2
      have ej : IntKind.i64.wrap ((i : Int) - 1) = j := by rw [IntKind.wrap_i64]; omega
      have hjl : (j : Int) < r.length := by omega
      have htl : ((two r).take t).length < (two r).length := by rw [List.length_take, two_len]; omega
      obtain ⟨fn, tmps, assign, body, hy', hR⟩ := hY _ ((x1, x2), (y1, y2)) wr.drew (hJd _ _ hJ) htl
      simp only [encs, cv] at hy'
      have HIJ := Lib.hid (And.intro hi hj)
      clear hx hy hi hj
      have hmix : Try.prog.follows .mixedOrders = true := by kernel_rfl
      gi_wp2
      have hR2 : RoundIn FW (n - 1) Try.prog l fn tmps assign body wr.drew fun e W' => ∃ bv, e = .returned (.bool bv) ∧ ((bv = true ∧ J ((two r).take t ++ [((x1, x2), (y1, y2))]) W' ∧ Beb S n₀ wr.drew W') ∨ (bv = false ∧ Jx ((two r).take t ++ [((x1, x2), (y1, y2))]) W')) :=
        hR.mono fun e W' h => by
          rcases h with ⟨rfl, h⟩ | ⟨rfl, h⟩
          · exact ⟨true, rfl, .inl ⟨rfl, h⟩⟩
          · exact ⟨false, rfl, .inr ⟨rfl, h⟩⟩
      clear hR
      gi_region_with_o (refine hR2.mono ?_; rintro e W3 ⟨bv, rfl, hor⟩)
      all_goals
        have hx3 := HXY.out
        have ht3 := HIJ.out
        have hts : (two r).take t ++ [((x1, x2), (y1, y2))] = (two r).take (t + 1) := by
          rw [List.take_add_one, two_at r t (by omega), ← hx3.1, ← hx3.2]
          rfl
        rw [hts] at hor
        have hlen2 : t + 1 ≤ (two r).length := by rw [two_len]; omega
        go_simp
        rcases hor with ⟨rfl, hJ3, hk3⟩ | ⟨rfl, hJx3⟩
        · gi_wp2
          go_roundw
          case rel => exact ⟨t + 1, i + 2, by go_num, by omega, by omega, hJ3, hb.drew.trans hk3⟩
          case measure => simp [intOf]; omega
        · gi_wp2
          refine bodyPost_ret (results_none rfl _ _ _) rfl ?_
          exact ⟨⟨_, rfl⟩, .inr ⟨_, List.take_prefix _ _, hJx3⟩⟩
    · have hlt' : (r.length : Int) ≤ i := by omega
      gi_wp2
      go_end0
      refine ⟨⟨_, rfl⟩, .inl ⟨_, ?_, hJ⟩⟩
      rw [List.take_of_length_le]
      rw [two_len]; omega

theorem drew_grown (W : World) : W.grownBy W.drew none := ⟨rfl, rfl, rfl, Nat.le_refl _, fun _ _ _ => rfl⟩

/-- The iterator stops where a round says so. -/
theorem two_stops (S : Nat → Prop) (n : Nat) (hn : 1 ≤ n) (B : Nat) (ao : Option Addr) (c : Nat) (r : List (Nat × Bool)) (hr : r.length ≤ 640) (w : World) (hB : w.cell? ⟨B, 0, none⟩ = some (.slice ao r.length c)) (hBs : ¬ S B) (hC : CS w ao r)
    (hCs : ∀ b off, ao = some ⟨b, off, none⟩ → r ≠ [] → ¬ S b) :
    SeqStopsK FW n Try.prog 47 #[.pointer (some ⟨B, 0, none⟩)] encs (Beb S w.heap.size) (fun ys => ys = two r) (fun pre => pre <+: two r) (two r).length w := fun l J Jx W hW hJ _ hY h0 =>
  two_in S n l B w.heap.size hn ao c r hr J Jx (fun pre W hJW => hJ pre W W.drew none hJW (drew_grown W) (fun _ e => by cases e)) hY W ((hW.cell (p := ⟨B, 0, none⟩) (World.block_lt_of_cell? w _ hB)).trans hB) (World.block_lt_of_cell? w _ hB) hBs (hC.on hW)
    (fun b off e hne => ⟨by
      rcases hC with h | ⟨b', off', rfl, hc⟩
      · exact absurd h hne
      · have e' := Option.some.inj e
        simp only [Addr.mk.injEq] at e'
        rw [← e'.1]
        have := cl_at r 0 (List.length_pos_iff.2 hne)
        exact World.block_lt_of_cell? w _ (hc _ _ this.1), hCs b off e hne⟩) h0

/-- A function that hands coins two each time has been made. -/
theorem twoBy_any (ao : Option Addr) (l c : Nat) (w : World) :
    Calls Try.prog 41 #[.slice ao l c] w fun e w' => e = .returned (.func (.func 47) #[] #[.pointer (some ⟨w.heap.size, 0, none⟩)]) ∧ w' = w.alloc (.cells #[.slice ao l c] 56) := by
  go_enter Try.func41, Try.ntmps41
  go_wp2
  go_ret
  exact ⟨rfl, rfl⟩
end Go.Proofs.Ytccfbkbfmkdapaa
