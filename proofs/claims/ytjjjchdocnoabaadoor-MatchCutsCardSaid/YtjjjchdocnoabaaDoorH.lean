
/-
  The law of append onto bytes of the call's own; Align of a writer.
-/
import Derived.Test.YtjjjchdocnoabaaDoorBg
namespace Go.Proofs.YtjjjchdocnoabaaDoor
open Go.RowKit

/-- Behind an append: the bytes are owned; only the old row may have been written; the new row is the old one or a new one. -/
structure Apd (w : World) (base : Nat) (v : Value) (bs : List Nat) (v' : Value) (w' : World) : Prop where
  own : w'.ownsRow base 5 1 v' bs.length (u8s bs)
  touch : Touch (fun k => v.ownBlock = some k) w w'
  row : ∀ k, v'.ownBlock = some k → v.ownBlock = some k ∨ w.heap.size ≤ k

theorem u8s_app (a b : List Nat) : u8s a ++ u8s b = u8s (a ++ b) := by simp [u8s]

theorem run_append_x (w : World) {base : Nat} {v sv : Value} {xs ys : List Nat} (ty : TypeId) (hown : w.ownsRow base 5 1 v xs.length (u8s xs)) (hs : BySl w sv ys) (hbase : base ≤ w.heap.size) (hl : xs.length + ys.length ≤ 2000000000) :
    ∃ v' w', (Builtin.append_ #[22, 22] ty #[v, sv]).run Tryd.prog w = .ok v' w' ∧ Apd w base v (xs ++ ys) v' w' := by
  obtain ⟨i0, hi, hz0, hz1, hz2⟩ := info_parts Tryd.info5
  have hlen : (xs ++ ys).length = xs.length + ys.length := List.length_append
  rcases hs with ⟨rfl, rfl⟩ | ⟨ad, c, rfl, hc, hcell⟩
  · refine ⟨v, w, run_append_owned_none w base 22 ty 5 i0 1 Tryd.underlying22 hi v xs.length (u8s xs) hown, ?_, Touch.refl _ _, fun k hk => .inl hk⟩
    simpa using hown
  · rcases hown.2 with ⟨rfl, hn0⟩ | ⟨g, cap, cur, rfl, hbg, hh, hnc, hcm, hcs, htake⟩
    · have hx : xs = [] := List.eq_nil_of_length_eq_zero hn0
      subst hx
      obtain ⟨v', w', hr, ho, hg, _⟩ := run_append_own (P := Tryd.prog) w w.heap.size 22 ty 5 i0 (.int .u8 0) 1 1 Tryd.underlying22 hi hz0 hz1 hz2 rfl (by decide) (.slice none 0 0) 0 [] (World.ownsRow_nil _ _ _ _) ad ys.length c (u8s ys) (by simp [u8s_len]) hcell (u8s_one ys) (by unfold maxLen; simp only [List.length_nil] at hl; omega) (by simp only [List.length_nil] at hl; omega) (Nat.le_refl _)
      have ho' : w'.ownsRow w.heap.size 5 1 v' ([] ++ ys).length (u8s ([] ++ ys)) := by simpa using ho
      exact ⟨v', w', hr, own_base ho' hbase, (Touch.refl _ w).grown hg fun k hk => by simp [Value.ownBlock] at hk, fun k hk => .inr (ho'.lt k hk).1⟩
    · by_cases hroom : xs.length + ys.length ≤ cap
      · obtain ⟨w', hr, ho, hg⟩ := run_append_fits (P := Tryd.prog) w base 22 ty 5 i0 1 Tryd.underlying22 hi hz1 g xs.length cap (u8s xs) hown ad ys.length c (u8s ys) (by simp [u8s_len]) hcell (u8s_one ys) hroom
        rw [u8s_app, ← hlen] at ho
        refine ⟨_, w', hr, hlen ▸ ho, (Touch.refl _ w).grown hg fun k hk => .inl (by cases hk; simp [Value.ownBlock]), fun k hk => .inl (by simpa [Value.ownBlock] using hk)⟩
      · obtain ⟨v', w', hr, ho, hg⟩ := run_append_arg_grows (P := Tryd.prog) w 22 ty 5 i0 (.int .u8 0) 1 1 Tryd.underlying22 hi hz0 hz1 hz2 rfl (by decide) ⟨g, 0, none⟩ xs.length cap (u8s xs) (by simp [u8s_len]) (hown.cells (by simp [Value.ownBlock])) ad ys.length c (u8s ys) (by simp [u8s_len]) hcell (by omega) (by unfold maxLen; omega) (by omega)
        rw [u8s_app, ← hlen] at ho
        exact ⟨v', w', hr, own_base ho hbase, (Touch.refl _ w).grown hg (fun k hk => by cases hk), fun k hk => .inr (ho.lt k hk).1⟩

theorem wpList_append_x {w : World} {ops : Array Oper} {rest : List Oper} {o : Oper} {a : Act} {Q : Exit → Act → World → Prop} (hgd : o.guard = none) (s x : Operand)
    (ho : o.op = .call { callee := .builtin .append, args := #[s, x], argTypes := #[22, 22] })
    (base : Nat) (v sv : Value) (xs ys : List Nat) (hs : a.eval s = v) (hx : a.eval x = sv) (hown : w.ownsRow base 5 1 v xs.length (u8s xs)) (hsrc : BySl w sv ys) (hbase : base ≤ w.heap.size) (hl : xs.length + ys.length ≤ 2000000000)
    (h : ∀ ao c w', Apd w base v (xs ++ ys) (.slice ao (xs ++ ys).length c) w' → wpList Tryd.prog ops Q rest (a.put o.dst (.slice ao (xs ++ ys).length c)) w') : wpList Tryd.prog ops Q (o :: rest) a w := by
  refine wpList_plain hgd fun K hK => ?_
  obtain ⟨v', w', hrun, hA⟩ := run_append_x w o.type hown hsrc hbase hl
  obtain ⟨ao, c, rfl⟩ := own_shape hA.own
  unfold Oper.wp
  simp [execOp, ho, resolve, invoke, builtin, hs, hx, hrun, Result.andThen]
  exact hK _ _ (by simpa using h ao c w' hA)

theorem step_append_x {ops : Array Oper} {o : Oper} {a : Act} {w : World} {K : Act → World → Prop} {Q : Exit → Act → World → Prop} {E : Prop}
    (hg : o.guard = none) (s x : Operand) (hop : o.op = Op.call { callee := Callee.builtin Builtin.append, args := #[s, x], argTypes := #[22, 22] })
    (base : Nat) (v sv : Value) (xs ys : List Nat) (hs : a.eval s = v) (hx : a.eval x = sv) (hown : w.ownsRow base 5 1 v xs.length (u8s xs)) (hsrc : BySl w sv ys) (hbase : base ≤ w.heap.size) (hl : xs.length + ys.length ≤ 2000000000)
    (hK : ∀ ao c w', Apd w base v (xs ++ ys) (.slice ao (xs ++ ys).length c) w' → K (a.put o.dst (.slice ao (xs ++ ys).length c)) w') :
    if Region.wanted o (yielded ops a.tmps) = true then Oper.wp Tryd.prog o a w K Q else E := by
  have hw : Region.wanted o (yielded ops a.tmps) = true := by simp [Region.wanted, hg]
  rw [if_pos hw]
  obtain ⟨v', w', hrun, hA⟩ := run_append_x w o.type hown hsrc hbase hl
  obtain ⟨ao, c, rfl⟩ := own_shape hA.own
  unfold Oper.wp
  simp [execOp, hop, resolve, invoke, builtin, hs, hx, hrun, Result.andThen]
  have h := hK ao c w' hA
  simp only [List.length_append] at h
  exact h

/-- An object that has got other bytes: its old blocks alone, and new ones, have changed. -/
def Grew (w : World) (base t p : Nat) (g : Option Nat) (bs : List Nat) (n : Nat) (w' : World) : Prop :=
  ∃ g', Ob w' base t p g' bs n ∧ Touch (Foot p g) w w' ∧ ∀ k, g' = some k → g = some k ∨ w.heap.size ≤ k

theorem Moved.grew {w : World} {base t p : Nat} {g : Option Nat} {bs : List Nat} {n : Nat} {w' : World} (h : Moved w base t p g bs n w') : Grew w base t p g bs n w' :=
  ⟨g, h.1, h.2.mono fun _ h => .inl h, fun _ h => .inl h⟩

theorem Grew.on {w : World} {base t p : Nat} {g g1 : Option Nat} {bs bs' : List Nat} {n n' : Nat} {w1 w2 : World} (_ho : Ob w1 base t p g1 bs n) (ht : Touch (Foot p g) w w1) (hr : ∀ k, g1 = some k → g = some k ∨ w.heap.size ≤ k) (h2 : Grew w1 base t p g1 bs' n' w2) : Grew w base t p g bs' n' w2 := by
  obtain ⟨g2, ho2, ht2, hr2⟩ := h2
  refine ⟨g2, ho2, ht.trans' ht2 ?_, ?_⟩
  · intro i hi hlt
    rcases hi with rfl | hi
    · exact .inl rfl
    · rcases hr i hi with h | h
      · exact .inr h
      · omega
  · intro k hk
    rcases hr2 k hk with h | h
    · exact hr k h
    · exact .inr (Nat.le_trans ht.size h)

/-- The two cells written: a new row, a number. -/
theorem grew_of {w w1 : World} {base t p : Nat} {sv v' : Value} {bs bs' : List Nat} {n : Nat} (h : Ob w base t p sv.ownBlock bs n) (hA : Apd w base sv bs' v' w1) (hb : Bs bs') (hsv : w.heap[p]? = some (.cells #[sv, .int .i64 n] t (0, 0))) :
    w1.heap[p]? = some (.cells #[sv, .int .i64 n] t (0, 0)) ∧ Grew w base t p sv.ownBlock bs' n (w1.setCell ⟨p, 0, none⟩ v') := by
  obtain ⟨hp, hg⟩ := h.lt
  have h1 : w1.heap[p]? = some (.cells #[sv, .int .i64 n] t (0, 0)) := (hA.touch.block p hp (fun e => by have := hg p e; omega)).trans hsv
  refine ⟨h1, v'.ownBlock, ⟨⟨v', two_set0 h1, rfl, ownsRow_setCell_other hA.own (fun e => ?_) _⟩, h.hp, hb, h.ht⟩, ?_, hA.row⟩
  · rcases hA.row p e with e | e
    · have := hg p e; omega
    · omega
  · exact (hA.touch.mono fun k hk => .inr hk).setCell _ _ (.inl (.inl rfl))

end Go.Proofs.YtjjjchdocnoabaaDoor
