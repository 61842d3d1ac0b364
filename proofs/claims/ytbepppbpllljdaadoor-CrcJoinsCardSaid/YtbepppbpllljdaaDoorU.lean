/-
  Append onto bytes of the call's own, from whatever slice of bytes.
-/
import Derived.Test.YtbepppbpllljdaaDoorR
import Derived.Deep.RegionLawGrows
import Derived.Deep.AppendLies
import Derived.Laws.AppendOwnNone
namespace Go.Proofs.YtbepppbpllljdaaDoor
open Go.RowKit CrcPlain

/-- A slice value whose elements are the bytes xs. -/
def BySl (w : World) (v : Value) (xs : List Nat) : Prop :=
  (v = .slice none 0 0 ∧ xs = []) ∨ ∃ ad c, v = .slice (some ad) xs.length c ∧ xs.length ≤ c ∧ ∀ j u, (u8s xs)[j]? = some u → w.cell? (ad.add j) = some u

/-- Behind an append: the bytes are owned; only the old row may have been written; the new row is the old one or a new one. -/
structure Apd (w : World) (base : Nat) (v : Value) (bs : List Nat) (v' : Value) (w' : World) : Prop where
  own : w'.ownsRow base 5 1 v' bs.length (u8s bs)
  touch : Touch (fun k => v.ownBlock = some k) w w'
  row : ∀ k, v'.ownBlock = some k → v.ownBlock = some k ∨ w.heap.size ≤ k

theorem u8s_app (a b : List Nat) : u8s a ++ u8s b = u8s (a ++ b) := by simp [u8s]
theorem own_shape' {w : World} {base : Nat} {e : TypeId} {size : Nat} {v : Value} {n : Nat} {xs : List Value} (h : w.ownsRow base e size v n xs) : ∃ a c, v = .slice a n c := by
  rcases h.2 with ⟨rfl, rfl⟩ | ⟨g, cap, cur, rfl, _⟩
  · exact ⟨_, _, rfl⟩
  · exact ⟨_, _, rfl⟩
theorem own_base {w : World} {base base' : Nat} {e : TypeId} {size : Nat} {v : Value} {n : Nat} {xs : List Value} (h : w.ownsRow base e size v n xs) (hb : base' ≤ base) : w.ownsRow base' e size v n xs := by
  refine ⟨h.1, ?_⟩
  rcases h.2 with h2 | ⟨g, cap, cur, hv, hg, r⟩
  · exact .inl h2
  · exact .inr ⟨g, cap, cur, hv, Nat.le_trans hb hg, r⟩
theorem ownsRow_touch {S : Nat → Prop} {w w' : World} {base : Nat} {e : TypeId} {size : Nat} {v : Value} {n : Nat} {xs : List Value} (h : w.ownsRow base e size v n xs) (ht : Touch S w w') (hs : ∀ k, v.ownBlock = some k → ¬ S k) : w'.ownsRow base e size v n xs := by
  refine ⟨h.1, ?_⟩
  rcases h.2 with hn | ⟨g, cap, cur, rfl, hb, hgg, rest⟩
  · exact .inl hn
  · refine .inr ⟨g, cap, cur, rfl, hb, ?_, rest⟩
    rw [ht.block g (Array.getElem?_eq_some_iff.1 hgg).1 (hs g (by simp [Value.ownBlock]))]
    exact hgg

theorem run_append_x (w : World) {base : Nat} {v sv : Value} {xs ys : List Nat} (ty : TypeId) (hown : w.ownsRow base 5 1 v xs.length (u8s xs)) (hs : BySl w sv ys) (hbase : base ≤ w.heap.size) (hl : xs.length + ys.length ≤ 2000000000) :
    ∃ v' w', (Builtin.append_ #[22, 22] ty #[v, sv]).run Tryd.prog w = .ok v' w' ∧ Apd w base v (xs ++ ys) v' w' := by
  obtain ⟨i0, hi, hz0, hz1, hz2⟩ := info_parts Tryd.info5
  have hlen : (xs ++ ys).length = xs.length + ys.length := List.length_append
  rcases hs with ⟨rfl, rfl⟩ | ⟨ad, c, rfl, hc, hcell⟩
  · refine ⟨v, w, run_append_owned_none w base 22 ty 5 i0 1 Tryd.underlying22 hi v xs.length (u8s xs) hown, ?_, Touch.refl _ _, fun k hk => .inl hk⟩
    simpa using hown
  · rcases hown.2 with ⟨rfl, hn0⟩ | ⟨g, cap, cur, rfl, hbg, hh, hnc, hcm, hcs, htake⟩
    · have hx : xs = [] := List.eq_nil_of_length_eq_zero hn0
      subst hx
      obtain ⟨v', w', hr, ho, hg, _⟩ := run_append_own (P := Tryd.prog) w w.heap.size 22 ty 5 i0 (.int .u8 0) 1 1 Tryd.underlying22 hi hz0 hz1 hz2 rfl (by decide) (.slice none 0 0) 0 [] (World.ownsRow_nil _ _ _ _) ad ys.length c (u8s ys) (by simp [u8s_len]) hcell (u8s_one ys) (by unfold maxLen; simp only [List.length_nil] at hl; omega) (by simp only [List.length_nil] at hl; omega) (Nat.le_refl _)
      have ho' : w'.ownsRow w.heap.size 5 1 v' ([] ++ ys).length (u8s ([] ++ ys)) := by simpa using ho
      exact ⟨v', w', hr, own_base ho' hbase, (Touch.refl _ w).grown hg fun k hk => by simp [Value.ownBlock] at hk, fun k hk => .inr (ho'.lt k hk).1⟩
    · by_cases hroom : xs.length + ys.length ≤ cap
      · obtain ⟨w', hr, ho, hg⟩ := run_append_fits (P := Tryd.prog) w base 22 ty 5 i0 1 Tryd.underlying22 hi hz1 g xs.length cap (u8s xs) hown ad ys.length c (u8s ys) (by simp [u8s_len]) hcell (u8s_one ys) hroom
        rw [u8s_app, ← hlen] at ho
        refine ⟨_, w', hr, hlen ▸ ho, (Touch.refl _ w).grown hg fun k hk => .inl (by cases hk; simp [Value.ownBlock]), fun k hk => .inl (by simpa [Value.ownBlock] using hk)⟩
      · obtain ⟨v', w', hr, ho, hg⟩ := run_append_arg_grows (P := Tryd.prog) w 22 ty 5 i0 (.int .u8 0) 1 1 Tryd.underlying22 hi hz0 hz1 hz2 rfl (by decide) ⟨g, 0, none⟩ xs.length cap (u8s xs) (by simp [u8s_len]) (hown.cells (by simp [Value.ownBlock])) ad ys.length c (u8s ys) (by simp [u8s_len]) hcell (by omega) (by unfold maxLen; omega) (by omega)
        rw [u8s_app, ← hlen] at ho
        exact ⟨v', w', hr, own_base ho hbase, (Touch.refl _ w).grown hg (fun k hk => by cases hk), fun k hk => .inr (ho.lt k hk).1⟩

theorem wpList_append_x {w : World} {ops : Array Oper} {rest : List Oper} {o : Oper} {a : Act} {Q : Exit → Act → World → Prop} (hgd : o.guard = none) (s x : Operand)
    (ho : o.op = .call { callee := .builtin .append, args := #[s, x], argTypes := #[22, 22] })
    (base : Nat) (v sv : Value) (xs ys : List Nat) (hs : a.eval s = v) (hx : a.eval x = sv) (hown : w.ownsRow base 5 1 v xs.length (u8s xs)) (hsrc : BySl w sv ys) (hbase : base ≤ w.heap.size) (hl : xs.length + ys.length ≤ 2000000000)
    (h : ∀ ao c w', Apd w base v (xs ++ ys) (.slice ao (xs ++ ys).length c) w' → wpList Tryd.prog ops Q rest (a.put o.dst (.slice ao (xs ++ ys).length c)) w') : wpList Tryd.prog ops Q (o :: rest) a w := by
  refine wpList_plain hgd fun K hK => ?_
  obtain ⟨v', w', hrun, hA⟩ := run_append_x w o.type hown hsrc hbase hl
  obtain ⟨ao, c, rfl⟩ := own_shape' hA.own
  unfold Oper.wp
  simp [execOp, ho, resolve, invoke, builtin, hs, hx, hrun, Result.andThen]
  exact hK _ _ (by simpa using h ao c w' hA)
end Go.Proofs.YtbepppbpllljdaaDoor
